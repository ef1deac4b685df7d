/- Dq -/
import Derived.Test.YtaooidckmepdeaaGreatDoorSkc
namespace Go.Proofs.YtaooidckmepdeaaGreatDoor
set_option linter.unusedSimpArgs false
set_option linter.unusedVariables false
set_option maxRecDepth 100000
set_option maxHeartbeats 6400000
open Go.RowKit
section
open Go.RowKit
theorem rR (a:Option Addr) (cap:Nat) (l:List Nat) (w:World) (ht:Tab w) (hr:Row w a l) (hl:l.length<=cap) (hc:cap<=maxLen) (hl2:l.length<=1000000000000) (h48:48<=l.length) (hsz:48<=lenN l/\lenN l<=l.length/\lenN l<=6000) (hsum:P.sum ((l.take (lenN l)).drop 16)≠getV l 12 4 true) :
 Calls Tryz.prog 84 #[.slice a l.length cap] w fun e w'=>(OkB l->∃a' c',e=.returned (.tuple #[bav (bOf l) a' c',.int .i64 ((lenN l:Nat):Int),.int .i64 0])/\RRow w' a' (bOf l).rs/\(a'=none->c'=0)/\(∀g,a'=some g->w.heap.size<=g.block))/\(¬OkB l->e=.returned (.tuple #[bav bz none 0,.int .i64 0,.int .i64 10]))/\Below w.heap.size w w':=by
 have h0:0 < l.length:=by omega
 obtain⟨pb,poff,rfl,hc0,_⟩:=hr 0 h0
 have hpb:pb < w.heap.size:=by have:=World.block_lt_of_cell? _ _ hc0;simpa using this
 clear hc0
 have hmem:=bF (fun i=>hr.lt i)
 have hgl:=fun i n=>dK l i n (fun j=>hr.lt j)
 obtain⟨PO,HPO⟩:∃PO:Ending->World->Prop,Hid (PO=fun e w'=>(OkB l->∃a' c',e=.returned (.tuple #[bav (bOf l) a' c',.int .i64 ((lenN l:Nat):Int),.int .i64 0])/\RRow w' a' (bOf l).rs/\(a'=none->c'=0)/\(∀g,a'=some g->w.heap.size<=g.block))/\(¬OkB l->e=.returned (.tuple #[bav bz none 0,.int .i64 0,.int .i64 10]))/\Below w.heap.size w w'):=⟨_,rfl⟩
 have HPB:Hid (¬OkB l->∀e w',(e=.returned (.tuple #[.agg #[.int .i64 0,.int .i64 0,.int .i64 0,.int .i64 0,.slice none 0 0],.int .i64 0,.int .i64 10])/\Below w.heap.size w w')->PO e w'):=fun hn e w' h=>by rw[HPO.out];exact⟨fun q=>absurd q hn,fun _=>h.1,h.2⟩
 have HPG:Hid (OkB l->∀e w',(∃a' c',e=.returned (.tuple #[bav (bOf l) a' c',.int .i64 ((lenN l:Nat):Int),.int .i64 0])/\RRow w' a' (bOf l).rs/\(a'=none->c'=0)/\(∀g,a'=some g->w.heap.size<=g.block))->Below w.heap.size w w'->PO e w'):=fun hy e w' h hb=>by rw[HPO.out];exact⟨fun _=>h,fun q=>absurd hy q,hb⟩
 rw[<-HPO.out]
 clear HPO
 obtain⟨h,HHD⟩:∃h,Hid (l.take 48=h):=⟨_,rfl⟩
 have hh48:h.length=48:=by rw[<-HHD.out,List.length_take];omega
 have HRG:Hid (∀y,Below w.heap.size w y->y.rangeAt pb poff (cv h)):=fun y hb=>by rw[<-HHD.out];exact eQ (hr.below hb) 48
 have HCL:Hid ((cv h).length=48):=by show _=_;rw[aQ,hh48]
 have HSZ:Hid ((cv h).toArray.size=48):=bS HCL.out
 have HLD:Hid (∀y,DcS w h y->(loadVar 171 ⟨w.heap.size+1,0,none⟩).run Tryz.prog y=.ok (.agg (cv h).toArray) y):=fun y hy=>DcS.load hy HSZ.out
 have hhm:∀i,h.getD i 0 < 256:=by rw[<-HHD.out];exact cG (fun x hx=>hmem x (List.mem_of_mem_take hx))
 have num4:∀i:Nat,i+4<=48->∀x,Calls Tryz.prog 96 #[.agg (cv h).toArray,.int .i64 (i:Int),.int .i64 4] x fun e w'=>e=.returned (.int .i64 ((getV l i 4 true:Nat):Int))/\Below x.heap.size x w':=by
  intro i hi x
  have h2:=cA h i 4 x hh48 hhm (by decide) (by decide) hi
  rw[<-HHD.out,cC l i 4 48 hi,HHD.out] at h2
  have h3:=hgl i 4
  rw[w64 _ (by omega) (by omega)] at h2
  exact h2
 have num8:∀i:Nat,i+8<=48->∀x,Calls Tryz.prog 96 #[.agg (cv h).toArray,.int .i64 (i:Int),.int .i64 8] x fun e w'=>e=.returned (.int .i64 (wrap64 (getV l i 8 true)))/\Below x.heap.size x w':=by
  intro i hi x
  have h2:=cA h i 8 x hh48 hhm (by decide) (by decide) hi
  rw[<-HHD.out,cC l i 8 48 hi,HHD.out] at h2
  exact h2
 have HN0:Hid _:=num8 0 (by decide)
 have HN1:Hid _:=num4 8 (by decide)
 have HN2:Hid _:=num4 12 (by decide)
 have HN3:Hid _:=num8 16 (by decide)
 have HN4:Hid _:=num8 24 (by decide)
 have HN5:Hid _:=num4 32 (by decide)
 have HN6:Hid _:=num4 36 (by decide)
 have HN7:Hid _:=num8 40 (by decide)
 have hx1:=hgl 8 4
 have hx6:=hgl 36 4
 have hx2:=hgl 12 4
 have hLN:lenN l=12+getV l 8 4 true:=rfl
 have HOK:Hid (OkB l->48<=lenN l/\lenN l<=l.length/\lenN l<=6000/\P.sum ((l.take (lenN l)).drop 16)=getV l 12 4 true):=fun h=>⟨h.n48,h.nl,h.nm,h.sum⟩
 have HCT:Hid (cntOf l=getV l 36 4 true/\frsOf l=wrap64 (getV l 40 8 true)):=⟨rfl,rfl⟩
 have HBO:Hid (∀rs,recs (partOf l) (frsOf l) (cntOf l)=rs->bOf l=⟨wrap64 (getV l 0 8 true),getV l 32 4 true,wrap64 (getV l 16 8 true),wrap64 (getV l 24 8 true),rs⟩):=fun rs h=>by unfold bOf;rw[h]
 clear hgl num4 num8
 generalize getV l 0 8 true=X0 at *
 generalize getV l 8 4 true=X1 at *
 generalize hX2V:getV l 12 4 true=X2 at *
 have HX2V:Hid (getV l 12 4 true=X2):=hX2V
 clear hX2V
 generalize getV l 16 8 true=X3 at *
 generalize getV l 24 8 true=X4 at *
 generalize getV l 32 4 true=X5 at *
 generalize getV l 36 4 true=X6 at *
 generalize getV l 40 8 true=X7 at *
 generalize wrap64 (X0:Int)=B0 at *
 generalize wrap64 (X3:Int)=B3 at *
 generalize wrap64 (X4:Int)=B4 at *
 generalize wrap64 (X7:Int)=B7 at *
 obtain⟨NN,HNN⟩:∃NN,Hid (lenN l=NN):=⟨_,rfl⟩
 rw[HNN.out] at hLN HOK HPG hsz hsum
 have hwN:IntKind.i64.wrap (12+(X1:Int))=(NN:Int):=by rw[IntKind.wrap_i64];omega
 have HNI:Hid ((12:Int)+(X1:Int)=(NN:Int)):=by show _=_;omega
 have HIC:Hid ((Tryz.prog.info? 171).map (·.size)=some (cv h).length):=by show _=_;rw[HCL.out];exact Tryz.info171
 have ks0:=fun y=>cF y ⟨pb,poff,none⟩ l.length cap (by omega)
 have ka:=fun y=>run_arrayAt y ⟨pb,poff,none⟩ cap
 have hlI:¬(l.length:Int) < 48:=by omega
 have tokA:=trivial
 have HROW:Hid (Row w (some ⟨pb,poff,none⟩) l):=hr
 have HT:Hid (Tab w):=ht
 clear hr ht hh48 hhm hLN
 obtain⟨g1,g2,g3⟩:=hsz
 have g1d:decide ((NN:Int) < 48)=false:=decide_eq_false (by omega)
 have g2d:decide ((l.length:Int) < (NN:Int))=false:=decide_eq_false (by omega)
 have g3d:decide ((6000:Int) < (NN:Int))=false:=decide_eq_false (by omega)
 have ks1:∀y,(Instr.slice 22 (.slice (some ⟨pb,poff,none⟩) l.length cap) (some (.int .i64 16)) (some (.int .i64 (NN:Int))) none).run Tryz.prog y=.ok (.slice (cutA (some ⟨pb,poff,none⟩) cap 16) (NN - 16) (cap - 16)) y:=fun y=>bK y _ l.length cap 16 NN (by omega) (by omega)
 have ks2:∀y,(Instr.slice 22 (.slice (some ⟨pb,poff,none⟩) l.length cap) (some (.int .i64 48)) (some (.int .i64 (NN:Int))) none).run Tryz.prog y=.ok (.slice (cutA (some ⟨pb,poff,none⟩) cap 48) (NN - 48) (cap - 48)) y:=fun y=>bK y _ l.length cap 48 NN (by omega) (by omega)
 obtain⟨SU,HSU⟩:∃SU,Hid (P.sum ((l.take NN).drop 16)=SU):=⟨_,rfl⟩
 have hsl:SU < 4294967296:=by rw[<-HSU.out];exact sum_lt _ (fun x hx=>hmem x (List.mem_of_mem_take (List.mem_of_mem_drop hx)))
 have HSM:Hid (∀y,Below w.heap.size w y->Calls Tryz.prog 97 #[.slice (cutA (some ⟨pb,poff,none⟩) cap 16) (NN - 16) (cap - 16)] y fun e w'=>e=.returned (.int .u32 (SU:Nat))/\w'=y):=by
  intro y hb
  have hlen:((l.take NN).drop 16).length=NN - 16:=by rw[List.length_drop,List.length_take];omega
  have:=sum_any (cutA (some ⟨pb,poff,none⟩) cap 16) (cap - 16) ((l.take NN).drop 16) y (Tab.below HT.out hb) (dW cap 16 NN (Row.below HROW.out hb) hl) (by rw[hlen];unfold maxLen;omega)
  rw[hlen,HSU.out] at this
  exact this
 rw[HSU.out] at HOK
 have hwu:IntKind.u32.wrap (X2:Int)=(X2:Int):=by rw[IntKind.wrap_u32];omega
 rw[HSU.out] at hsum
 have HNO:Hid (¬OkB l):=fun q=>hsum (HOK.out q).2.2.2
 have g4d:((SU:Int) != (X2:Int))=true:=by rw[bne_iff_ne];omega
 clear HOK HPG hsum HCT HBO
 go_enter Tryz.func84,Tryz.ntmps84
 go_wp2_with (first
  | (have _t:=tokA;refine wpList_load_mid rfl 171 _ rfl pb poff rfl (cv h) _ (HRG.out _ (aA _)) Tryz.underlying171 rfl (by rw[HCL.out];exact Tryz.info171) ?_)
  | (have _t:=tokA;refine wpList_store_row rfl 171 _ _ rfl (w.heap.size+1) (cv h).toArray rfl rfl 171 #[.int .u8 0,.int .u8 0,.int .u8 0,.int .u8 0,.int .u8 0,.int .u8 0,.int .u8 0,.int .u8 0,.int .u8 0,.int .u8 0,.int .u8 0,.int .u8 0,.int .u8 0,.int .u8 0,.int .u8 0,.int .u8 0,.int .u8 0,.int .u8 0,.int .u8 0,.int .u8 0,.int .u8 0,.int .u8 0,.int .u8 0,.int .u8 0,.int .u8 0,.int .u8 0,.int .u8 0,.int .u8 0,.int .u8 0,.int .u8 0,.int .u8 0,.int .u8 0,.int .u8 0,.int .u8 0,.int .u8 0,.int .u8 0,.int .u8 0,.int .u8 0,.int .u8 0,.int .u8 0,.int .u8 0,.int .u8 0,.int .u8 0,.int .u8 0,.int .u8 0,.int .u8 0,.int .u8 0,.int .u8 0] (fE w) (by rw[HSZ.out];exact Tryz.info171) (by rw[HSZ.out];rfl) (cH h) ?_;clear tokA _t;have HX:Hid (DcS w h (((w.alloc (.cells #[.int .i64 0,.int .i64 0,.int .i64 0,.int .i64 0,.slice none 0 0] 88)).alloc (.cells #[.int .u8 0,.int .u8 0,.int .u8 0,.int .u8 0,.int .u8 0,.int .u8 0,.int .u8 0,.int .u8 0,.int .u8 0,.int .u8 0,.int .u8 0,.int .u8 0,.int .u8 0,.int .u8 0,.int .u8 0,.int .u8 0,.int .u8 0,.int .u8 0,.int .u8 0,.int .u8 0,.int .u8 0,.int .u8 0,.int .u8 0,.int .u8 0,.int .u8 0,.int .u8 0,.int .u8 0,.int .u8 0,.int .u8 0,.int .u8 0,.int .u8 0,.int .u8 0,.int .u8 0,.int .u8 0,.int .u8 0,.int .u8 0,.int .u8 0,.int .u8 0,.int .u8 0,.int .u8 0,.int .u8 0,.int .u8 0,.int .u8 0,.int .u8 0,.int .u8 0,.int .u8 0,.int .u8 0,.int .u8 0] 171)).setRow (w.heap.size+1) (cv h).toArray)):=DcS.made w h;generalize ((w.alloc (.cells #[.int .i64 0,.int .i64 0,.int .i64 0,.int .i64 0,.slice none 0 0] 88)).alloc (.cells #[.int .u8 0,.int .u8 0,.int .u8 0,.int .u8 0,.int .u8 0,.int .u8 0,.int .u8 0,.int .u8 0,.int .u8 0,.int .u8 0,.int .u8 0,.int .u8 0,.int .u8 0,.int .u8 0,.int .u8 0,.int .u8 0,.int .u8 0,.int .u8 0,.int .u8 0,.int .u8 0,.int .u8 0,.int .u8 0,.int .u8 0,.int .u8 0,.int .u8 0,.int .u8 0,.int .u8 0,.int .u8 0,.int .u8 0,.int .u8 0,.int .u8 0,.int .u8 0,.int .u8 0,.int .u8 0,.int .u8 0,.int .u8 0,.int .u8 0,.int .u8 0,.int .u8 0,.int .u8 0,.int .u8 0,.int .u8 0,.int .u8 0,.int .u8 0,.int .u8 0,.int .u8 0,.int .u8 0,.int .u8 0] 171)).setRow (w.heap.size+1) (cv h).toArray=x0 at HX ⊢;have HX0:Hid (DcS w h x0):=HX;clear HX)
  | (have _t:=HX0;refine wpList_load_row rfl 171 _ rfl (w.heap.size+1) rfl 171 (cv h).toArray (0,0) _ HX0.out.arr Tryz.underlying171 rfl (by rw[HSZ.out];exact Tryz.info171) ?_)
  | (go_at_call 96;have _t:=HX0;refine(HN1.out _).mono ?_;rintro e x1 ⟨rfl,hb⟩;have HX1:Hid (DcS w h x1):=DcS.below HX0.out hb;clear hb HX0 _t))
 have hS0:DcS w h x1.drew:=DcS.below HX1.out (Below.refl _ _).drew
 refine aD (DcS w h) 7 (by kernel_rfl) hS0 (fun hHeld=>?_)
 clear hS0
 refine lB 0 ?_
 try simp only[Act.put,sP]
 refine lB 1 ?_
 try simp only[Act.put,sP]
 refine lB 2 ?_
 try simp only[Act.put,sP]
 refine aX 4 rfl (by kernel_rfl) (by kernel_rfl) (by kernel_rfl) (by kernel_rfl) (fun _ _ _ _ h=>h) (by rfl) 171 _ rfl (w.heap.size+1) 0 rfl (cv h) _ (fun y hy=>DcS.range hy) Tryz.underlying171 rfl HIC.out (by assumption) ?_
 try simp only[Act.put,sP]
 refine lo 3 fun K hK=>?_
 go_simp
 refine Calls.mono (HSM.out _ hHeld.bel) ?_
 rintro e y2 ⟨rfl,hw⟩
 subst y2
 try dsimp only
 refine hK.out _ _ hHeld (fun hS2=>?_)
 clear hK hHeld
 try simp only[Act.put,sP]
 refine lo 5 fun K hK=>?_
 go_simp
 refine Calls.mono (HN2.out _) ?_
 rintro e x2 ⟨rfl,hb⟩
 try dsimp only
 have hS2':=DcS.below hS2 hb
 refine hK.out _ _ hS2' (fun hS3=>?_)
 clear hK hS2 hb hS2'
 try simp only[Act.put,sP]
 refine lB 6 ?_
 try simp only[Act.put,sP]
 refine ll 7 fun K hK=>?_
 go_simp
 try dsimp only
 refine hK.out _ _ ?_
 clear hK
 try simp only[Act.put,sP]
 have HX2:Hid (DcS w h x2):=hS3
 clear hS3
 go_wp2_with ((have _t:=HX2;refine wpList_store_row rfl 88 _ _ rfl w.heap.size #[.int .i64 0,.int .i64 0,.int .i64 0,.int .i64 0,.slice none 0 0] rfl rfl 88 _ HX2.out.res Tryz.info88 rfl (aO _ _ _ _ _ _ _) ?_))
 refine bodyPost_ret (v:=.tuple #[.agg #[.int .i64 0,.int .i64 0,.int .i64 0,.int .i64 0,.slice none 0 0],.int .i64 0,.int .i64 10]) ?_ rfl (HPB.out HNO.out _ _ ⟨rfl,below_setRow HX2.out.bel (Nat.le_refl _) _⟩)
 exact aE (p:=2) (u:=3) (u2:=4) (by rfl) _ _ w.heap.size _ _ _ (by rfl) (by rfl) (by rfl) rfl (setRow_heap _ _ _ _ _ _ HX2.out.res)
open Go.RowKit
theorem pP (a:Option Addr) (cap:Nat) (l:List Nat) (w:World) (ht:Tab w) (hr:Row w a l) (hl:l.length<=cap) (hc:cap<=maxLen) (hl2:l.length<=1000000000000) (h48:48<=l.length) (hsz:48<=lenN l/\lenN l<=l.length/\lenN l<=6000) (hsum:P.sum ((l.take (lenN l)).drop 16)=getV l 12 4 true) (gA:¬AllOk (partOf l) (frsOf l) (cntOf l)) :
 Calls Tryz.prog 84 #[.slice a l.length cap] w fun e w'=>(OkB l->∃a' c',e=.returned (.tuple #[bav (bOf l) a' c',.int .i64 ((lenN l:Nat):Int),.int .i64 0])/\RRow w' a' (bOf l).rs/\(a'=none->c'=0)/\(∀g,a'=some g->w.heap.size<=g.block))/\(¬OkB l->e=.returned (.tuple #[bav bz none 0,.int .i64 0,.int .i64 10]))/\Below w.heap.size w w':=by
 have h0:0 < l.length:=by omega
 obtain⟨pb,poff,rfl,hc0,_⟩:=hr 0 h0
 have hpb:pb < w.heap.size:=by have:=World.block_lt_of_cell? _ _ hc0;simpa using this
 clear hc0
 have hmem:=bF (fun i=>hr.lt i)
 have hgl:=fun i n=>dK l i n (fun j=>hr.lt j)
 obtain⟨PO,HPO⟩:∃PO:Ending->World->Prop,Hid (PO=fun e w'=>(OkB l->∃a' c',e=.returned (.tuple #[bav (bOf l) a' c',.int .i64 ((lenN l:Nat):Int),.int .i64 0])/\RRow w' a' (bOf l).rs/\(a'=none->c'=0)/\(∀g,a'=some g->w.heap.size<=g.block))/\(¬OkB l->e=.returned (.tuple #[bav bz none 0,.int .i64 0,.int .i64 10]))/\Below w.heap.size w w'):=⟨_,rfl⟩
 have HPB:Hid (¬OkB l->∀e w',(e=.returned (.tuple #[.agg #[.int .i64 0,.int .i64 0,.int .i64 0,.int .i64 0,.slice none 0 0],.int .i64 0,.int .i64 10])/\Below w.heap.size w w')->PO e w'):=fun hn e w' h=>by rw[HPO.out];exact⟨fun q=>absurd q hn,fun _=>h.1,h.2⟩
 have HPG:Hid (OkB l->∀e w',(∃a' c',e=.returned (.tuple #[bav (bOf l) a' c',.int .i64 ((lenN l:Nat):Int),.int .i64 0])/\RRow w' a' (bOf l).rs/\(a'=none->c'=0)/\(∀g,a'=some g->w.heap.size<=g.block))->Below w.heap.size w w'->PO e w'):=fun hy e w' h hb=>by rw[HPO.out];exact⟨fun _=>h,fun q=>absurd hy q,hb⟩
 rw[<-HPO.out]
 clear HPO
 obtain⟨h,HHD⟩:∃h,Hid (l.take 48=h):=⟨_,rfl⟩
 have hh48:h.length=48:=by rw[<-HHD.out,List.length_take];omega
 have HRG:Hid (∀y,Below w.heap.size w y->y.rangeAt pb poff (cv h)):=fun y hb=>by rw[<-HHD.out];exact eQ (hr.below hb) 48
 have HCL:Hid ((cv h).length=48):=by show _=_;rw[aQ,hh48]
 have HSZ:Hid ((cv h).toArray.size=48):=bS HCL.out
 have HLD:Hid (∀y,DcS w h y->(loadVar 171 ⟨w.heap.size+1,0,none⟩).run Tryz.prog y=.ok (.agg (cv h).toArray) y):=fun y hy=>DcS.load hy HSZ.out
 have hhm:∀i,h.getD i 0 < 256:=by rw[<-HHD.out];exact cG (fun x hx=>hmem x (List.mem_of_mem_take hx))
 have num4:∀i:Nat,i+4<=48->∀x,Calls Tryz.prog 96 #[.agg (cv h).toArray,.int .i64 (i:Int),.int .i64 4] x fun e w'=>e=.returned (.int .i64 ((getV l i 4 true:Nat):Int))/\Below x.heap.size x w':=by
  intro i hi x
  have h2:=cA h i 4 x hh48 hhm (by decide) (by decide) hi
  rw[<-HHD.out,cC l i 4 48 hi,HHD.out] at h2
  have h3:=hgl i 4
  rw[w64 _ (by omega) (by omega)] at h2
  exact h2
 have num8:∀i:Nat,i+8<=48->∀x,Calls Tryz.prog 96 #[.agg (cv h).toArray,.int .i64 (i:Int),.int .i64 8] x fun e w'=>e=.returned (.int .i64 (wrap64 (getV l i 8 true)))/\Below x.heap.size x w':=by
  intro i hi x
  have h2:=cA h i 8 x hh48 hhm (by decide) (by decide) hi
  rw[<-HHD.out,cC l i 8 48 hi,HHD.out] at h2
  exact h2
 have HN0:Hid _:=num8 0 (by decide)
 have HN1:Hid _:=num4 8 (by decide)
 have HN2:Hid _:=num4 12 (by decide)
 have HN3:Hid _:=num8 16 (by decide)
 have HN4:Hid _:=num8 24 (by decide)
 have HN5:Hid _:=num4 32 (by decide)
 have HN6:Hid _:=num4 36 (by decide)
 have HN7:Hid _:=num8 40 (by decide)
 have hx1:=hgl 8 4
 have hx6:=hgl 36 4
 have hx2:=hgl 12 4
 have hLN:lenN l=12+getV l 8 4 true:=rfl
 have HOK:Hid (OkB l->48<=lenN l/\lenN l<=l.length/\lenN l<=6000/\P.sum ((l.take (lenN l)).drop 16)=getV l 12 4 true):=fun h=>⟨h.n48,h.nl,h.nm,h.sum⟩
 have HCT:Hid (cntOf l=getV l 36 4 true/\frsOf l=wrap64 (getV l 40 8 true)):=⟨rfl,rfl⟩
 have HBO:Hid (∀rs,recs (partOf l) (frsOf l) (cntOf l)=rs->bOf l=⟨wrap64 (getV l 0 8 true),getV l 32 4 true,wrap64 (getV l 16 8 true),wrap64 (getV l 24 8 true),rs⟩):=fun rs h=>by unfold bOf;rw[h]
 clear hgl num4 num8
 generalize getV l 0 8 true=X0 at *
 generalize getV l 8 4 true=X1 at *
 generalize hX2V:getV l 12 4 true=X2 at *
 have HX2V:Hid (getV l 12 4 true=X2):=hX2V
 clear hX2V
 generalize getV l 16 8 true=X3 at *
 generalize getV l 24 8 true=X4 at *
 generalize getV l 32 4 true=X5 at *
 generalize getV l 36 4 true=X6 at *
 generalize getV l 40 8 true=X7 at *
 generalize wrap64 (X0:Int)=B0 at *
 generalize wrap64 (X3:Int)=B3 at *
 generalize wrap64 (X4:Int)=B4 at *
 generalize wrap64 (X7:Int)=B7 at *
 obtain⟨NN,HNN⟩:∃NN,Hid (lenN l=NN):=⟨_,rfl⟩
 rw[HNN.out] at hLN HOK HPG hsz hsum
 have hwN:IntKind.i64.wrap (12+(X1:Int))=(NN:Int):=by rw[IntKind.wrap_i64];omega
 have HNI:Hid ((12:Int)+(X1:Int)=(NN:Int)):=by show _=_;omega
 have HIC:Hid ((Tryz.prog.info? 171).map (·.size)=some (cv h).length):=by show _=_;rw[HCL.out];exact Tryz.info171
 have ks0:=fun y=>cF y ⟨pb,poff,none⟩ l.length cap (by omega)
 have ka:=fun y=>run_arrayAt y ⟨pb,poff,none⟩ cap
 have hlI:¬(l.length:Int) < 48:=by omega
 have tokA:=trivial
 have HROW:Hid (Row w (some ⟨pb,poff,none⟩) l):=hr
 have HT:Hid (Tab w):=ht
 clear hr ht hh48 hhm hLN
 obtain⟨g1,g2,g3⟩:=hsz
 have g1d:decide ((NN:Int) < 48)=false:=decide_eq_false (by omega)
 have g2d:decide ((l.length:Int) < (NN:Int))=false:=decide_eq_false (by omega)
 have g3d:decide ((6000:Int) < (NN:Int))=false:=decide_eq_false (by omega)
 have ks1:∀y,(Instr.slice 22 (.slice (some ⟨pb,poff,none⟩) l.length cap) (some (.int .i64 16)) (some (.int .i64 (NN:Int))) none).run Tryz.prog y=.ok (.slice (cutA (some ⟨pb,poff,none⟩) cap 16) (NN - 16) (cap - 16)) y:=fun y=>bK y _ l.length cap 16 NN (by omega) (by omega)
 have ks2:∀y,(Instr.slice 22 (.slice (some ⟨pb,poff,none⟩) l.length cap) (some (.int .i64 48)) (some (.int .i64 (NN:Int))) none).run Tryz.prog y=.ok (.slice (cutA (some ⟨pb,poff,none⟩) cap 48) (NN - 48) (cap - 48)) y:=fun y=>bK y _ l.length cap 48 NN (by omega) (by omega)
 obtain⟨SU,HSU⟩:∃SU,Hid (P.sum ((l.take NN).drop 16)=SU):=⟨_,rfl⟩
 have hsl:SU < 4294967296:=by rw[<-HSU.out];exact sum_lt _ (fun x hx=>hmem x (List.mem_of_mem_take (List.mem_of_mem_drop hx)))
 have HSM:Hid (∀y,Below w.heap.size w y->Calls Tryz.prog 97 #[.slice (cutA (some ⟨pb,poff,none⟩) cap 16) (NN - 16) (cap - 16)] y fun e w'=>e=.returned (.int .u32 (SU:Nat))/\w'=y):=by
  intro y hb
  have hlen:((l.take NN).drop 16).length=NN - 16:=by rw[List.length_drop,List.length_take];omega
  have:=sum_any (cutA (some ⟨pb,poff,none⟩) cap 16) (cap - 16) ((l.take NN).drop 16) y (Tab.below HT.out hb) (dW cap 16 NN (Row.below HROW.out hb) hl) (by rw[hlen];unfold maxLen;omega)
  rw[hlen,HSU.out] at this
  exact this
 rw[HSU.out] at HOK
 have hwu:IntKind.u32.wrap (X2:Int)=(X2:Int):=by rw[IntKind.wrap_u32];omega
 rw[HSU.out] at hsum
 subst hsum
 obtain⟨gc1,gc2⟩:=HCT.out
 have hpl:(partOf l).length=NN - 48:=by unfold partOf;rw[HNN.out,List.length_drop,List.length_take];omega
 have HSP0:Hid (∀y,Below w.heap.size w y->Calls Tryz.prog 98 #[.slice (cutA (some ⟨pb,poff,none⟩) cap 48) (NN - 48) (cap - 48),.int .i64 (X6:Int),.int .i64 B7] y fun e w'=>(AllOk (partOf l) (frsOf l) (cntOf l)->∃a' c',e=.returned (.tuple #[.slice a' X6 c',.bool (decide (rest (partOf l) (frsOf l) (cntOf l)=[]))])/\RRow w' a' (recs (partOf l) (frsOf l) (cntOf l))/\(a'=none->c'=0)/\(∀g,a'=some g->y.heap.size<=g.block))/\(¬AllOk (partOf l) (frsOf l) (cntOf l)->e=.returned (.tuple #[.slice none 0 0,.bool false]))/\Below y.heap.size y w'):=by
  intro y hb
  have h2:=gG (cutA (some ⟨pb,poff,none⟩) cap 48) (cap - 48) (partOf l) X6 B7 y (by unfold partOf;rw[HNN.out];exact dW cap 48 NN (Row.below HROW.out hb) hl) (by omega) (by omega) (by omega) (by omega)
  rw[hpl] at h2
  rw[gc1,gc2]
  exact h2
 have HNO:Hid (¬OkB l):=fun q=>gA q.all
 obtain⟨rs,HRS⟩:∃rs:List Rc,Hid (rs=[]):=⟨[],rfl⟩
 obtain⟨nl,HNL⟩:∃nl:Nat,Hid (nl=0):=⟨0,rfl⟩
 have HSP:Hid (∀y,Below w.heap.size w y->Calls Tryz.prog 98 #[.slice (cutA (some ⟨pb,poff,none⟩) cap 48) (NN - 48) (cap - 48),.int .i64 (X6:Int),.int .i64 B7] y fun e w'=>∃a' c',e=.returned (.tuple #[.slice a' nl c',.bool false])/\RRow w' a' rs/\(a'=none->c'=0)/\(∀g,a'=some g->y.heap.size<=g.block)/\Below y.heap.size y w'):=by
  intro y hb
  refine(HSP0.out y hb).mono ?_
  rintro e w' ⟨_,q,hb2⟩
  obtain rfl:=q gA
  rw[HNL.out,HRS.out]
  exact⟨none,0,rfl,RRow.nil _ _,fun _=>rfl,(fun g hg=>by cases hg),hb2⟩
 clear gA HSP0 gc1 gc2 HCT HBO hpl HOK HPG
 go_enter Tryz.func84,Tryz.ntmps84
 go_wp2_with (first
  | (have _t:=tokA;refine wpList_load_mid rfl 171 _ rfl pb poff rfl (cv h) _ (HRG.out _ (aA _)) Tryz.underlying171 rfl (by rw[HCL.out];exact Tryz.info171) ?_)
  | (have _t:=tokA;refine wpList_store_row rfl 171 _ _ rfl (w.heap.size+1) (cv h).toArray rfl rfl 171 #[.int .u8 0,.int .u8 0,.int .u8 0,.int .u8 0,.int .u8 0,.int .u8 0,.int .u8 0,.int .u8 0,.int .u8 0,.int .u8 0,.int .u8 0,.int .u8 0,.int .u8 0,.int .u8 0,.int .u8 0,.int .u8 0,.int .u8 0,.int .u8 0,.int .u8 0,.int .u8 0,.int .u8 0,.int .u8 0,.int .u8 0,.int .u8 0,.int .u8 0,.int .u8 0,.int .u8 0,.int .u8 0,.int .u8 0,.int .u8 0,.int .u8 0,.int .u8 0,.int .u8 0,.int .u8 0,.int .u8 0,.int .u8 0,.int .u8 0,.int .u8 0,.int .u8 0,.int .u8 0,.int .u8 0,.int .u8 0,.int .u8 0,.int .u8 0,.int .u8 0,.int .u8 0,.int .u8 0,.int .u8 0] (fE w) (by rw[HSZ.out];exact Tryz.info171) (by rw[HSZ.out];rfl) (cH h) ?_;clear tokA _t;have HX:Hid (DcS w h (((w.alloc (.cells #[.int .i64 0,.int .i64 0,.int .i64 0,.int .i64 0,.slice none 0 0] 88)).alloc (.cells #[.int .u8 0,.int .u8 0,.int .u8 0,.int .u8 0,.int .u8 0,.int .u8 0,.int .u8 0,.int .u8 0,.int .u8 0,.int .u8 0,.int .u8 0,.int .u8 0,.int .u8 0,.int .u8 0,.int .u8 0,.int .u8 0,.int .u8 0,.int .u8 0,.int .u8 0,.int .u8 0,.int .u8 0,.int .u8 0,.int .u8 0,.int .u8 0,.int .u8 0,.int .u8 0,.int .u8 0,.int .u8 0,.int .u8 0,.int .u8 0,.int .u8 0,.int .u8 0,.int .u8 0,.int .u8 0,.int .u8 0,.int .u8 0,.int .u8 0,.int .u8 0,.int .u8 0,.int .u8 0,.int .u8 0,.int .u8 0,.int .u8 0,.int .u8 0,.int .u8 0,.int .u8 0,.int .u8 0,.int .u8 0] 171)).setRow (w.heap.size+1) (cv h).toArray)):=DcS.made w h;generalize ((w.alloc (.cells #[.int .i64 0,.int .i64 0,.int .i64 0,.int .i64 0,.slice none 0 0] 88)).alloc (.cells #[.int .u8 0,.int .u8 0,.int .u8 0,.int .u8 0,.int .u8 0,.int .u8 0,.int .u8 0,.int .u8 0,.int .u8 0,.int .u8 0,.int .u8 0,.int .u8 0,.int .u8 0,.int .u8 0,.int .u8 0,.int .u8 0,.int .u8 0,.int .u8 0,.int .u8 0,.int .u8 0,.int .u8 0,.int .u8 0,.int .u8 0,.int .u8 0,.int .u8 0,.int .u8 0,.int .u8 0,.int .u8 0,.int .u8 0,.int .u8 0,.int .u8 0,.int .u8 0,.int .u8 0,.int .u8 0,.int .u8 0,.int .u8 0,.int .u8 0,.int .u8 0,.int .u8 0,.int .u8 0,.int .u8 0,.int .u8 0,.int .u8 0,.int .u8 0,.int .u8 0,.int .u8 0,.int .u8 0,.int .u8 0] 171)).setRow (w.heap.size+1) (cv h).toArray=x0 at HX ⊢;have HX0:Hid (DcS w h x0):=HX;clear HX)
  | (have _t:=HX0;refine wpList_load_row rfl 171 _ rfl (w.heap.size+1) rfl 171 (cv h).toArray (0,0) _ HX0.out.arr Tryz.underlying171 rfl (by rw[HSZ.out];exact Tryz.info171) ?_)
  | (go_at_call 96;have _t:=HX0;refine(HN1.out _).mono ?_;rintro e x1 ⟨rfl,hb⟩;have HX1:Hid (DcS w h x1):=DcS.below HX0.out hb;clear hb HX0 _t))
 have hS0:DcS w h x1.drew:=DcS.below HX1.out (Below.refl _ _).drew
 refine aD (DcS w h) 7 (by kernel_rfl) hS0 (fun hHeld=>?_)
 clear hS0
 refine lB 0 ?_
 try simp only[Act.put,sP]
 refine lB 1 ?_
 try simp only[Act.put,sP]
 refine lB 2 ?_
 try simp only[Act.put,sP]
 refine aX 4 rfl (by kernel_rfl) (by kernel_rfl) (by kernel_rfl) (by kernel_rfl) (fun _ _ _ _ h=>h) (by rfl) 171 _ rfl (w.heap.size+1) 0 rfl (cv h) _ (fun y hy=>DcS.range hy) Tryz.underlying171 rfl HIC.out (by assumption) ?_
 try simp only[Act.put,sP]
 refine lo 3 fun K hK=>?_
 go_simp
 refine Calls.mono (HSM.out _ hHeld.bel) ?_
 rintro e y2 ⟨rfl,hw⟩
 subst y2
 try dsimp only
 refine hK.out _ _ hHeld (fun hS2=>?_)
 clear hK hHeld
 try simp only[Act.put,sP]
 refine lo 5 fun K hK=>?_
 go_simp
 refine Calls.mono (HN2.out _) ?_
 rintro e x2 ⟨rfl,hb⟩
 try dsimp only
 have hS2':=DcS.below hS2 hb
 refine hK.out _ _ hS2' (fun hS3=>?_)
 clear hK hS2 hb hS2'
 try simp only[Act.put,sP]
 refine lB 6 ?_
 try simp only[Act.put,sP]
 refine ll 7 fun K hK=>?_
 go_simp
 try dsimp only
 refine hK.out _ _ ?_
 clear hK
 try simp only[Act.put,sP]
 have HX2:Hid (DcS w h x2):=hS3
 clear hS3
 as_aux_lemma=>
  go_wp2_with (first
   | (have _t:=HX2;refine wpList_load_row rfl 171 _ rfl (w.heap.size+1) rfl 171 (cv h).toArray (0,0) _ HX2.out.arr Tryz.underlying171 rfl (by rw[HSZ.out];exact Tryz.info171) ?_)
   | (go_at_call 96;have _t:=HX2;refine(HN7.out _).mono ?_;rintro e x3 ⟨rfl,hb⟩;have HX3:Hid (DcS w h x3):=DcS.below HX2.out hb;clear hb HX2 _t))
  have hS0:DcS w h x3.drew:=DcS.below HX3.out (Below.refl _ _).drew
  refine aD (DcS w h) 11 (by kernel_rfl) hS0 (fun hHeld=>?_)
  clear hS0 HX3
  refine lB 0 ?_
  try simp only[Act.put,sP]
  refine lB 1 ?_
  try simp only[Act.put,sP]
  refine lB 2 ?_
  try simp only[Act.put,sP]
  refine aX 3 rfl (by kernel_rfl) (by kernel_rfl) (by kernel_rfl) (by kernel_rfl) (fun _ _ _ _ h=>h) (by rfl) 171 _ rfl (w.heap.size+1) 0 rfl (cv h) _ (fun y hy=>DcS.range hy) Tryz.underlying171 rfl HIC.out (by assumption) ?_
  try simp only[Act.put,sP]
  refine lB 5 ?_
  try simp only[Act.put,sP]
  refine lo 4 fun K hK=>?_
  go_simp
  refine Calls.mono (HN6.out _) ?_
  rintro e x4 ⟨rfl,hb⟩
  try dsimp only
  have hS4:=DcS.below hHeld hb
  refine hK.out _ _ hS4 (fun hS5=>?_)
  clear hK hb hS4 hHeld
  try simp only[Act.put,sP]
  refine lo 6 fun K hK=>?_
  go_simp
  refine Calls.mono (HSP.out _ hS5.bel) ?_
  rintro e x5 ⟨a5,c5,rfl,hr5,hn5,hg5,hb5⟩
  have HAD:Hid (∀g,a5=some g->g.block≠w.heap.size):=fun g hg q=>by have h1:=hg5 g hg;have h2:=(Array.getElem?_eq_some_iff.1 hS5.res).1;omega
  have HAN:Hid (∀g,a5=some g->w.heap.size<=g.block):=fun g hg=>by have h1:=hg5 g hg;have h2:=(Array.getElem?_eq_some_iff.1 hS5.res).1;omega
  clear hg5
  try dsimp only
  have hS6:=DcS.below hS5 hb5
  refine hK.out _ _ hS6 (fun hS7=>?_)
  clear hK hb5 hS6 hS5
  try simp only[Act.put,sP]
  refine lB 7 ?_
  try simp only[Act.put,sP]
  refine lB 8 ?_
  try simp only[Act.put,sP]
  refine lB 9 ?_
  try simp only[Act.put,sP]
  refine lo 10 fun K hK=>?_
  go_simp
  try dsimp only
  refine hK.out _ _ hS7 (fun hS8=>?_)
  clear hK hS7
  try simp only[Act.put,sP]
  refine ll 11 fun K hK=>?_
  go_simp
  try dsimp only
  refine hK.out _ _ ?_
  clear hK
  try simp only[Act.put,sP]
  have HX5:Hid (DcS w h x5):=hS8
  have HR5:Hid (RRow x5 a5 rs):=hr5
  clear hS8 hr5
  go_wp2_with fail
  as_aux_lemma=>
   have hS0:DcS w h x5.drew:=DcS.below HX5.out (Below.refl _ _).drew
   have HRc:Hid (RRow x5.drew a5 rs):=RRow.below HR5.out (Below.refl _ _).drew
   refine aD (DcS w h) 10 (by kernel_rfl) hS0 (fun hH=>?_)
   clear hS0 HX5 HR5
   refine aX 0 rfl (by kernel_rfl) (by kernel_rfl) (by kernel_rfl) (by kernel_rfl) (fun _ _ _ _ h=>h) (by rfl) 171 _ rfl (w.heap.size+1) 0 rfl (cv h) _ (fun y hy=>DcS.range hy) Tryz.underlying171 rfl HIC.out (by assumption) ?_
   try simp only[Act.put,sP]
   refine aX 2 rfl (by kernel_rfl) (by kernel_rfl) (by kernel_rfl) (by kernel_rfl) (fun _ _ _ _ h=>h) (by rfl) 171 _ rfl (w.heap.size+1) 0 rfl (cv h) _ (fun y hy=>DcS.range hy) Tryz.underlying171 rfl HIC.out (by assumption) ?_
   try simp only[Act.put,sP]
   refine aX 4 rfl (by kernel_rfl) (by kernel_rfl) (by kernel_rfl) (by kernel_rfl) (fun _ _ _ _ h=>h) (by rfl) 171 _ rfl (w.heap.size+1) 0 rfl (cv h) _ (fun y hy=>DcS.range hy) Tryz.underlying171 rfl HIC.out (by assumption) ?_
   try simp only[Act.put,sP]
   refine aX 6 rfl (by kernel_rfl) (by kernel_rfl) (by kernel_rfl) (by kernel_rfl) (fun _ _ _ _ h=>h) (by rfl) 171 _ rfl (w.heap.size+1) 0 rfl (cv h) _ (fun y hy=>DcS.range hy) Tryz.underlying171 rfl HIC.out (by assumption) ?_
   try simp only[Act.put,sP]
   refine lB 8 ?_
   try simp only[Act.put,sP]
   refine lo 1 fun K hK=>?_
   go_simp
   refine Calls.mono (HN0.out _) ?_
   rintro e x6 ⟨rfl,hb⟩
   try dsimp only
   have hS4:=DcS.below hH hb
   have HR:Hid (RRow x6 a5 rs):=RRow.below HRc.out hb
   clear HRc
   have HRc:Hid (RRow x6 a5 rs):=HR.out
   clear HR
   refine hK.out _ _ hS4 (fun hHx=>?_)
   clear hK hb hS4 hH
   try simp only[Act.put,sP]
   refine lo 3 fun K hK=>?_
   go_simp
   refine Calls.mono (HN5.out _) ?_
   rintro e x7 ⟨rfl,hb⟩
   try dsimp only
   have hS4:=DcS.below hHx hb
   have HR:Hid (RRow x7 a5 rs):=RRow.below HRc.out hb
   clear HRc
   have HRc:Hid (RRow x7 a5 rs):=HR.out
   clear HR
   refine hK.out _ _ hS4 (fun hHxx=>?_)
   clear hK hb hS4 hHx
   try simp only[Act.put,sP]
   refine lo 5 fun K hK=>?_
   go_simp
   refine Calls.mono (HN3.out _) ?_
   rintro e x8 ⟨rfl,hb⟩
   try dsimp only
   have hS4:=DcS.below hHxx hb
   have HR:Hid (RRow x8 a5 rs):=RRow.below HRc.out hb
   clear HRc
   have HRc:Hid (RRow x8 a5 rs):=HR.out
   clear HR
   refine hK.out _ _ hS4 (fun hHxxx=>?_)
   clear hK hb hS4 hHxx
   try simp only[Act.put,sP]
   refine lo 7 fun K hK=>?_
   go_simp
   refine Calls.mono (HN4.out _) ?_
   rintro e x9 ⟨rfl,hb⟩
   try dsimp only
   have hS4:=DcS.below hHxxx hb
   have HR:Hid (RRow x9 a5 rs):=RRow.below HRc.out hb
   clear HRc
   have HRc:Hid (RRow x9 a5 rs):=HR.out
   clear HR
   refine hK.out _ _ hS4 (fun hHxxxx=>?_)
   clear hK hb hS4 hHxxx
   try simp only[Act.put,sP]
   refine lo 9 fun K hK=>?_
   go_simp
   try dsimp only
   refine hK.out _ _ hHxxxx (fun hHy=>?_)
   clear hK hHy
   try simp only[Act.put,sP]
   refine ll 10 fun K hK=>?_
   refine wp_store_row 88 _ _ rfl w.heap.size #[.int .i64 B0,.int .i64 (X5:Int),.int .i64 B3,.int .i64 B4,.slice a5 nl c5] rfl rfl 88 _ hHxxxx.res Tryz.info88 rfl (aO _ _ _ _ _ _ _) ?_
   refine hK.out _ _ ?_
   clear hK
   try simp only[Act.put,sP]
   have HRn:Hid ((x9.setRow w.heap.size #[.int .i64 B0,.int .i64 (X5:Int),.int .i64 B3,.int .i64 B4,.slice a5 nl c5]).heap[w.heap.size]? = some (.cells #[.int .i64 B0,.int .i64 (X5:Int),.int .i64 B3,.int .i64 B4,.slice a5 nl c5] 88 (0,0))):=setRow_heap _ _ _ _ _ _ hHxxxx.res
   have HBn:Hid (Below w.heap.size w (x9.setRow w.heap.size #[.int .i64 B0,.int .i64 (X5:Int),.int .i64 B3,.int .i64 B4,.slice a5 nl c5])):=below_setRow hHxxxx.bel (Nat.le_refl _) _
   have HRR:Hid (RRow (x9.setRow w.heap.size #[.int .i64 B0,.int .i64 (X5:Int),.int .i64 B3,.int .i64 B4,.slice a5 nl c5]) a5 rs):=RRow.keepR HRc.out HAD.out
   clear HRc hHxxxx
   generalize x9.setRow w.heap.size #[.int .i64 B0,.int .i64 (X5:Int),.int .i64 B3,.int .i64 B4,.slice a5 nl c5]=xa at HRn HBn HRR ⊢
   obtain⟨d0,d1,d2,d3,d4,dz⟩:=aW HRn.out
   as_aux_lemma=>
    go_wp2_with ((have _t:=HRn;refine wpList_store_row rfl 88 _ _ rfl w.heap.size #[.int .i64 0,.int .i64 0,.int .i64 0,.int .i64 0,.slice none 0 0] rfl rfl 88 _ HRn.out Tryz.info88 rfl (aO _ _ _ _ _ _ _) ?_))
    refine bodyPost_ret (v:=.tuple #[.agg #[.int .i64 0,.int .i64 0,.int .i64 0,.int .i64 0,.slice none 0 0],.int .i64 0,.int .i64 10]) ?_ rfl (HPB.out HNO.out _ _ ⟨rfl,below_setRow HBn.out (Nat.le_refl _) _⟩)
    exact aE (p:=2) (u:=3) (u2:=4) (by rfl) _ _ w.heap.size _ _ _ (by rfl) (by rfl) (by rfl) rfl (setRow_heap _ _ _ _ _ _ HRn.out)
open Go.RowKit
theorem oT (a:Option Addr) (cap:Nat) (l:List Nat) (w:World) (ht:Tab w) (hr:Row w a l) (hl:l.length<=cap) (hc:cap<=maxLen) (hl2:l.length<=1000000000000) (h48:48<=l.length) (hsz:48<=lenN l/\lenN l<=l.length/\lenN l<=6000) (hsum:P.sum ((l.take (lenN l)).drop 16)=getV l 12 4 true) (gA:AllOk (partOf l) (frsOf l) (cntOf l)) (gR:¬rest (partOf l) (frsOf l) (cntOf l)=[]) :
 Calls Tryz.prog 84 #[.slice a l.length cap] w fun e w'=>(OkB l->∃a' c',e=.returned (.tuple #[bav (bOf l) a' c',.int .i64 ((lenN l:Nat):Int),.int .i64 0])/\RRow w' a' (bOf l).rs/\(a'=none->c'=0)/\(∀g,a'=some g->w.heap.size<=g.block))/\(¬OkB l->e=.returned (.tuple #[bav bz none 0,.int .i64 0,.int .i64 10]))/\Below w.heap.size w w':=by
 have h0:0 < l.length:=by omega
 obtain⟨pb,poff,rfl,hc0,_⟩:=hr 0 h0
 have hpb:pb < w.heap.size:=by have:=World.block_lt_of_cell? _ _ hc0;simpa using this
 clear hc0
 have hmem:=bF (fun i=>hr.lt i)
 have hgl:=fun i n=>dK l i n (fun j=>hr.lt j)
 obtain⟨PO,HPO⟩:∃PO:Ending->World->Prop,Hid (PO=fun e w'=>(OkB l->∃a' c',e=.returned (.tuple #[bav (bOf l) a' c',.int .i64 ((lenN l:Nat):Int),.int .i64 0])/\RRow w' a' (bOf l).rs/\(a'=none->c'=0)/\(∀g,a'=some g->w.heap.size<=g.block))/\(¬OkB l->e=.returned (.tuple #[bav bz none 0,.int .i64 0,.int .i64 10]))/\Below w.heap.size w w'):=⟨_,rfl⟩
 have HPB:Hid (¬OkB l->∀e w',(e=.returned (.tuple #[.agg #[.int .i64 0,.int .i64 0,.int .i64 0,.int .i64 0,.slice none 0 0],.int .i64 0,.int .i64 10])/\Below w.heap.size w w')->PO e w'):=fun hn e w' h=>by rw[HPO.out];exact⟨fun q=>absurd q hn,fun _=>h.1,h.2⟩
 have HPG:Hid (OkB l->∀e w',(∃a' c',e=.returned (.tuple #[bav (bOf l) a' c',.int .i64 ((lenN l:Nat):Int),.int .i64 0])/\RRow w' a' (bOf l).rs/\(a'=none->c'=0)/\(∀g,a'=some g->w.heap.size<=g.block))->Below w.heap.size w w'->PO e w'):=fun hy e w' h hb=>by rw[HPO.out];exact⟨fun _=>h,fun q=>absurd hy q,hb⟩
 rw[<-HPO.out]
 clear HPO
 obtain⟨h,HHD⟩:∃h,Hid (l.take 48=h):=⟨_,rfl⟩
 have hh48:h.length=48:=by rw[<-HHD.out,List.length_take];omega
 have HRG:Hid (∀y,Below w.heap.size w y->y.rangeAt pb poff (cv h)):=fun y hb=>by rw[<-HHD.out];exact eQ (hr.below hb) 48
 have HCL:Hid ((cv h).length=48):=by show _=_;rw[aQ,hh48]
 have HSZ:Hid ((cv h).toArray.size=48):=bS HCL.out
 have HLD:Hid (∀y,DcS w h y->(loadVar 171 ⟨w.heap.size+1,0,none⟩).run Tryz.prog y=.ok (.agg (cv h).toArray) y):=fun y hy=>DcS.load hy HSZ.out
 have hhm:∀i,h.getD i 0 < 256:=by rw[<-HHD.out];exact cG (fun x hx=>hmem x (List.mem_of_mem_take hx))
 have num4:∀i:Nat,i+4<=48->∀x,Calls Tryz.prog 96 #[.agg (cv h).toArray,.int .i64 (i:Int),.int .i64 4] x fun e w'=>e=.returned (.int .i64 ((getV l i 4 true:Nat):Int))/\Below x.heap.size x w':=by
  intro i hi x
  have h2:=cA h i 4 x hh48 hhm (by decide) (by decide) hi
  rw[<-HHD.out,cC l i 4 48 hi,HHD.out] at h2
  have h3:=hgl i 4
  rw[w64 _ (by omega) (by omega)] at h2
  exact h2
 have num8:∀i:Nat,i+8<=48->∀x,Calls Tryz.prog 96 #[.agg (cv h).toArray,.int .i64 (i:Int),.int .i64 8] x fun e w'=>e=.returned (.int .i64 (wrap64 (getV l i 8 true)))/\Below x.heap.size x w':=by
  intro i hi x
  have h2:=cA h i 8 x hh48 hhm (by decide) (by decide) hi
  rw[<-HHD.out,cC l i 8 48 hi,HHD.out] at h2
  exact h2
 have HN0:Hid _:=num8 0 (by decide)
 have HN1:Hid _:=num4 8 (by decide)
 have HN2:Hid _:=num4 12 (by decide)
 have HN3:Hid _:=num8 16 (by decide)
 have HN4:Hid _:=num8 24 (by decide)
 have HN5:Hid _:=num4 32 (by decide)
 have HN6:Hid _:=num4 36 (by decide)
 have HN7:Hid _:=num8 40 (by decide)
 have hx1:=hgl 8 4
 have hx6:=hgl 36 4
 have hx2:=hgl 12 4
 have hLN:lenN l=12+getV l 8 4 true:=rfl
 have HOK:Hid (OkB l->48<=lenN l/\lenN l<=l.length/\lenN l<=6000/\P.sum ((l.take (lenN l)).drop 16)=getV l 12 4 true):=fun h=>⟨h.n48,h.nl,h.nm,h.sum⟩
 have HCT:Hid (cntOf l=getV l 36 4 true/\frsOf l=wrap64 (getV l 40 8 true)):=⟨rfl,rfl⟩
 have HBO:Hid (∀rs,recs (partOf l) (frsOf l) (cntOf l)=rs->bOf l=⟨wrap64 (getV l 0 8 true),getV l 32 4 true,wrap64 (getV l 16 8 true),wrap64 (getV l 24 8 true),rs⟩):=fun rs h=>by unfold bOf;rw[h]
 clear hgl num4 num8
 generalize getV l 0 8 true=X0 at *
 generalize getV l 8 4 true=X1 at *
 generalize hX2V:getV l 12 4 true=X2 at *
 have HX2V:Hid (getV l 12 4 true=X2):=hX2V
 clear hX2V
 generalize getV l 16 8 true=X3 at *
 generalize getV l 24 8 true=X4 at *
 generalize getV l 32 4 true=X5 at *
 generalize getV l 36 4 true=X6 at *
 generalize getV l 40 8 true=X7 at *
 generalize wrap64 (X0:Int)=B0 at *
 generalize wrap64 (X3:Int)=B3 at *
 generalize wrap64 (X4:Int)=B4 at *
 generalize wrap64 (X7:Int)=B7 at *
 obtain⟨NN,HNN⟩:∃NN,Hid (lenN l=NN):=⟨_,rfl⟩
 rw[HNN.out] at hLN HOK HPG hsz hsum
 have hwN:IntKind.i64.wrap (12+(X1:Int))=(NN:Int):=by rw[IntKind.wrap_i64];omega
 have HNI:Hid ((12:Int)+(X1:Int)=(NN:Int)):=by show _=_;omega
 have HIC:Hid ((Tryz.prog.info? 171).map (·.size)=some (cv h).length):=by show _=_;rw[HCL.out];exact Tryz.info171
 have ks0:=fun y=>cF y ⟨pb,poff,none⟩ l.length cap (by omega)
 have ka:=fun y=>run_arrayAt y ⟨pb,poff,none⟩ cap
 have hlI:¬(l.length:Int) < 48:=by omega
 have tokA:=trivial
 have HROW:Hid (Row w (some ⟨pb,poff,none⟩) l):=hr
 have HT:Hid (Tab w):=ht
 clear hr ht hh48 hhm hLN
 obtain⟨g1,g2,g3⟩:=hsz
 have g1d:decide ((NN:Int) < 48)=false:=decide_eq_false (by omega)
 have g2d:decide ((l.length:Int) < (NN:Int))=false:=decide_eq_false (by omega)
 have g3d:decide ((6000:Int) < (NN:Int))=false:=decide_eq_false (by omega)
 have ks1:∀y,(Instr.slice 22 (.slice (some ⟨pb,poff,none⟩) l.length cap) (some (.int .i64 16)) (some (.int .i64 (NN:Int))) none).run Tryz.prog y=.ok (.slice (cutA (some ⟨pb,poff,none⟩) cap 16) (NN - 16) (cap - 16)) y:=fun y=>bK y _ l.length cap 16 NN (by omega) (by omega)
 have ks2:∀y,(Instr.slice 22 (.slice (some ⟨pb,poff,none⟩) l.length cap) (some (.int .i64 48)) (some (.int .i64 (NN:Int))) none).run Tryz.prog y=.ok (.slice (cutA (some ⟨pb,poff,none⟩) cap 48) (NN - 48) (cap - 48)) y:=fun y=>bK y _ l.length cap 48 NN (by omega) (by omega)
 obtain⟨SU,HSU⟩:∃SU,Hid (P.sum ((l.take NN).drop 16)=SU):=⟨_,rfl⟩
 have hsl:SU < 4294967296:=by rw[<-HSU.out];exact sum_lt _ (fun x hx=>hmem x (List.mem_of_mem_take (List.mem_of_mem_drop hx)))
 have HSM:Hid (∀y,Below w.heap.size w y->Calls Tryz.prog 97 #[.slice (cutA (some ⟨pb,poff,none⟩) cap 16) (NN - 16) (cap - 16)] y fun e w'=>e=.returned (.int .u32 (SU:Nat))/\w'=y):=by
  intro y hb
  have hlen:((l.take NN).drop 16).length=NN - 16:=by rw[List.length_drop,List.length_take];omega
  have:=sum_any (cutA (some ⟨pb,poff,none⟩) cap 16) (cap - 16) ((l.take NN).drop 16) y (Tab.below HT.out hb) (dW cap 16 NN (Row.below HROW.out hb) hl) (by rw[hlen];unfold maxLen;omega)
  rw[hlen,HSU.out] at this
  exact this
 rw[HSU.out] at HOK
 have hwu:IntKind.u32.wrap (X2:Int)=(X2:Int):=by rw[IntKind.wrap_u32];omega
 rw[HSU.out] at hsum
 subst hsum
 obtain⟨gc1,gc2⟩:=HCT.out
 have hpl:(partOf l).length=NN - 48:=by unfold partOf;rw[HNN.out,List.length_drop,List.length_take];omega
 have HSP0:Hid (∀y,Below w.heap.size w y->Calls Tryz.prog 98 #[.slice (cutA (some ⟨pb,poff,none⟩) cap 48) (NN - 48) (cap - 48),.int .i64 (X6:Int),.int .i64 B7] y fun e w'=>(AllOk (partOf l) (frsOf l) (cntOf l)->∃a' c',e=.returned (.tuple #[.slice a' X6 c',.bool (decide (rest (partOf l) (frsOf l) (cntOf l)=[]))])/\RRow w' a' (recs (partOf l) (frsOf l) (cntOf l))/\(a'=none->c'=0)/\(∀g,a'=some g->y.heap.size<=g.block))/\(¬AllOk (partOf l) (frsOf l) (cntOf l)->e=.returned (.tuple #[.slice none 0 0,.bool false]))/\Below y.heap.size y w'):=by
  intro y hb
  have h2:=gG (cutA (some ⟨pb,poff,none⟩) cap 48) (cap - 48) (partOf l) X6 B7 y (by unfold partOf;rw[HNN.out];exact dW cap 48 NN (Row.below HROW.out hb) hl) (by omega) (by omega) (by omega) (by omega)
  rw[hpl] at h2
  rw[gc1,gc2]
  exact h2
 have HNO:Hid (¬OkB l):=fun q=>gR q.fin
 obtain⟨rs,HRS⟩:∃rs,Hid (recs (partOf l) (frsOf l) (cntOf l)=rs):=⟨_,rfl⟩
 obtain⟨nl,HNL⟩:∃nl,Hid (X6=nl):=⟨_,rfl⟩
 have HSP:Hid (∀y,Below w.heap.size w y->Calls Tryz.prog 98 #[.slice (cutA (some ⟨pb,poff,none⟩) cap 48) (NN - 48) (cap - 48),.int .i64 (X6:Int),.int .i64 B7] y fun e w'=>∃a' c',e=.returned (.tuple #[.slice a' nl c',.bool false])/\RRow w' a' rs/\(a'=none->c'=0)/\(∀g,a'=some g->y.heap.size<=g.block)/\Below y.heap.size y w'):=by
  intro y hb
  refine(HSP0.out y hb).mono ?_
  rintro e w' ⟨q,_,hb2⟩
  obtain⟨a',c',rfl,h1,h2,h3⟩:=q gA
  rw[decide_eq_false gR,HNL.out]
  rw[HRS.out] at h1
  exact⟨a',c',rfl,h1,h2,h3,hb2⟩
 clear gA gR HSP0 gc1 gc2 HCT HBO HRS hpl HOK HPG
 go_enter Tryz.func84,Tryz.ntmps84
 go_wp2_with (first
  | (have _t:=tokA;refine wpList_load_mid rfl 171 _ rfl pb poff rfl (cv h) _ (HRG.out _ (aA _)) Tryz.underlying171 rfl (by rw[HCL.out];exact Tryz.info171) ?_)
  | (have _t:=tokA;refine wpList_store_row rfl 171 _ _ rfl (w.heap.size+1) (cv h).toArray rfl rfl 171 #[.int .u8 0,.int .u8 0,.int .u8 0,.int .u8 0,.int .u8 0,.int .u8 0,.int .u8 0,.int .u8 0,.int .u8 0,.int .u8 0,.int .u8 0,.int .u8 0,.int .u8 0,.int .u8 0,.int .u8 0,.int .u8 0,.int .u8 0,.int .u8 0,.int .u8 0,.int .u8 0,.int .u8 0,.int .u8 0,.int .u8 0,.int .u8 0,.int .u8 0,.int .u8 0,.int .u8 0,.int .u8 0,.int .u8 0,.int .u8 0,.int .u8 0,.int .u8 0,.int .u8 0,.int .u8 0,.int .u8 0,.int .u8 0,.int .u8 0,.int .u8 0,.int .u8 0,.int .u8 0,.int .u8 0,.int .u8 0,.int .u8 0,.int .u8 0,.int .u8 0,.int .u8 0,.int .u8 0,.int .u8 0] (fE w) (by rw[HSZ.out];exact Tryz.info171) (by rw[HSZ.out];rfl) (cH h) ?_;clear tokA _t;have HX:Hid (DcS w h (((w.alloc (.cells #[.int .i64 0,.int .i64 0,.int .i64 0,.int .i64 0,.slice none 0 0] 88)).alloc (.cells #[.int .u8 0,.int .u8 0,.int .u8 0,.int .u8 0,.int .u8 0,.int .u8 0,.int .u8 0,.int .u8 0,.int .u8 0,.int .u8 0,.int .u8 0,.int .u8 0,.int .u8 0,.int .u8 0,.int .u8 0,.int .u8 0,.int .u8 0,.int .u8 0,.int .u8 0,.int .u8 0,.int .u8 0,.int .u8 0,.int .u8 0,.int .u8 0,.int .u8 0,.int .u8 0,.int .u8 0,.int .u8 0,.int .u8 0,.int .u8 0,.int .u8 0,.int .u8 0,.int .u8 0,.int .u8 0,.int .u8 0,.int .u8 0,.int .u8 0,.int .u8 0,.int .u8 0,.int .u8 0,.int .u8 0,.int .u8 0,.int .u8 0,.int .u8 0,.int .u8 0,.int .u8 0,.int .u8 0,.int .u8 0] 171)).setRow (w.heap.size+1) (cv h).toArray)):=DcS.made w h;generalize ((w.alloc (.cells #[.int .i64 0,.int .i64 0,.int .i64 0,.int .i64 0,.slice none 0 0] 88)).alloc (.cells #[.int .u8 0,.int .u8 0,.int .u8 0,.int .u8 0,.int .u8 0,.int .u8 0,.int .u8 0,.int .u8 0,.int .u8 0,.int .u8 0,.int .u8 0,.int .u8 0,.int .u8 0,.int .u8 0,.int .u8 0,.int .u8 0,.int .u8 0,.int .u8 0,.int .u8 0,.int .u8 0,.int .u8 0,.int .u8 0,.int .u8 0,.int .u8 0,.int .u8 0,.int .u8 0,.int .u8 0,.int .u8 0,.int .u8 0,.int .u8 0,.int .u8 0,.int .u8 0,.int .u8 0,.int .u8 0,.int .u8 0,.int .u8 0,.int .u8 0,.int .u8 0,.int .u8 0,.int .u8 0,.int .u8 0,.int .u8 0,.int .u8 0,.int .u8 0,.int .u8 0,.int .u8 0,.int .u8 0,.int .u8 0] 171)).setRow (w.heap.size+1) (cv h).toArray=x0 at HX ⊢;have HX0:Hid (DcS w h x0):=HX;clear HX)
  | (have _t:=HX0;refine wpList_load_row rfl 171 _ rfl (w.heap.size+1) rfl 171 (cv h).toArray (0,0) _ HX0.out.arr Tryz.underlying171 rfl (by rw[HSZ.out];exact Tryz.info171) ?_)
  | (go_at_call 96;have _t:=HX0;refine(HN1.out _).mono ?_;rintro e x1 ⟨rfl,hb⟩;have HX1:Hid (DcS w h x1):=DcS.below HX0.out hb;clear hb HX0 _t))
 have hS0:DcS w h x1.drew:=DcS.below HX1.out (Below.refl _ _).drew
 refine aD (DcS w h) 7 (by kernel_rfl) hS0 (fun hHeld=>?_)
 clear hS0
 refine lB 0 ?_
 try simp only[Act.put,sP]
 refine lB 1 ?_
 try simp only[Act.put,sP]
 refine lB 2 ?_
 try simp only[Act.put,sP]
 refine aX 4 rfl (by kernel_rfl) (by kernel_rfl) (by kernel_rfl) (by kernel_rfl) (fun _ _ _ _ h=>h) (by rfl) 171 _ rfl (w.heap.size+1) 0 rfl (cv h) _ (fun y hy=>DcS.range hy) Tryz.underlying171 rfl HIC.out (by assumption) ?_
 try simp only[Act.put,sP]
 refine lo 3 fun K hK=>?_
 go_simp
 refine Calls.mono (HSM.out _ hHeld.bel) ?_
 rintro e y2 ⟨rfl,hw⟩
 subst y2
 try dsimp only
 refine hK.out _ _ hHeld (fun hS2=>?_)
 clear hK hHeld
 try simp only[Act.put,sP]
 refine lo 5 fun K hK=>?_
 go_simp
 refine Calls.mono (HN2.out _) ?_
 rintro e x2 ⟨rfl,hb⟩
 try dsimp only
 have hS2':=DcS.below hS2 hb
 refine hK.out _ _ hS2' (fun hS3=>?_)
 clear hK hS2 hb hS2'
 try simp only[Act.put,sP]
 refine lB 6 ?_
 try simp only[Act.put,sP]
 refine ll 7 fun K hK=>?_
 go_simp
 try dsimp only
 refine hK.out _ _ ?_
 clear hK
 try simp only[Act.put,sP]
 have HX2:Hid (DcS w h x2):=hS3
 clear hS3
 as_aux_lemma=>
  go_wp2_with (first
   | (have _t:=HX2;refine wpList_load_row rfl 171 _ rfl (w.heap.size+1) rfl 171 (cv h).toArray (0,0) _ HX2.out.arr Tryz.underlying171 rfl (by rw[HSZ.out];exact Tryz.info171) ?_)
   | (go_at_call 96;have _t:=HX2;refine(HN7.out _).mono ?_;rintro e x3 ⟨rfl,hb⟩;have HX3:Hid (DcS w h x3):=DcS.below HX2.out hb;clear hb HX2 _t))
  have hS0:DcS w h x3.drew:=DcS.below HX3.out (Below.refl _ _).drew
  refine aD (DcS w h) 11 (by kernel_rfl) hS0 (fun hHeld=>?_)
  clear hS0 HX3
  refine lB 0 ?_
  try simp only[Act.put,sP]
  refine lB 1 ?_
  try simp only[Act.put,sP]
  refine lB 2 ?_
  try simp only[Act.put,sP]
  refine aX 3 rfl (by kernel_rfl) (by kernel_rfl) (by kernel_rfl) (by kernel_rfl) (fun _ _ _ _ h=>h) (by rfl) 171 _ rfl (w.heap.size+1) 0 rfl (cv h) _ (fun y hy=>DcS.range hy) Tryz.underlying171 rfl HIC.out (by assumption) ?_
  try simp only[Act.put,sP]
  refine lB 5 ?_
  try simp only[Act.put,sP]
  refine lo 4 fun K hK=>?_
  go_simp
  refine Calls.mono (HN6.out _) ?_
  rintro e x4 ⟨rfl,hb⟩
  try dsimp only
  have hS4:=DcS.below hHeld hb
  refine hK.out _ _ hS4 (fun hS5=>?_)
  clear hK hb hS4 hHeld
  try simp only[Act.put,sP]
  refine lo 6 fun K hK=>?_
  go_simp
  refine Calls.mono (HSP.out _ hS5.bel) ?_
  rintro e x5 ⟨a5,c5,rfl,hr5,hn5,hg5,hb5⟩
  have HAD:Hid (∀g,a5=some g->g.block≠w.heap.size):=fun g hg q=>by have h1:=hg5 g hg;have h2:=(Array.getElem?_eq_some_iff.1 hS5.res).1;omega
  have HAN:Hid (∀g,a5=some g->w.heap.size<=g.block):=fun g hg=>by have h1:=hg5 g hg;have h2:=(Array.getElem?_eq_some_iff.1 hS5.res).1;omega
  clear hg5
  try dsimp only
  have hS6:=DcS.below hS5 hb5
  refine hK.out _ _ hS6 (fun hS7=>?_)
  clear hK hb5 hS6 hS5
  try simp only[Act.put,sP]
  refine lB 7 ?_
  try simp only[Act.put,sP]
  refine lB 8 ?_
  try simp only[Act.put,sP]
  refine lB 9 ?_
  try simp only[Act.put,sP]
  refine lo 10 fun K hK=>?_
  go_simp
  try dsimp only
  refine hK.out _ _ hS7 (fun hS8=>?_)
  clear hK hS7
  try simp only[Act.put,sP]
  refine ll 11 fun K hK=>?_
  go_simp
  try dsimp only
  refine hK.out _ _ ?_
  clear hK
  try simp only[Act.put,sP]
  have HX5:Hid (DcS w h x5):=hS8
  have HR5:Hid (RRow x5 a5 rs):=hr5
  clear hS8 hr5
  go_wp2_with fail
  as_aux_lemma=>
   have hS0:DcS w h x5.drew:=DcS.below HX5.out (Below.refl _ _).drew
   have HRc:Hid (RRow x5.drew a5 rs):=RRow.below HR5.out (Below.refl _ _).drew
   refine aD (DcS w h) 10 (by kernel_rfl) hS0 (fun hH=>?_)
   clear hS0 HX5 HR5
   refine aX 0 rfl (by kernel_rfl) (by kernel_rfl) (by kernel_rfl) (by kernel_rfl) (fun _ _ _ _ h=>h) (by rfl) 171 _ rfl (w.heap.size+1) 0 rfl (cv h) _ (fun y hy=>DcS.range hy) Tryz.underlying171 rfl HIC.out (by assumption) ?_
   try simp only[Act.put,sP]
   refine aX 2 rfl (by kernel_rfl) (by kernel_rfl) (by kernel_rfl) (by kernel_rfl) (fun _ _ _ _ h=>h) (by rfl) 171 _ rfl (w.heap.size+1) 0 rfl (cv h) _ (fun y hy=>DcS.range hy) Tryz.underlying171 rfl HIC.out (by assumption) ?_
   try simp only[Act.put,sP]
   refine aX 4 rfl (by kernel_rfl) (by kernel_rfl) (by kernel_rfl) (by kernel_rfl) (fun _ _ _ _ h=>h) (by rfl) 171 _ rfl (w.heap.size+1) 0 rfl (cv h) _ (fun y hy=>DcS.range hy) Tryz.underlying171 rfl HIC.out (by assumption) ?_
   try simp only[Act.put,sP]
   refine aX 6 rfl (by kernel_rfl) (by kernel_rfl) (by kernel_rfl) (by kernel_rfl) (fun _ _ _ _ h=>h) (by rfl) 171 _ rfl (w.heap.size+1) 0 rfl (cv h) _ (fun y hy=>DcS.range hy) Tryz.underlying171 rfl HIC.out (by assumption) ?_
   try simp only[Act.put,sP]
   refine lB 8 ?_
   try simp only[Act.put,sP]
   refine lo 1 fun K hK=>?_
   go_simp
   refine Calls.mono (HN0.out _) ?_
   rintro e x6 ⟨rfl,hb⟩
   try dsimp only
   have hS4:=DcS.below hH hb
   have HR:Hid (RRow x6 a5 rs):=RRow.below HRc.out hb
   clear HRc
   have HRc:Hid (RRow x6 a5 rs):=HR.out
   clear HR
   refine hK.out _ _ hS4 (fun hHx=>?_)
   clear hK hb hS4 hH
   try simp only[Act.put,sP]
   refine lo 3 fun K hK=>?_
   go_simp
   refine Calls.mono (HN5.out _) ?_
   rintro e x7 ⟨rfl,hb⟩
   try dsimp only
   have hS4:=DcS.below hHx hb
   have HR:Hid (RRow x7 a5 rs):=RRow.below HRc.out hb
   clear HRc
   have HRc:Hid (RRow x7 a5 rs):=HR.out
   clear HR
   refine hK.out _ _ hS4 (fun hHxx=>?_)
   clear hK hb hS4 hHx
   try simp only[Act.put,sP]
   refine lo 5 fun K hK=>?_
   go_simp
   refine Calls.mono (HN3.out _) ?_
   rintro e x8 ⟨rfl,hb⟩
   try dsimp only
   have hS4:=DcS.below hHxx hb
   have HR:Hid (RRow x8 a5 rs):=RRow.below HRc.out hb
   clear HRc
   have HRc:Hid (RRow x8 a5 rs):=HR.out
   clear HR
   refine hK.out _ _ hS4 (fun hHxxx=>?_)
   clear hK hb hS4 hHxx
   try simp only[Act.put,sP]
   refine lo 7 fun K hK=>?_
   go_simp
   refine Calls.mono (HN4.out _) ?_
   rintro e x9 ⟨rfl,hb⟩
   try dsimp only
   have hS4:=DcS.below hHxxx hb
   have HR:Hid (RRow x9 a5 rs):=RRow.below HRc.out hb
   clear HRc
   have HRc:Hid (RRow x9 a5 rs):=HR.out
   clear HR
   refine hK.out _ _ hS4 (fun hHxxxx=>?_)
   clear hK hb hS4 hHxxx
   try simp only[Act.put,sP]
   refine lo 9 fun K hK=>?_
   go_simp
   try dsimp only
   refine hK.out _ _ hHxxxx (fun hHy=>?_)
   clear hK hHy
   try simp only[Act.put,sP]
   refine ll 10 fun K hK=>?_
   refine wp_store_row 88 _ _ rfl w.heap.size #[.int .i64 B0,.int .i64 (X5:Int),.int .i64 B3,.int .i64 B4,.slice a5 nl c5] rfl rfl 88 _ hHxxxx.res Tryz.info88 rfl (aO _ _ _ _ _ _ _) ?_
   refine hK.out _ _ ?_
   clear hK
   try simp only[Act.put,sP]
   have HRn:Hid ((x9.setRow w.heap.size #[.int .i64 B0,.int .i64 (X5:Int),.int .i64 B3,.int .i64 B4,.slice a5 nl c5]).heap[w.heap.size]? = some (.cells #[.int .i64 B0,.int .i64 (X5:Int),.int .i64 B3,.int .i64 B4,.slice a5 nl c5] 88 (0,0))):=setRow_heap _ _ _ _ _ _ hHxxxx.res
   have HBn:Hid (Below w.heap.size w (x9.setRow w.heap.size #[.int .i64 B0,.int .i64 (X5:Int),.int .i64 B3,.int .i64 B4,.slice a5 nl c5])):=below_setRow hHxxxx.bel (Nat.le_refl _) _
   have HRR:Hid (RRow (x9.setRow w.heap.size #[.int .i64 B0,.int .i64 (X5:Int),.int .i64 B3,.int .i64 B4,.slice a5 nl c5]) a5 rs):=RRow.keepR HRc.out HAD.out
   clear HRc hHxxxx
   generalize x9.setRow w.heap.size #[.int .i64 B0,.int .i64 (X5:Int),.int .i64 B3,.int .i64 B4,.slice a5 nl c5]=xa at HRn HBn HRR ⊢
   obtain⟨d0,d1,d2,d3,d4,dz⟩:=aW HRn.out
   as_aux_lemma=>
    go_wp2_with ((have _t:=HRn;refine wpList_store_row rfl 88 _ _ rfl w.heap.size #[.int .i64 0,.int .i64 0,.int .i64 0,.int .i64 0,.slice none 0 0] rfl rfl 88 _ HRn.out Tryz.info88 rfl (aO _ _ _ _ _ _ _) ?_))
    refine bodyPost_ret (v:=.tuple #[.agg #[.int .i64 0,.int .i64 0,.int .i64 0,.int .i64 0,.slice none 0 0],.int .i64 0,.int .i64 10]) ?_ rfl (HPB.out HNO.out _ _ ⟨rfl,below_setRow HBn.out (Nat.le_refl _) _⟩)
    exact aE (p:=2) (u:=3) (u2:=4) (by rfl) _ _ w.heap.size _ _ _ (by rfl) (by rfl) (by rfl) rfl (setRow_heap _ _ _ _ _ _ HRn.out)
open Go.RowKit
theorem tK (a:Option Addr) (cap:Nat) (l:List Nat) (w:World) (ht:Tab w) (hr:Row w a l) (hl:l.length<=cap) (hc:cap<=maxLen) (hl2:l.length<=1000000000000) (h48:48<=l.length) (hsz:48<=lenN l/\lenN l<=l.length/\lenN l<=6000) (hsum:P.sum ((l.take (lenN l)).drop 16)=getV l 12 4 true) (gA:AllOk (partOf l) (frsOf l) (cntOf l)) (gR:rest (partOf l) (frsOf l) (cntOf l)=[]) (g5:¬wrE (bOf l)=0) :
 Calls Tryz.prog 84 #[.slice a l.length cap] w fun e w'=>(OkB l->∃a' c',e=.returned (.tuple #[bav (bOf l) a' c',.int .i64 ((lenN l:Nat):Int),.int .i64 0])/\RRow w' a' (bOf l).rs/\(a'=none->c'=0)/\(∀g,a'=some g->w.heap.size<=g.block))/\(¬OkB l->e=.returned (.tuple #[bav bz none 0,.int .i64 0,.int .i64 10]))/\Below w.heap.size w w':=by
 have h0:0 < l.length:=by omega
 obtain⟨pb,poff,rfl,hc0,_⟩:=hr 0 h0
 have hpb:pb < w.heap.size:=by have:=World.block_lt_of_cell? _ _ hc0;simpa using this
 clear hc0
 have hmem:=bF (fun i=>hr.lt i)
 have hgl:=fun i n=>dK l i n (fun j=>hr.lt j)
 obtain⟨PO,HPO⟩:∃PO:Ending->World->Prop,Hid (PO=fun e w'=>(OkB l->∃a' c',e=.returned (.tuple #[bav (bOf l) a' c',.int .i64 ((lenN l:Nat):Int),.int .i64 0])/\RRow w' a' (bOf l).rs/\(a'=none->c'=0)/\(∀g,a'=some g->w.heap.size<=g.block))/\(¬OkB l->e=.returned (.tuple #[bav bz none 0,.int .i64 0,.int .i64 10]))/\Below w.heap.size w w'):=⟨_,rfl⟩
 have HPB:Hid (¬OkB l->∀e w',(e=.returned (.tuple #[.agg #[.int .i64 0,.int .i64 0,.int .i64 0,.int .i64 0,.slice none 0 0],.int .i64 0,.int .i64 10])/\Below w.heap.size w w')->PO e w'):=fun hn e w' h=>by rw[HPO.out];exact⟨fun q=>absurd q hn,fun _=>h.1,h.2⟩
 have HPG:Hid (OkB l->∀e w',(∃a' c',e=.returned (.tuple #[bav (bOf l) a' c',.int .i64 ((lenN l:Nat):Int),.int .i64 0])/\RRow w' a' (bOf l).rs/\(a'=none->c'=0)/\(∀g,a'=some g->w.heap.size<=g.block))->Below w.heap.size w w'->PO e w'):=fun hy e w' h hb=>by rw[HPO.out];exact⟨fun _=>h,fun q=>absurd hy q,hb⟩
 rw[<-HPO.out]
 clear HPO
 obtain⟨h,HHD⟩:∃h,Hid (l.take 48=h):=⟨_,rfl⟩
 have hh48:h.length=48:=by rw[<-HHD.out,List.length_take];omega
 have HRG:Hid (∀y,Below w.heap.size w y->y.rangeAt pb poff (cv h)):=fun y hb=>by rw[<-HHD.out];exact eQ (hr.below hb) 48
 have HCL:Hid ((cv h).length=48):=by show _=_;rw[aQ,hh48]
 have HSZ:Hid ((cv h).toArray.size=48):=bS HCL.out
 have HLD:Hid (∀y,DcS w h y->(loadVar 171 ⟨w.heap.size+1,0,none⟩).run Tryz.prog y=.ok (.agg (cv h).toArray) y):=fun y hy=>DcS.load hy HSZ.out
 have hhm:∀i,h.getD i 0 < 256:=by rw[<-HHD.out];exact cG (fun x hx=>hmem x (List.mem_of_mem_take hx))
 have num4:∀i:Nat,i+4<=48->∀x,Calls Tryz.prog 96 #[.agg (cv h).toArray,.int .i64 (i:Int),.int .i64 4] x fun e w'=>e=.returned (.int .i64 ((getV l i 4 true:Nat):Int))/\Below x.heap.size x w':=by
  intro i hi x
  have h2:=cA h i 4 x hh48 hhm (by decide) (by decide) hi
  rw[<-HHD.out,cC l i 4 48 hi,HHD.out] at h2
  have h3:=hgl i 4
  rw[w64 _ (by omega) (by omega)] at h2
  exact h2
 have num8:∀i:Nat,i+8<=48->∀x,Calls Tryz.prog 96 #[.agg (cv h).toArray,.int .i64 (i:Int),.int .i64 8] x fun e w'=>e=.returned (.int .i64 (wrap64 (getV l i 8 true)))/\Below x.heap.size x w':=by
  intro i hi x
  have h2:=cA h i 8 x hh48 hhm (by decide) (by decide) hi
  rw[<-HHD.out,cC l i 8 48 hi,HHD.out] at h2
  exact h2
 have HN0:Hid _:=num8 0 (by decide)
 have HN1:Hid _:=num4 8 (by decide)
 have HN2:Hid _:=num4 12 (by decide)
 have HN3:Hid _:=num8 16 (by decide)
 have HN4:Hid _:=num8 24 (by decide)
 have HN5:Hid _:=num4 32 (by decide)
 have HN6:Hid _:=num4 36 (by decide)
 have HN7:Hid _:=num8 40 (by decide)
 have hx1:=hgl 8 4
 have hx6:=hgl 36 4
 have hx2:=hgl 12 4
 have hLN:lenN l=12+getV l 8 4 true:=rfl
 have HOK:Hid (OkB l->48<=lenN l/\lenN l<=l.length/\lenN l<=6000/\P.sum ((l.take (lenN l)).drop 16)=getV l 12 4 true):=fun h=>⟨h.n48,h.nl,h.nm,h.sum⟩
 have HCT:Hid (cntOf l=getV l 36 4 true/\frsOf l=wrap64 (getV l 40 8 true)):=⟨rfl,rfl⟩
 have HBO:Hid (∀rs,recs (partOf l) (frsOf l) (cntOf l)=rs->bOf l=⟨wrap64 (getV l 0 8 true),getV l 32 4 true,wrap64 (getV l 16 8 true),wrap64 (getV l 24 8 true),rs⟩):=fun rs h=>by unfold bOf;rw[h]
 clear hgl num4 num8
 generalize getV l 0 8 true=X0 at *
 generalize getV l 8 4 true=X1 at *
 generalize hX2V:getV l 12 4 true=X2 at *
 have HX2V:Hid (getV l 12 4 true=X2):=hX2V
 clear hX2V
 generalize getV l 16 8 true=X3 at *
 generalize getV l 24 8 true=X4 at *
 generalize getV l 32 4 true=X5 at *
 generalize getV l 36 4 true=X6 at *
 generalize getV l 40 8 true=X7 at *
 generalize wrap64 (X0:Int)=B0 at *
 generalize wrap64 (X3:Int)=B3 at *
 generalize wrap64 (X4:Int)=B4 at *
 generalize wrap64 (X7:Int)=B7 at *
 obtain⟨NN,HNN⟩:∃NN,Hid (lenN l=NN):=⟨_,rfl⟩
 rw[HNN.out] at hLN HOK HPG hsz hsum
 have hwN:IntKind.i64.wrap (12+(X1:Int))=(NN:Int):=by rw[IntKind.wrap_i64];omega
 have HNI:Hid ((12:Int)+(X1:Int)=(NN:Int)):=by show _=_;omega
 have HIC:Hid ((Tryz.prog.info? 171).map (·.size)=some (cv h).length):=by show _=_;rw[HCL.out];exact Tryz.info171
 have ks0:=fun y=>cF y ⟨pb,poff,none⟩ l.length cap (by omega)
 have ka:=fun y=>run_arrayAt y ⟨pb,poff,none⟩ cap
 have hlI:¬(l.length:Int) < 48:=by omega
 have tokA:=trivial
 have HROW:Hid (Row w (some ⟨pb,poff,none⟩) l):=hr
 have HT:Hid (Tab w):=ht
 clear hr ht hh48 hhm hLN
 obtain⟨g1,g2,g3⟩:=hsz
 have g1d:decide ((NN:Int) < 48)=false:=decide_eq_false (by omega)
 have g2d:decide ((l.length:Int) < (NN:Int))=false:=decide_eq_false (by omega)
 have g3d:decide ((6000:Int) < (NN:Int))=false:=decide_eq_false (by omega)
 have ks1:∀y,(Instr.slice 22 (.slice (some ⟨pb,poff,none⟩) l.length cap) (some (.int .i64 16)) (some (.int .i64 (NN:Int))) none).run Tryz.prog y=.ok (.slice (cutA (some ⟨pb,poff,none⟩) cap 16) (NN - 16) (cap - 16)) y:=fun y=>bK y _ l.length cap 16 NN (by omega) (by omega)
 have ks2:∀y,(Instr.slice 22 (.slice (some ⟨pb,poff,none⟩) l.length cap) (some (.int .i64 48)) (some (.int .i64 (NN:Int))) none).run Tryz.prog y=.ok (.slice (cutA (some ⟨pb,poff,none⟩) cap 48) (NN - 48) (cap - 48)) y:=fun y=>bK y _ l.length cap 48 NN (by omega) (by omega)
 obtain⟨SU,HSU⟩:∃SU,Hid (P.sum ((l.take NN).drop 16)=SU):=⟨_,rfl⟩
 have hsl:SU < 4294967296:=by rw[<-HSU.out];exact sum_lt _ (fun x hx=>hmem x (List.mem_of_mem_take (List.mem_of_mem_drop hx)))
 have HSM:Hid (∀y,Below w.heap.size w y->Calls Tryz.prog 97 #[.slice (cutA (some ⟨pb,poff,none⟩) cap 16) (NN - 16) (cap - 16)] y fun e w'=>e=.returned (.int .u32 (SU:Nat))/\w'=y):=by
  intro y hb
  have hlen:((l.take NN).drop 16).length=NN - 16:=by rw[List.length_drop,List.length_take];omega
  have:=sum_any (cutA (some ⟨pb,poff,none⟩) cap 16) (cap - 16) ((l.take NN).drop 16) y (Tab.below HT.out hb) (dW cap 16 NN (Row.below HROW.out hb) hl) (by rw[hlen];unfold maxLen;omega)
  rw[hlen,HSU.out] at this
  exact this
 rw[HSU.out] at HOK
 have hwu:IntKind.u32.wrap (X2:Int)=(X2:Int):=by rw[IntKind.wrap_u32];omega
 rw[HSU.out] at hsum
 subst hsum
 obtain⟨gc1,gc2⟩:=HCT.out
 have hpl:(partOf l).length=NN - 48:=by unfold partOf;rw[HNN.out,List.length_drop,List.length_take];omega
 have HSP0:Hid (∀y,Below w.heap.size w y->Calls Tryz.prog 98 #[.slice (cutA (some ⟨pb,poff,none⟩) cap 48) (NN - 48) (cap - 48),.int .i64 (X6:Int),.int .i64 B7] y fun e w'=>(AllOk (partOf l) (frsOf l) (cntOf l)->∃a' c',e=.returned (.tuple #[.slice a' X6 c',.bool (decide (rest (partOf l) (frsOf l) (cntOf l)=[]))])/\RRow w' a' (recs (partOf l) (frsOf l) (cntOf l))/\(a'=none->c'=0)/\(∀g,a'=some g->y.heap.size<=g.block))/\(¬AllOk (partOf l) (frsOf l) (cntOf l)->e=.returned (.tuple #[.slice none 0 0,.bool false]))/\Below y.heap.size y w'):=by
  intro y hb
  have h2:=gG (cutA (some ⟨pb,poff,none⟩) cap 48) (cap - 48) (partOf l) X6 B7 y (by unfold partOf;rw[HNN.out];exact dW cap 48 NN (Row.below HROW.out hb) hl) (by omega) (by omega) (by omega) (by omega)
  rw[hpl] at h2
  rw[gc1,gc2]
  exact h2
 have HNO:Hid (¬OkB l):=fun q=>g5 q.wr
 obtain⟨rs,HRS⟩:∃rs,Hid (recs (partOf l) (frsOf l) (cntOf l)=rs):=⟨_,rfl⟩
 obtain⟨nl,HNL⟩:∃nl,Hid (X6=nl):=⟨_,rfl⟩
 have HSP:Hid (∀y,Below w.heap.size w y->Calls Tryz.prog 98 #[.slice (cutA (some ⟨pb,poff,none⟩) cap 48) (NN - 48) (cap - 48),.int .i64 (X6:Int),.int .i64 B7] y fun e w'=>∃a' c',e=.returned (.tuple #[.slice a' nl c',.bool true])/\RRow w' a' rs/\(a'=none->c'=0)/\(∀g,a'=some g->y.heap.size<=g.block)/\Below y.heap.size y w'):=by
  intro y hb
  refine(HSP0.out y hb).mono ?_
  rintro e w' ⟨q,_,hb2⟩
  obtain⟨a',c',rfl,h1,h2,h3⟩:=q gA
  rw[decide_eq_true gR,HNL.out]
  rw[HRS.out] at h1
  exact⟨a',c',rfl,h1,h2,h3,hb2⟩
 have HRL:Hid (rs.length=nl):=by show _=_;rw[<-HRS.out,cW,gc1];exact HNL.out
 have HBB:Hid (bOf l=⟨B0,X5,B3,B4,rs⟩):=HBO.out rs HRS.out
 have HFR:Hid (frsOf l=B7):=gc2
 have HWR:Hid (∀y a' c',RRow y a' rs->Calls Tryz.prog 99 #[.agg #[.int .i64 B0,.int .i64 (X5:Int),.int .i64 B3,.int .i64 B4,.slice a' nl c']] y fun e w'=>e=.returned (.int .i64 (wrE (bOf l)))/\Below y.heap.size y w'):=by
  intro y a' c' h
  have h2:=fJ ⟨B0,X5,B3,B4,rs⟩ a' c' y h (by show rs.length<=_;rw[HRL.out,<-HNL.out];unfold maxLen;omega)
  rw[<-HBB.out] at h2
  rw[show bav (bOf l) a' c'=.agg #[.int .i64 B0,.int .i64 (X5:Int),.int .i64 B3,.int .i64 B4,.slice a' nl c'] by rw[HBB.out];simp only[bav,HRL.out]] at h2
  exact h2
 have g5d:(wrE (bOf l) != 0)=true:=by rw[bne_iff_ne];exact g5
 generalize wrE (bOf l)=Wc at *
 clear g5 gA gR HSP0 gc1 gc2 HCT HBO HRS hpl HOK HPG HBB
 go_enter Tryz.func84,Tryz.ntmps84
 go_wp2_with (first
  | (have _t:=tokA;refine wpList_load_mid rfl 171 _ rfl pb poff rfl (cv h) _ (HRG.out _ (aA _)) Tryz.underlying171 rfl (by rw[HCL.out];exact Tryz.info171) ?_)
  | (have _t:=tokA;refine wpList_store_row rfl 171 _ _ rfl (w.heap.size+1) (cv h).toArray rfl rfl 171 #[.int .u8 0,.int .u8 0,.int .u8 0,.int .u8 0,.int .u8 0,.int .u8 0,.int .u8 0,.int .u8 0,.int .u8 0,.int .u8 0,.int .u8 0,.int .u8 0,.int .u8 0,.int .u8 0,.int .u8 0,.int .u8 0,.int .u8 0,.int .u8 0,.int .u8 0,.int .u8 0,.int .u8 0,.int .u8 0,.int .u8 0,.int .u8 0,.int .u8 0,.int .u8 0,.int .u8 0,.int .u8 0,.int .u8 0,.int .u8 0,.int .u8 0,.int .u8 0,.int .u8 0,.int .u8 0,.int .u8 0,.int .u8 0,.int .u8 0,.int .u8 0,.int .u8 0,.int .u8 0,.int .u8 0,.int .u8 0,.int .u8 0,.int .u8 0,.int .u8 0,.int .u8 0,.int .u8 0,.int .u8 0] (fE w) (by rw[HSZ.out];exact Tryz.info171) (by rw[HSZ.out];rfl) (cH h) ?_;clear tokA _t;have HX:Hid (DcS w h (((w.alloc (.cells #[.int .i64 0,.int .i64 0,.int .i64 0,.int .i64 0,.slice none 0 0] 88)).alloc (.cells #[.int .u8 0,.int .u8 0,.int .u8 0,.int .u8 0,.int .u8 0,.int .u8 0,.int .u8 0,.int .u8 0,.int .u8 0,.int .u8 0,.int .u8 0,.int .u8 0,.int .u8 0,.int .u8 0,.int .u8 0,.int .u8 0,.int .u8 0,.int .u8 0,.int .u8 0,.int .u8 0,.int .u8 0,.int .u8 0,.int .u8 0,.int .u8 0,.int .u8 0,.int .u8 0,.int .u8 0,.int .u8 0,.int .u8 0,.int .u8 0,.int .u8 0,.int .u8 0,.int .u8 0,.int .u8 0,.int .u8 0,.int .u8 0,.int .u8 0,.int .u8 0,.int .u8 0,.int .u8 0,.int .u8 0,.int .u8 0,.int .u8 0,.int .u8 0,.int .u8 0,.int .u8 0,.int .u8 0,.int .u8 0] 171)).setRow (w.heap.size+1) (cv h).toArray)):=DcS.made w h;generalize ((w.alloc (.cells #[.int .i64 0,.int .i64 0,.int .i64 0,.int .i64 0,.slice none 0 0] 88)).alloc (.cells #[.int .u8 0,.int .u8 0,.int .u8 0,.int .u8 0,.int .u8 0,.int .u8 0,.int .u8 0,.int .u8 0,.int .u8 0,.int .u8 0,.int .u8 0,.int .u8 0,.int .u8 0,.int .u8 0,.int .u8 0,.int .u8 0,.int .u8 0,.int .u8 0,.int .u8 0,.int .u8 0,.int .u8 0,.int .u8 0,.int .u8 0,.int .u8 0,.int .u8 0,.int .u8 0,.int .u8 0,.int .u8 0,.int .u8 0,.int .u8 0,.int .u8 0,.int .u8 0,.int .u8 0,.int .u8 0,.int .u8 0,.int .u8 0,.int .u8 0,.int .u8 0,.int .u8 0,.int .u8 0,.int .u8 0,.int .u8 0,.int .u8 0,.int .u8 0,.int .u8 0,.int .u8 0,.int .u8 0,.int .u8 0] 171)).setRow (w.heap.size+1) (cv h).toArray=x0 at HX ⊢;have HX0:Hid (DcS w h x0):=HX;clear HX)
  | (have _t:=HX0;refine wpList_load_row rfl 171 _ rfl (w.heap.size+1) rfl 171 (cv h).toArray (0,0) _ HX0.out.arr Tryz.underlying171 rfl (by rw[HSZ.out];exact Tryz.info171) ?_)
  | (go_at_call 96;have _t:=HX0;refine(HN1.out _).mono ?_;rintro e x1 ⟨rfl,hb⟩;have HX1:Hid (DcS w h x1):=DcS.below HX0.out hb;clear hb HX0 _t))
 have hS0:DcS w h x1.drew:=DcS.below HX1.out (Below.refl _ _).drew
 refine aD (DcS w h) 7 (by kernel_rfl) hS0 (fun hHeld=>?_)
 clear hS0
 refine lB 0 ?_
 try simp only[Act.put,sP]
 refine lB 1 ?_
 try simp only[Act.put,sP]
 refine lB 2 ?_
 try simp only[Act.put,sP]
 refine aX 4 rfl (by kernel_rfl) (by kernel_rfl) (by kernel_rfl) (by kernel_rfl) (fun _ _ _ _ h=>h) (by rfl) 171 _ rfl (w.heap.size+1) 0 rfl (cv h) _ (fun y hy=>DcS.range hy) Tryz.underlying171 rfl HIC.out (by assumption) ?_
 try simp only[Act.put,sP]
 refine lo 3 fun K hK=>?_
 go_simp
 refine Calls.mono (HSM.out _ hHeld.bel) ?_
 rintro e y2 ⟨rfl,hw⟩
 subst y2
 try dsimp only
 refine hK.out _ _ hHeld (fun hS2=>?_)
 clear hK hHeld
 try simp only[Act.put,sP]
 refine lo 5 fun K hK=>?_
 go_simp
 refine Calls.mono (HN2.out _) ?_
 rintro e x2 ⟨rfl,hb⟩
 try dsimp only
 have hS2':=DcS.below hS2 hb
 refine hK.out _ _ hS2' (fun hS3=>?_)
 clear hK hS2 hb hS2'
 try simp only[Act.put,sP]
 refine lB 6 ?_
 try simp only[Act.put,sP]
 refine ll 7 fun K hK=>?_
 go_simp
 try dsimp only
 refine hK.out _ _ ?_
 clear hK
 try simp only[Act.put,sP]
 have HX2:Hid (DcS w h x2):=hS3
 clear hS3
 as_aux_lemma=>
  go_wp2_with (first
   | (have _t:=HX2;refine wpList_load_row rfl 171 _ rfl (w.heap.size+1) rfl 171 (cv h).toArray (0,0) _ HX2.out.arr Tryz.underlying171 rfl (by rw[HSZ.out];exact Tryz.info171) ?_)
   | (go_at_call 96;have _t:=HX2;refine(HN7.out _).mono ?_;rintro e x3 ⟨rfl,hb⟩;have HX3:Hid (DcS w h x3):=DcS.below HX2.out hb;clear hb HX2 _t))
  have hS0:DcS w h x3.drew:=DcS.below HX3.out (Below.refl _ _).drew
  refine aD (DcS w h) 11 (by kernel_rfl) hS0 (fun hHeld=>?_)
  clear hS0 HX3
  refine lB 0 ?_
  try simp only[Act.put,sP]
  refine lB 1 ?_
  try simp only[Act.put,sP]
  refine lB 2 ?_
  try simp only[Act.put,sP]
  refine aX 3 rfl (by kernel_rfl) (by kernel_rfl) (by kernel_rfl) (by kernel_rfl) (fun _ _ _ _ h=>h) (by rfl) 171 _ rfl (w.heap.size+1) 0 rfl (cv h) _ (fun y hy=>DcS.range hy) Tryz.underlying171 rfl HIC.out (by assumption) ?_
  try simp only[Act.put,sP]
  refine lB 5 ?_
  try simp only[Act.put,sP]
  refine lo 4 fun K hK=>?_
  go_simp
  refine Calls.mono (HN6.out _) ?_
  rintro e x4 ⟨rfl,hb⟩
  try dsimp only
  have hS4:=DcS.below hHeld hb
  refine hK.out _ _ hS4 (fun hS5=>?_)
  clear hK hb hS4 hHeld
  try simp only[Act.put,sP]
  refine lo 6 fun K hK=>?_
  go_simp
  refine Calls.mono (HSP.out _ hS5.bel) ?_
  rintro e x5 ⟨a5,c5,rfl,hr5,hn5,hg5,hb5⟩
  have HAD:Hid (∀g,a5=some g->g.block≠w.heap.size):=fun g hg q=>by have h1:=hg5 g hg;have h2:=(Array.getElem?_eq_some_iff.1 hS5.res).1;omega
  have HAN:Hid (∀g,a5=some g->w.heap.size<=g.block):=fun g hg=>by have h1:=hg5 g hg;have h2:=(Array.getElem?_eq_some_iff.1 hS5.res).1;omega
  clear hg5
  try dsimp only
  have hS6:=DcS.below hS5 hb5
  refine hK.out _ _ hS6 (fun hS7=>?_)
  clear hK hb5 hS6 hS5
  try simp only[Act.put,sP]
  refine lB 7 ?_
  try simp only[Act.put,sP]
  refine lB 8 ?_
  try simp only[Act.put,sP]
  refine lB 9 ?_
  try simp only[Act.put,sP]
  refine lo 10 fun K hK=>?_
  go_simp
  try dsimp only
  refine hK.out _ _ hS7 (fun hS8=>?_)
  clear hK hS7
  try simp only[Act.put,sP]
  refine ll 11 fun K hK=>?_
  go_simp
  try dsimp only
  refine hK.out _ _ ?_
  clear hK
  try simp only[Act.put,sP]
  have HX5:Hid (DcS w h x5):=hS8
  have HR5:Hid (RRow x5 a5 rs):=hr5
  clear hS8 hr5
  go_wp2_with fail
  as_aux_lemma=>
   have hS0:DcS w h x5.drew:=DcS.below HX5.out (Below.refl _ _).drew
   have HRc:Hid (RRow x5.drew a5 rs):=RRow.below HR5.out (Below.refl _ _).drew
   refine aD (DcS w h) 10 (by kernel_rfl) hS0 (fun hH=>?_)
   clear hS0 HX5 HR5
   refine aX 0 rfl (by kernel_rfl) (by kernel_rfl) (by kernel_rfl) (by kernel_rfl) (fun _ _ _ _ h=>h) (by rfl) 171 _ rfl (w.heap.size+1) 0 rfl (cv h) _ (fun y hy=>DcS.range hy) Tryz.underlying171 rfl HIC.out (by assumption) ?_
   try simp only[Act.put,sP]
   refine aX 2 rfl (by kernel_rfl) (by kernel_rfl) (by kernel_rfl) (by kernel_rfl) (fun _ _ _ _ h=>h) (by rfl) 171 _ rfl (w.heap.size+1) 0 rfl (cv h) _ (fun y hy=>DcS.range hy) Tryz.underlying171 rfl HIC.out (by assumption) ?_
   try simp only[Act.put,sP]
   refine aX 4 rfl (by kernel_rfl) (by kernel_rfl) (by kernel_rfl) (by kernel_rfl) (fun _ _ _ _ h=>h) (by rfl) 171 _ rfl (w.heap.size+1) 0 rfl (cv h) _ (fun y hy=>DcS.range hy) Tryz.underlying171 rfl HIC.out (by assumption) ?_
   try simp only[Act.put,sP]
   refine aX 6 rfl (by kernel_rfl) (by kernel_rfl) (by kernel_rfl) (by kernel_rfl) (fun _ _ _ _ h=>h) (by rfl) 171 _ rfl (w.heap.size+1) 0 rfl (cv h) _ (fun y hy=>DcS.range hy) Tryz.underlying171 rfl HIC.out (by assumption) ?_
   try simp only[Act.put,sP]
   refine lB 8 ?_
   try simp only[Act.put,sP]
   refine lo 1 fun K hK=>?_
   go_simp
   refine Calls.mono (HN0.out _) ?_
   rintro e x6 ⟨rfl,hb⟩
   try dsimp only
   have hS4:=DcS.below hH hb
   have HR:Hid (RRow x6 a5 rs):=RRow.below HRc.out hb
   clear HRc
   have HRc:Hid (RRow x6 a5 rs):=HR.out
   clear HR
   refine hK.out _ _ hS4 (fun hHx=>?_)
   clear hK hb hS4 hH
   try simp only[Act.put,sP]
   refine lo 3 fun K hK=>?_
   go_simp
   refine Calls.mono (HN5.out _) ?_
   rintro e x7 ⟨rfl,hb⟩
   try dsimp only
   have hS4:=DcS.below hHx hb
   have HR:Hid (RRow x7 a5 rs):=RRow.below HRc.out hb
   clear HRc
   have HRc:Hid (RRow x7 a5 rs):=HR.out
   clear HR
   refine hK.out _ _ hS4 (fun hHxx=>?_)
   clear hK hb hS4 hHx
   try simp only[Act.put,sP]
   refine lo 5 fun K hK=>?_
   go_simp
   refine Calls.mono (HN3.out _) ?_
   rintro e x8 ⟨rfl,hb⟩
   try dsimp only
   have hS4:=DcS.below hHxx hb
   have HR:Hid (RRow x8 a5 rs):=RRow.below HRc.out hb
   clear HRc
   have HRc:Hid (RRow x8 a5 rs):=HR.out
   clear HR
   refine hK.out _ _ hS4 (fun hHxxx=>?_)
   clear hK hb hS4 hHxx
   try simp only[Act.put,sP]
   refine lo 7 fun K hK=>?_
   go_simp
   refine Calls.mono (HN4.out _) ?_
   rintro e x9 ⟨rfl,hb⟩
   try dsimp only
   have hS4:=DcS.below hHxxx hb
   have HR:Hid (RRow x9 a5 rs):=RRow.below HRc.out hb
   clear HRc
   have HRc:Hid (RRow x9 a5 rs):=HR.out
   clear HR
   refine hK.out _ _ hS4 (fun hHxxxx=>?_)
   clear hK hb hS4 hHxxx
   try simp only[Act.put,sP]
   refine lo 9 fun K hK=>?_
   go_simp
   try dsimp only
   refine hK.out _ _ hHxxxx (fun hHy=>?_)
   clear hK hHy
   try simp only[Act.put,sP]
   refine ll 10 fun K hK=>?_
   refine wp_store_row 88 _ _ rfl w.heap.size #[.int .i64 B0,.int .i64 (X5:Int),.int .i64 B3,.int .i64 B4,.slice a5 nl c5] rfl rfl 88 _ hHxxxx.res Tryz.info88 rfl (aO _ _ _ _ _ _ _) ?_
   refine hK.out _ _ ?_
   clear hK
   try simp only[Act.put,sP]
   have HRn:Hid ((x9.setRow w.heap.size #[.int .i64 B0,.int .i64 (X5:Int),.int .i64 B3,.int .i64 B4,.slice a5 nl c5]).heap[w.heap.size]? = some (.cells #[.int .i64 B0,.int .i64 (X5:Int),.int .i64 B3,.int .i64 B4,.slice a5 nl c5] 88 (0,0))):=setRow_heap _ _ _ _ _ _ hHxxxx.res
   have HBn:Hid (Below w.heap.size w (x9.setRow w.heap.size #[.int .i64 B0,.int .i64 (X5:Int),.int .i64 B3,.int .i64 B4,.slice a5 nl c5])):=below_setRow hHxxxx.bel (Nat.le_refl _) _
   have HRR:Hid (RRow (x9.setRow w.heap.size #[.int .i64 B0,.int .i64 (X5:Int),.int .i64 B3,.int .i64 B4,.slice a5 nl c5]) a5 rs):=RRow.keepR HRc.out HAD.out
   clear HRc hHxxxx
   generalize x9.setRow w.heap.size #[.int .i64 B0,.int .i64 (X5:Int),.int .i64 B3,.int .i64 B4,.slice a5 nl c5]=xa at HRn HBn HRR ⊢
   obtain⟨d0,d1,d2,d3,d4,dz⟩:=aW HRn.out
   as_aux_lemma=>
    go_wp2_with (first
     | (go_at_call 99;refine(HWR.out _ _ _ HRR.out).mono ?_;rintro e xb ⟨rfl,hbb⟩;have HRn2:Hid (xb.heap[w.heap.size]? = some (.cells #[.int .i64 B0,.int .i64 (X5:Int),.int .i64 B3,.int .i64 B4,.slice a5 nl c5] 88 (0,0))):=(hbb.block _ (Array.getElem?_eq_some_iff.1 HRn.out).1).trans HRn.out;have HBn2:Hid (Below w.heap.size w xb):=HBn.out.trans (hbb.mono HBn.out.size);have HRR2:Hid (RRow xb a5 rs):=RRow.below HRR.out hbb;clear HRn HBn d0 d1 d2 d3 d4 dz;obtain⟨d0,d1,d2,d3,d4,dz⟩:=aW HRn2.out;clear hbb)
     | (have _t:=HRn2;refine wpList_store_row rfl 88 _ _ rfl w.heap.size #[.int .i64 0,.int .i64 0,.int .i64 0,.int .i64 0,.slice none 0 0] rfl rfl 88 _ HRn2.out Tryz.info88 rfl (aO _ _ _ _ _ _ _) ?_))
    refine bodyPost_ret (v:=.tuple #[.agg #[.int .i64 0,.int .i64 0,.int .i64 0,.int .i64 0,.slice none 0 0],.int .i64 0,.int .i64 10]) ?_ rfl (HPB.out HNO.out _ _ ⟨rfl,below_setRow HBn2.out (Nat.le_refl _) _⟩)
    exact aE (p:=2) (u:=3) (u2:=4) (by rfl) _ _ w.heap.size _ _ _ (by rfl) (by rfl) (by rfl) rfl (setRow_heap _ _ _ _ _ _ HRn2.out)
open Go.RowKit
theorem sA (a:Option Addr) (cap:Nat) (l:List Nat) (w:World) (ht:Tab w) (hr:Row w a l) (hl:l.length<=cap) (hc:cap<=maxLen) (hl2:l.length<=1000000000000) (h48:48<=l.length) (hsz:48<=lenN l/\lenN l<=l.length/\lenN l<=6000) (hsum:P.sum ((l.take (lenN l)).drop 16)=getV l 12 4 true) (gA:AllOk (partOf l) (frsOf l) (cntOf l)) (gR:rest (partOf l) (frsOf l) (cntOf l)=[]) (g5:wrE (bOf l)=0) (g6:¬frs (bOf l)=frsOf l) :
 Calls Tryz.prog 84 #[.slice a l.length cap] w fun e w'=>(OkB l->∃a' c',e=.returned (.tuple #[bav (bOf l) a' c',.int .i64 ((lenN l:Nat):Int),.int .i64 0])/\RRow w' a' (bOf l).rs/\(a'=none->c'=0)/\(∀g,a'=some g->w.heap.size<=g.block))/\(¬OkB l->e=.returned (.tuple #[bav bz none 0,.int .i64 0,.int .i64 10]))/\Below w.heap.size w w':=by
 have h0:0 < l.length:=by omega
 obtain⟨pb,poff,rfl,hc0,_⟩:=hr 0 h0
 have hpb:pb < w.heap.size:=by have:=World.block_lt_of_cell? _ _ hc0;simpa using this
 clear hc0
 have hmem:=bF (fun i=>hr.lt i)
 have hgl:=fun i n=>dK l i n (fun j=>hr.lt j)
 obtain⟨PO,HPO⟩:∃PO:Ending->World->Prop,Hid (PO=fun e w'=>(OkB l->∃a' c',e=.returned (.tuple #[bav (bOf l) a' c',.int .i64 ((lenN l:Nat):Int),.int .i64 0])/\RRow w' a' (bOf l).rs/\(a'=none->c'=0)/\(∀g,a'=some g->w.heap.size<=g.block))/\(¬OkB l->e=.returned (.tuple #[bav bz none 0,.int .i64 0,.int .i64 10]))/\Below w.heap.size w w'):=⟨_,rfl⟩
 have HPB:Hid (¬OkB l->∀e w',(e=.returned (.tuple #[.agg #[.int .i64 0,.int .i64 0,.int .i64 0,.int .i64 0,.slice none 0 0],.int .i64 0,.int .i64 10])/\Below w.heap.size w w')->PO e w'):=fun hn e w' h=>by rw[HPO.out];exact⟨fun q=>absurd q hn,fun _=>h.1,h.2⟩
 have HPG:Hid (OkB l->∀e w',(∃a' c',e=.returned (.tuple #[bav (bOf l) a' c',.int .i64 ((lenN l:Nat):Int),.int .i64 0])/\RRow w' a' (bOf l).rs/\(a'=none->c'=0)/\(∀g,a'=some g->w.heap.size<=g.block))->Below w.heap.size w w'->PO e w'):=fun hy e w' h hb=>by rw[HPO.out];exact⟨fun _=>h,fun q=>absurd hy q,hb⟩
 rw[<-HPO.out]
 clear HPO
 obtain⟨h,HHD⟩:∃h,Hid (l.take 48=h):=⟨_,rfl⟩
 have hh48:h.length=48:=by rw[<-HHD.out,List.length_take];omega
 have HRG:Hid (∀y,Below w.heap.size w y->y.rangeAt pb poff (cv h)):=fun y hb=>by rw[<-HHD.out];exact eQ (hr.below hb) 48
 have HCL:Hid ((cv h).length=48):=by show _=_;rw[aQ,hh48]
 have HSZ:Hid ((cv h).toArray.size=48):=bS HCL.out
 have HLD:Hid (∀y,DcS w h y->(loadVar 171 ⟨w.heap.size+1,0,none⟩).run Tryz.prog y=.ok (.agg (cv h).toArray) y):=fun y hy=>DcS.load hy HSZ.out
 have hhm:∀i,h.getD i 0 < 256:=by rw[<-HHD.out];exact cG (fun x hx=>hmem x (List.mem_of_mem_take hx))
 have num4:∀i:Nat,i+4<=48->∀x,Calls Tryz.prog 96 #[.agg (cv h).toArray,.int .i64 (i:Int),.int .i64 4] x fun e w'=>e=.returned (.int .i64 ((getV l i 4 true:Nat):Int))/\Below x.heap.size x w':=by
  intro i hi x
  have h2:=cA h i 4 x hh48 hhm (by decide) (by decide) hi
  rw[<-HHD.out,cC l i 4 48 hi,HHD.out] at h2
  have h3:=hgl i 4
  rw[w64 _ (by omega) (by omega)] at h2
  exact h2
 have num8:∀i:Nat,i+8<=48->∀x,Calls Tryz.prog 96 #[.agg (cv h).toArray,.int .i64 (i:Int),.int .i64 8] x fun e w'=>e=.returned (.int .i64 (wrap64 (getV l i 8 true)))/\Below x.heap.size x w':=by
  intro i hi x
  have h2:=cA h i 8 x hh48 hhm (by decide) (by decide) hi
  rw[<-HHD.out,cC l i 8 48 hi,HHD.out] at h2
  exact h2
 have HN0:Hid _:=num8 0 (by decide)
 have HN1:Hid _:=num4 8 (by decide)
 have HN2:Hid _:=num4 12 (by decide)
 have HN3:Hid _:=num8 16 (by decide)
 have HN4:Hid _:=num8 24 (by decide)
 have HN5:Hid _:=num4 32 (by decide)
 have HN6:Hid _:=num4 36 (by decide)
 have HN7:Hid _:=num8 40 (by decide)
 have hx1:=hgl 8 4
 have hx6:=hgl 36 4
 have hx2:=hgl 12 4
 have hLN:lenN l=12+getV l 8 4 true:=rfl
 have HOK:Hid (OkB l->48<=lenN l/\lenN l<=l.length/\lenN l<=6000/\P.sum ((l.take (lenN l)).drop 16)=getV l 12 4 true):=fun h=>⟨h.n48,h.nl,h.nm,h.sum⟩
 have HCT:Hid (cntOf l=getV l 36 4 true/\frsOf l=wrap64 (getV l 40 8 true)):=⟨rfl,rfl⟩
 have HBO:Hid (∀rs,recs (partOf l) (frsOf l) (cntOf l)=rs->bOf l=⟨wrap64 (getV l 0 8 true),getV l 32 4 true,wrap64 (getV l 16 8 true),wrap64 (getV l 24 8 true),rs⟩):=fun rs h=>by unfold bOf;rw[h]
 clear hgl num4 num8
 generalize getV l 0 8 true=X0 at *
 generalize getV l 8 4 true=X1 at *
 generalize hX2V:getV l 12 4 true=X2 at *
 have HX2V:Hid (getV l 12 4 true=X2):=hX2V
 clear hX2V
 generalize getV l 16 8 true=X3 at *
 generalize getV l 24 8 true=X4 at *
 generalize getV l 32 4 true=X5 at *
 generalize getV l 36 4 true=X6 at *
 generalize getV l 40 8 true=X7 at *
 generalize wrap64 (X0:Int)=B0 at *
 generalize wrap64 (X3:Int)=B3 at *
 generalize wrap64 (X4:Int)=B4 at *
 generalize wrap64 (X7:Int)=B7 at *
 obtain⟨NN,HNN⟩:∃NN,Hid (lenN l=NN):=⟨_,rfl⟩
 rw[HNN.out] at hLN HOK HPG hsz hsum
 have hwN:IntKind.i64.wrap (12+(X1:Int))=(NN:Int):=by rw[IntKind.wrap_i64];omega
 have HNI:Hid ((12:Int)+(X1:Int)=(NN:Int)):=by show _=_;omega
 have HIC:Hid ((Tryz.prog.info? 171).map (·.size)=some (cv h).length):=by show _=_;rw[HCL.out];exact Tryz.info171
 have ks0:=fun y=>cF y ⟨pb,poff,none⟩ l.length cap (by omega)
 have ka:=fun y=>run_arrayAt y ⟨pb,poff,none⟩ cap
 have hlI:¬(l.length:Int) < 48:=by omega
 have tokA:=trivial
 have HROW:Hid (Row w (some ⟨pb,poff,none⟩) l):=hr
 have HT:Hid (Tab w):=ht
 clear hr ht hh48 hhm hLN
 obtain⟨g1,g2,g3⟩:=hsz
 have g1d:decide ((NN:Int) < 48)=false:=decide_eq_false (by omega)
 have g2d:decide ((l.length:Int) < (NN:Int))=false:=decide_eq_false (by omega)
 have g3d:decide ((6000:Int) < (NN:Int))=false:=decide_eq_false (by omega)
 have ks1:∀y,(Instr.slice 22 (.slice (some ⟨pb,poff,none⟩) l.length cap) (some (.int .i64 16)) (some (.int .i64 (NN:Int))) none).run Tryz.prog y=.ok (.slice (cutA (some ⟨pb,poff,none⟩) cap 16) (NN - 16) (cap - 16)) y:=fun y=>bK y _ l.length cap 16 NN (by omega) (by omega)
 have ks2:∀y,(Instr.slice 22 (.slice (some ⟨pb,poff,none⟩) l.length cap) (some (.int .i64 48)) (some (.int .i64 (NN:Int))) none).run Tryz.prog y=.ok (.slice (cutA (some ⟨pb,poff,none⟩) cap 48) (NN - 48) (cap - 48)) y:=fun y=>bK y _ l.length cap 48 NN (by omega) (by omega)
 obtain⟨SU,HSU⟩:∃SU,Hid (P.sum ((l.take NN).drop 16)=SU):=⟨_,rfl⟩
 have hsl:SU < 4294967296:=by rw[<-HSU.out];exact sum_lt _ (fun x hx=>hmem x (List.mem_of_mem_take (List.mem_of_mem_drop hx)))
 have HSM:Hid (∀y,Below w.heap.size w y->Calls Tryz.prog 97 #[.slice (cutA (some ⟨pb,poff,none⟩) cap 16) (NN - 16) (cap - 16)] y fun e w'=>e=.returned (.int .u32 (SU:Nat))/\w'=y):=by
  intro y hb
  have hlen:((l.take NN).drop 16).length=NN - 16:=by rw[List.length_drop,List.length_take];omega
  have:=sum_any (cutA (some ⟨pb,poff,none⟩) cap 16) (cap - 16) ((l.take NN).drop 16) y (Tab.below HT.out hb) (dW cap 16 NN (Row.below HROW.out hb) hl) (by rw[hlen];unfold maxLen;omega)
  rw[hlen,HSU.out] at this
  exact this
 rw[HSU.out] at HOK
 have hwu:IntKind.u32.wrap (X2:Int)=(X2:Int):=by rw[IntKind.wrap_u32];omega
 rw[HSU.out] at hsum
 subst hsum
 obtain⟨gc1,gc2⟩:=HCT.out
 have hpl:(partOf l).length=NN - 48:=by unfold partOf;rw[HNN.out,List.length_drop,List.length_take];omega
 have HSP0:Hid (∀y,Below w.heap.size w y->Calls Tryz.prog 98 #[.slice (cutA (some ⟨pb,poff,none⟩) cap 48) (NN - 48) (cap - 48),.int .i64 (X6:Int),.int .i64 B7] y fun e w'=>(AllOk (partOf l) (frsOf l) (cntOf l)->∃a' c',e=.returned (.tuple #[.slice a' X6 c',.bool (decide (rest (partOf l) (frsOf l) (cntOf l)=[]))])/\RRow w' a' (recs (partOf l) (frsOf l) (cntOf l))/\(a'=none->c'=0)/\(∀g,a'=some g->y.heap.size<=g.block))/\(¬AllOk (partOf l) (frsOf l) (cntOf l)->e=.returned (.tuple #[.slice none 0 0,.bool false]))/\Below y.heap.size y w'):=by
  intro y hb
  have h2:=gG (cutA (some ⟨pb,poff,none⟩) cap 48) (cap - 48) (partOf l) X6 B7 y (by unfold partOf;rw[HNN.out];exact dW cap 48 NN (Row.below HROW.out hb) hl) (by omega) (by omega) (by omega) (by omega)
  rw[hpl] at h2
  rw[gc1,gc2]
  exact h2
 have HNO:Hid (¬OkB l):=fun q=>g6 q.fst
 obtain⟨rs,HRS⟩:∃rs,Hid (recs (partOf l) (frsOf l) (cntOf l)=rs):=⟨_,rfl⟩
 obtain⟨nl,HNL⟩:∃nl,Hid (X6=nl):=⟨_,rfl⟩
 have HSP:Hid (∀y,Below w.heap.size w y->Calls Tryz.prog 98 #[.slice (cutA (some ⟨pb,poff,none⟩) cap 48) (NN - 48) (cap - 48),.int .i64 (X6:Int),.int .i64 B7] y fun e w'=>∃a' c',e=.returned (.tuple #[.slice a' nl c',.bool true])/\RRow w' a' rs/\(a'=none->c'=0)/\(∀g,a'=some g->y.heap.size<=g.block)/\Below y.heap.size y w'):=by
  intro y hb
  refine(HSP0.out y hb).mono ?_
  rintro e w' ⟨q,_,hb2⟩
  obtain⟨a',c',rfl,h1,h2,h3⟩:=q gA
  rw[decide_eq_true gR,HNL.out]
  rw[HRS.out] at h1
  exact⟨a',c',rfl,h1,h2,h3,hb2⟩
 have HRL:Hid (rs.length=nl):=by show _=_;rw[<-HRS.out,cW,gc1];exact HNL.out
 have HBB:Hid (bOf l=⟨B0,X5,B3,B4,rs⟩):=HBO.out rs HRS.out
 have HFR:Hid (frsOf l=B7):=gc2
 have HWR:Hid (∀y a' c',RRow y a' rs->Calls Tryz.prog 99 #[.agg #[.int .i64 B0,.int .i64 (X5:Int),.int .i64 B3,.int .i64 B4,.slice a' nl c']] y fun e w'=>e=.returned (.int .i64 (wrE (bOf l)))/\Below y.heap.size y w'):=by
  intro y a' c' h
  have h2:=fJ ⟨B0,X5,B3,B4,rs⟩ a' c' y h (by show rs.length<=_;rw[HRL.out,<-HNL.out];unfold maxLen;omega)
  rw[<-HBB.out] at h2
  rw[show bav (bOf l) a' c'=.agg #[.int .i64 B0,.int .i64 (X5:Int),.int .i64 B3,.int .i64 B4,.slice a' nl c'] by rw[HBB.out];simp only[bav,HRL.out]] at h2
  exact h2
 have HT0:Hid (frs (bOf l)=(rs.getD 0 rz).t):=by show _=_;rw[HBB.out];rfl
 have hps:0 < rs.length:=by have h2:=(eV g5).2.2.2.2.1;rw[HBB.out] at h2;exact h2
 have hnl:0 < nl:=by rw[<-HRL.out];exact hps
 have hnlI:(0:Int) < (nl:Int):=by omega
 have HBV:Hid (∀a' c',bav (bOf l) a' c'=.agg #[.int .i64 B0,.int .i64 (X5:Int),.int .i64 B3,.int .i64 B4,.slice a' nl c']):=fun a' c'=>by rw[HBB.out];simp only[bav,HRL.out]
 have HBR:Hid ((bOf l).rs=rs):=by show _=_;rw[HBB.out]
 rw[g5] at HWR
 obtain⟨t0,HTT⟩:∃t0,Hid ((rs.getD 0 rz).t=t0):=⟨_,rfl⟩
 rw[HT0.out,HTT.out,HFR.out] at g6
 have HY:Hid (∀y a',0 < rs.length->RRow y a' rs->∃tb toff,a'=some ⟨tb,toff,none⟩/\y.cell? ⟨tb,toff+4,none⟩=some (.int .i64 t0)/\tb < y.heap.size):=by
  intro y a' hp hrr
  obtain⟨x,off,e,z0,_,_,_,z4,_⟩:=hrr 0 hp
  rw[Nat.zero_mul,Nat.add_zero,HTT.out] at z4
  have h2:=World.block_lt_of_cell? _ _ z0
  exact⟨x,off,e,z4,by simpa using h2⟩
 have g6d:(t0 != B7)=true:=by rw[bne_iff_ne];exact g6
 clear g5 g6 gA gR HSP0 gc1 gc2 HCT HBO HRS hpl HOK HPG HBB HT0 HTT
 go_enter Tryz.func84,Tryz.ntmps84
 go_wp2_with (first
  | (have _t:=tokA;refine wpList_load_mid rfl 171 _ rfl pb poff rfl (cv h) _ (HRG.out _ (aA _)) Tryz.underlying171 rfl (by rw[HCL.out];exact Tryz.info171) ?_)
  | (have _t:=tokA;refine wpList_store_row rfl 171 _ _ rfl (w.heap.size+1) (cv h).toArray rfl rfl 171 #[.int .u8 0,.int .u8 0,.int .u8 0,.int .u8 0,.int .u8 0,.int .u8 0,.int .u8 0,.int .u8 0,.int .u8 0,.int .u8 0,.int .u8 0,.int .u8 0,.int .u8 0,.int .u8 0,.int .u8 0,.int .u8 0,.int .u8 0,.int .u8 0,.int .u8 0,.int .u8 0,.int .u8 0,.int .u8 0,.int .u8 0,.int .u8 0,.int .u8 0,.int .u8 0,.int .u8 0,.int .u8 0,.int .u8 0,.int .u8 0,.int .u8 0,.int .u8 0,.int .u8 0,.int .u8 0,.int .u8 0,.int .u8 0,.int .u8 0,.int .u8 0,.int .u8 0,.int .u8 0,.int .u8 0,.int .u8 0,.int .u8 0,.int .u8 0,.int .u8 0,.int .u8 0,.int .u8 0,.int .u8 0] (fE w) (by rw[HSZ.out];exact Tryz.info171) (by rw[HSZ.out];rfl) (cH h) ?_;clear tokA _t;have HX:Hid (DcS w h (((w.alloc (.cells #[.int .i64 0,.int .i64 0,.int .i64 0,.int .i64 0,.slice none 0 0] 88)).alloc (.cells #[.int .u8 0,.int .u8 0,.int .u8 0,.int .u8 0,.int .u8 0,.int .u8 0,.int .u8 0,.int .u8 0,.int .u8 0,.int .u8 0,.int .u8 0,.int .u8 0,.int .u8 0,.int .u8 0,.int .u8 0,.int .u8 0,.int .u8 0,.int .u8 0,.int .u8 0,.int .u8 0,.int .u8 0,.int .u8 0,.int .u8 0,.int .u8 0,.int .u8 0,.int .u8 0,.int .u8 0,.int .u8 0,.int .u8 0,.int .u8 0,.int .u8 0,.int .u8 0,.int .u8 0,.int .u8 0,.int .u8 0,.int .u8 0,.int .u8 0,.int .u8 0,.int .u8 0,.int .u8 0,.int .u8 0,.int .u8 0,.int .u8 0,.int .u8 0,.int .u8 0,.int .u8 0,.int .u8 0,.int .u8 0] 171)).setRow (w.heap.size+1) (cv h).toArray)):=DcS.made w h;generalize ((w.alloc (.cells #[.int .i64 0,.int .i64 0,.int .i64 0,.int .i64 0,.slice none 0 0] 88)).alloc (.cells #[.int .u8 0,.int .u8 0,.int .u8 0,.int .u8 0,.int .u8 0,.int .u8 0,.int .u8 0,.int .u8 0,.int .u8 0,.int .u8 0,.int .u8 0,.int .u8 0,.int .u8 0,.int .u8 0,.int .u8 0,.int .u8 0,.int .u8 0,.int .u8 0,.int .u8 0,.int .u8 0,.int .u8 0,.int .u8 0,.int .u8 0,.int .u8 0,.int .u8 0,.int .u8 0,.int .u8 0,.int .u8 0,.int .u8 0,.int .u8 0,.int .u8 0,.int .u8 0,.int .u8 0,.int .u8 0,.int .u8 0,.int .u8 0,.int .u8 0,.int .u8 0,.int .u8 0,.int .u8 0,.int .u8 0,.int .u8 0,.int .u8 0,.int .u8 0,.int .u8 0,.int .u8 0,.int .u8 0,.int .u8 0] 171)).setRow (w.heap.size+1) (cv h).toArray=x0 at HX ⊢;have HX0:Hid (DcS w h x0):=HX;clear HX)
  | (have _t:=HX0;refine wpList_load_row rfl 171 _ rfl (w.heap.size+1) rfl 171 (cv h).toArray (0,0) _ HX0.out.arr Tryz.underlying171 rfl (by rw[HSZ.out];exact Tryz.info171) ?_)
  | (go_at_call 96;have _t:=HX0;refine(HN1.out _).mono ?_;rintro e x1 ⟨rfl,hb⟩;have HX1:Hid (DcS w h x1):=DcS.below HX0.out hb;clear hb HX0 _t))
 have hS0:DcS w h x1.drew:=DcS.below HX1.out (Below.refl _ _).drew
 refine aD (DcS w h) 7 (by kernel_rfl) hS0 (fun hHeld=>?_)
 clear hS0
 refine lB 0 ?_
 try simp only[Act.put,sP]
 refine lB 1 ?_
 try simp only[Act.put,sP]
 refine lB 2 ?_
 try simp only[Act.put,sP]
 refine aX 4 rfl (by kernel_rfl) (by kernel_rfl) (by kernel_rfl) (by kernel_rfl) (fun _ _ _ _ h=>h) (by rfl) 171 _ rfl (w.heap.size+1) 0 rfl (cv h) _ (fun y hy=>DcS.range hy) Tryz.underlying171 rfl HIC.out (by assumption) ?_
 try simp only[Act.put,sP]
 refine lo 3 fun K hK=>?_
 go_simp
 refine Calls.mono (HSM.out _ hHeld.bel) ?_
 rintro e y2 ⟨rfl,hw⟩
 subst y2
 try dsimp only
 refine hK.out _ _ hHeld (fun hS2=>?_)
 clear hK hHeld
 try simp only[Act.put,sP]
 refine lo 5 fun K hK=>?_
 go_simp
 refine Calls.mono (HN2.out _) ?_
 rintro e x2 ⟨rfl,hb⟩
 try dsimp only
 have hS2':=DcS.below hS2 hb
 refine hK.out _ _ hS2' (fun hS3=>?_)
 clear hK hS2 hb hS2'
 try simp only[Act.put,sP]
 refine lB 6 ?_
 try simp only[Act.put,sP]
 refine ll 7 fun K hK=>?_
 go_simp
 try dsimp only
 refine hK.out _ _ ?_
 clear hK
 try simp only[Act.put,sP]
 have HX2:Hid (DcS w h x2):=hS3
 clear hS3
 as_aux_lemma=>
  go_wp2_with (first
   | (have _t:=HX2;refine wpList_load_row rfl 171 _ rfl (w.heap.size+1) rfl 171 (cv h).toArray (0,0) _ HX2.out.arr Tryz.underlying171 rfl (by rw[HSZ.out];exact Tryz.info171) ?_)
   | (go_at_call 96;have _t:=HX2;refine(HN7.out _).mono ?_;rintro e x3 ⟨rfl,hb⟩;have HX3:Hid (DcS w h x3):=DcS.below HX2.out hb;clear hb HX2 _t))
  have hS0:DcS w h x3.drew:=DcS.below HX3.out (Below.refl _ _).drew
  refine aD (DcS w h) 11 (by kernel_rfl) hS0 (fun hHeld=>?_)
  clear hS0 HX3
  refine lB 0 ?_
  try simp only[Act.put,sP]
  refine lB 1 ?_
  try simp only[Act.put,sP]
  refine lB 2 ?_
  try simp only[Act.put,sP]
  refine aX 3 rfl (by kernel_rfl) (by kernel_rfl) (by kernel_rfl) (by kernel_rfl) (fun _ _ _ _ h=>h) (by rfl) 171 _ rfl (w.heap.size+1) 0 rfl (cv h) _ (fun y hy=>DcS.range hy) Tryz.underlying171 rfl HIC.out (by assumption) ?_
  try simp only[Act.put,sP]
  refine lB 5 ?_
  try simp only[Act.put,sP]
  refine lo 4 fun K hK=>?_
  go_simp
  refine Calls.mono (HN6.out _) ?_
  rintro e x4 ⟨rfl,hb⟩
  try dsimp only
  have hS4:=DcS.below hHeld hb
  refine hK.out _ _ hS4 (fun hS5=>?_)
  clear hK hb hS4 hHeld
  try simp only[Act.put,sP]
  refine lo 6 fun K hK=>?_
  go_simp
  refine Calls.mono (HSP.out _ hS5.bel) ?_
  rintro e x5 ⟨a5,c5,rfl,hr5,hn5,hg5,hb5⟩
  have HAD:Hid (∀g,a5=some g->g.block≠w.heap.size):=fun g hg q=>by have h1:=hg5 g hg;have h2:=(Array.getElem?_eq_some_iff.1 hS5.res).1;omega
  have HAN:Hid (∀g,a5=some g->w.heap.size<=g.block):=fun g hg=>by have h1:=hg5 g hg;have h2:=(Array.getElem?_eq_some_iff.1 hS5.res).1;omega
  clear hg5
  try dsimp only
  have hS6:=DcS.below hS5 hb5
  refine hK.out _ _ hS6 (fun hS7=>?_)
  clear hK hb5 hS6 hS5
  try simp only[Act.put,sP]
  refine lB 7 ?_
  try simp only[Act.put,sP]
  refine lB 8 ?_
  try simp only[Act.put,sP]
  refine lB 9 ?_
  try simp only[Act.put,sP]
  refine lo 10 fun K hK=>?_
  go_simp
  try dsimp only
  refine hK.out _ _ hS7 (fun hS8=>?_)
  clear hK hS7
  try simp only[Act.put,sP]
  refine ll 11 fun K hK=>?_
  go_simp
  try dsimp only
  refine hK.out _ _ ?_
  clear hK
  try simp only[Act.put,sP]
  have HX5:Hid (DcS w h x5):=hS8
  have HR5:Hid (RRow x5 a5 rs):=hr5
  clear hS8 hr5
  go_wp2_with fail
  as_aux_lemma=>
   have hS0:DcS w h x5.drew:=DcS.below HX5.out (Below.refl _ _).drew
   have HRc:Hid (RRow x5.drew a5 rs):=RRow.below HR5.out (Below.refl _ _).drew
   refine aD (DcS w h) 10 (by kernel_rfl) hS0 (fun hH=>?_)
   clear hS0 HX5 HR5
   refine aX 0 rfl (by kernel_rfl) (by kernel_rfl) (by kernel_rfl) (by kernel_rfl) (fun _ _ _ _ h=>h) (by rfl) 171 _ rfl (w.heap.size+1) 0 rfl (cv h) _ (fun y hy=>DcS.range hy) Tryz.underlying171 rfl HIC.out (by assumption) ?_
   try simp only[Act.put,sP]
   refine aX 2 rfl (by kernel_rfl) (by kernel_rfl) (by kernel_rfl) (by kernel_rfl) (fun _ _ _ _ h=>h) (by rfl) 171 _ rfl (w.heap.size+1) 0 rfl (cv h) _ (fun y hy=>DcS.range hy) Tryz.underlying171 rfl HIC.out (by assumption) ?_
   try simp only[Act.put,sP]
   refine aX 4 rfl (by kernel_rfl) (by kernel_rfl) (by kernel_rfl) (by kernel_rfl) (fun _ _ _ _ h=>h) (by rfl) 171 _ rfl (w.heap.size+1) 0 rfl (cv h) _ (fun y hy=>DcS.range hy) Tryz.underlying171 rfl HIC.out (by assumption) ?_
   try simp only[Act.put,sP]
   refine aX 6 rfl (by kernel_rfl) (by kernel_rfl) (by kernel_rfl) (by kernel_rfl) (fun _ _ _ _ h=>h) (by rfl) 171 _ rfl (w.heap.size+1) 0 rfl (cv h) _ (fun y hy=>DcS.range hy) Tryz.underlying171 rfl HIC.out (by assumption) ?_
   try simp only[Act.put,sP]
   refine lB 8 ?_
   try simp only[Act.put,sP]
   refine lo 1 fun K hK=>?_
   go_simp
   refine Calls.mono (HN0.out _) ?_
   rintro e x6 ⟨rfl,hb⟩
   try dsimp only
   have hS4:=DcS.below hH hb
   have HR:Hid (RRow x6 a5 rs):=RRow.below HRc.out hb
   clear HRc
   have HRc:Hid (RRow x6 a5 rs):=HR.out
   clear HR
   refine hK.out _ _ hS4 (fun hHx=>?_)
   clear hK hb hS4 hH
   try simp only[Act.put,sP]
   refine lo 3 fun K hK=>?_
   go_simp
   refine Calls.mono (HN5.out _) ?_
   rintro e x7 ⟨rfl,hb⟩
   try dsimp only
   have hS4:=DcS.below hHx hb
   have HR:Hid (RRow x7 a5 rs):=RRow.below HRc.out hb
   clear HRc
   have HRc:Hid (RRow x7 a5 rs):=HR.out
   clear HR
   refine hK.out _ _ hS4 (fun hHxx=>?_)
   clear hK hb hS4 hHx
   try simp only[Act.put,sP]
   refine lo 5 fun K hK=>?_
   go_simp
   refine Calls.mono (HN3.out _) ?_
   rintro e x8 ⟨rfl,hb⟩
   try dsimp only
   have hS4:=DcS.below hHxx hb
   have HR:Hid (RRow x8 a5 rs):=RRow.below HRc.out hb
   clear HRc
   have HRc:Hid (RRow x8 a5 rs):=HR.out
   clear HR
   refine hK.out _ _ hS4 (fun hHxxx=>?_)
   clear hK hb hS4 hHxx
   try simp only[Act.put,sP]
   refine lo 7 fun K hK=>?_
   go_simp
   refine Calls.mono (HN4.out _) ?_
   rintro e x9 ⟨rfl,hb⟩
   try dsimp only
   have hS4:=DcS.below hHxxx hb
   have HR:Hid (RRow x9 a5 rs):=RRow.below HRc.out hb
   clear HRc
   have HRc:Hid (RRow x9 a5 rs):=HR.out
   clear HR
   refine hK.out _ _ hS4 (fun hHxxxx=>?_)
   clear hK hb hS4 hHxxx
   try simp only[Act.put,sP]
   refine lo 9 fun K hK=>?_
   go_simp
   try dsimp only
   refine hK.out _ _ hHxxxx (fun hHy=>?_)
   clear hK hHy
   try simp only[Act.put,sP]
   refine ll 10 fun K hK=>?_
   refine wp_store_row 88 _ _ rfl w.heap.size #[.int .i64 B0,.int .i64 (X5:Int),.int .i64 B3,.int .i64 B4,.slice a5 nl c5] rfl rfl 88 _ hHxxxx.res Tryz.info88 rfl (aO _ _ _ _ _ _ _) ?_
   refine hK.out _ _ ?_
   clear hK
   try simp only[Act.put,sP]
   have HRn:Hid ((x9.setRow w.heap.size #[.int .i64 B0,.int .i64 (X5:Int),.int .i64 B3,.int .i64 B4,.slice a5 nl c5]).heap[w.heap.size]? = some (.cells #[.int .i64 B0,.int .i64 (X5:Int),.int .i64 B3,.int .i64 B4,.slice a5 nl c5] 88 (0,0))):=setRow_heap _ _ _ _ _ _ hHxxxx.res
   have HBn:Hid (Below w.heap.size w (x9.setRow w.heap.size #[.int .i64 B0,.int .i64 (X5:Int),.int .i64 B3,.int .i64 B4,.slice a5 nl c5])):=below_setRow hHxxxx.bel (Nat.le_refl _) _
   have HRR:Hid (RRow (x9.setRow w.heap.size #[.int .i64 B0,.int .i64 (X5:Int),.int .i64 B3,.int .i64 B4,.slice a5 nl c5]) a5 rs):=RRow.keepR HRc.out HAD.out
   clear HRc hHxxxx
   generalize x9.setRow w.heap.size #[.int .i64 B0,.int .i64 (X5:Int),.int .i64 B3,.int .i64 B4,.slice a5 nl c5]=xa at HRn HBn HRR ⊢
   obtain⟨d0,d1,d2,d3,d4,dz⟩:=aW HRn.out
   as_aux_lemma=>
    obtain⟨tb,toff,rfl,y4,ytb⟩:=HY.out _ _ hps HRR.out
    go_wp2_with (first
     | (go_at_call 99;refine(HWR.out _ _ _ HRR.out).mono ?_;rintro e xb ⟨rfl,hbb⟩;have HRn2:Hid (xb.heap[w.heap.size]? = some (.cells #[.int .i64 B0,.int .i64 (X5:Int),.int .i64 B3,.int .i64 B4,.slice (some ⟨tb,toff,none⟩) nl c5] 88 (0,0))):=(hbb.block _ (Array.getElem?_eq_some_iff.1 HRn.out).1).trans HRn.out;have HBn2:Hid (Below w.heap.size w xb):=HBn.out.trans (hbb.mono HBn.out.size);have HRR2:Hid (RRow xb (some ⟨tb,toff,none⟩) rs):=RRow.below HRR.out hbb;clear HRn HBn d0 d1 d2 d3 d4 dz;obtain⟨d0,d1,d2,d3,d4,dz⟩:=aW HRn2.out;have y5:=(hbb.cell (World.block_lt_of_cell? _ _ y4)).trans y4;clear y4;have ytb2:tb < xb.heap.size:=Nat.lt_of_lt_of_le ytb hbb.size;clear ytb;clear hbb)
     | (have _t:=HRn2;refine wpList_store_row rfl 88 _ _ rfl w.heap.size #[.int .i64 0,.int .i64 0,.int .i64 0,.int .i64 0,.slice none 0 0] rfl rfl 88 _ HRn2.out Tryz.info88 rfl (aO _ _ _ _ _ _ _) ?_))
    refine bodyPost_ret (v:=.tuple #[.agg #[.int .i64 0,.int .i64 0,.int .i64 0,.int .i64 0,.slice none 0 0],.int .i64 0,.int .i64 10]) ?_ rfl (HPB.out HNO.out _ _ ⟨rfl,below_setRow HBn2.out (Nat.le_refl _) _⟩)
    exact aE (p:=2) (u:=3) (u2:=4) (by rfl) _ _ w.heap.size _ _ _ (by rfl) (by rfl) (by rfl) rfl (setRow_heap _ _ _ _ _ _ HRn2.out)
open Go.RowKit
theorem oU (a:Option Addr) (cap:Nat) (l:List Nat) (w:World) (ht:Tab w) (hr:Row w a l) (hl:l.length<=cap) (hc:cap<=maxLen) (hl2:l.length<=1000000000000) (h48:48<=l.length) (hsz:48<=lenN l/\lenN l<=l.length/\lenN l<=6000) (hsum:P.sum ((l.take (lenN l)).drop 16)=getV l 12 4 true) (gA:AllOk (partOf l) (frsOf l) (cntOf l)) (gR:rest (partOf l) (frsOf l) (cntOf l)=[]) (g5:wrE (bOf l)=0) (g6:frs (bOf l)=frsOf l) (HYZ:OkB l) :
 Calls Tryz.prog 84 #[.slice a l.length cap] w fun e w'=>(OkB l->∃a' c',e=.returned (.tuple #[bav (bOf l) a' c',.int .i64 ((lenN l:Nat):Int),.int .i64 0])/\RRow w' a' (bOf l).rs/\(a'=none->c'=0)/\(∀g,a'=some g->w.heap.size<=g.block))/\(¬OkB l->e=.returned (.tuple #[bav bz none 0,.int .i64 0,.int .i64 10]))/\Below w.heap.size w w':=by
 have h0:0 < l.length:=by omega
 obtain⟨pb,poff,rfl,hc0,_⟩:=hr 0 h0
 have hpb:pb < w.heap.size:=by have:=World.block_lt_of_cell? _ _ hc0;simpa using this
 clear hc0
 have hmem:=bF (fun i=>hr.lt i)
 have hgl:=fun i n=>dK l i n (fun j=>hr.lt j)
 obtain⟨PO,HPO⟩:∃PO:Ending->World->Prop,Hid (PO=fun e w'=>(OkB l->∃a' c',e=.returned (.tuple #[bav (bOf l) a' c',.int .i64 ((lenN l:Nat):Int),.int .i64 0])/\RRow w' a' (bOf l).rs/\(a'=none->c'=0)/\(∀g,a'=some g->w.heap.size<=g.block))/\(¬OkB l->e=.returned (.tuple #[bav bz none 0,.int .i64 0,.int .i64 10]))/\Below w.heap.size w w'):=⟨_,rfl⟩
 have HPB:Hid (¬OkB l->∀e w',(e=.returned (.tuple #[.agg #[.int .i64 0,.int .i64 0,.int .i64 0,.int .i64 0,.slice none 0 0],.int .i64 0,.int .i64 10])/\Below w.heap.size w w')->PO e w'):=fun hn e w' h=>by rw[HPO.out];exact⟨fun q=>absurd q hn,fun _=>h.1,h.2⟩
 have HPG:Hid (OkB l->∀e w',(∃a' c',e=.returned (.tuple #[bav (bOf l) a' c',.int .i64 ((lenN l:Nat):Int),.int .i64 0])/\RRow w' a' (bOf l).rs/\(a'=none->c'=0)/\(∀g,a'=some g->w.heap.size<=g.block))->Below w.heap.size w w'->PO e w'):=fun hy e w' h hb=>by rw[HPO.out];exact⟨fun _=>h,fun q=>absurd hy q,hb⟩
 rw[<-HPO.out]
 clear HPO
 obtain⟨h,HHD⟩:∃h,Hid (l.take 48=h):=⟨_,rfl⟩
 have hh48:h.length=48:=by rw[<-HHD.out,List.length_take];omega
 have HRG:Hid (∀y,Below w.heap.size w y->y.rangeAt pb poff (cv h)):=fun y hb=>by rw[<-HHD.out];exact eQ (hr.below hb) 48
 have HCL:Hid ((cv h).length=48):=by show _=_;rw[aQ,hh48]
 have HSZ:Hid ((cv h).toArray.size=48):=bS HCL.out
 have HLD:Hid (∀y,DcS w h y->(loadVar 171 ⟨w.heap.size+1,0,none⟩).run Tryz.prog y=.ok (.agg (cv h).toArray) y):=fun y hy=>DcS.load hy HSZ.out
 have hhm:∀i,h.getD i 0 < 256:=by rw[<-HHD.out];exact cG (fun x hx=>hmem x (List.mem_of_mem_take hx))
 have num4:∀i:Nat,i+4<=48->∀x,Calls Tryz.prog 96 #[.agg (cv h).toArray,.int .i64 (i:Int),.int .i64 4] x fun e w'=>e=.returned (.int .i64 ((getV l i 4 true:Nat):Int))/\Below x.heap.size x w':=by
  intro i hi x
  have h2:=cA h i 4 x hh48 hhm (by decide) (by decide) hi
  rw[<-HHD.out,cC l i 4 48 hi,HHD.out] at h2
  have h3:=hgl i 4
  rw[w64 _ (by omega) (by omega)] at h2
  exact h2
 have num8:∀i:Nat,i+8<=48->∀x,Calls Tryz.prog 96 #[.agg (cv h).toArray,.int .i64 (i:Int),.int .i64 8] x fun e w'=>e=.returned (.int .i64 (wrap64 (getV l i 8 true)))/\Below x.heap.size x w':=by
  intro i hi x
  have h2:=cA h i 8 x hh48 hhm (by decide) (by decide) hi
  rw[<-HHD.out,cC l i 8 48 hi,HHD.out] at h2
  exact h2
 have HN0:Hid _:=num8 0 (by decide)
 have HN1:Hid _:=num4 8 (by decide)
 have HN2:Hid _:=num4 12 (by decide)
 have HN3:Hid _:=num8 16 (by decide)
 have HN4:Hid _:=num8 24 (by decide)
 have HN5:Hid _:=num4 32 (by decide)
 have HN6:Hid _:=num4 36 (by decide)
 have HN7:Hid _:=num8 40 (by decide)
 have hx1:=hgl 8 4
 have hx6:=hgl 36 4
 have hx2:=hgl 12 4
 have hLN:lenN l=12+getV l 8 4 true:=rfl
 have HOK:Hid (OkB l->48<=lenN l/\lenN l<=l.length/\lenN l<=6000/\P.sum ((l.take (lenN l)).drop 16)=getV l 12 4 true):=fun h=>⟨h.n48,h.nl,h.nm,h.sum⟩
 have HCT:Hid (cntOf l=getV l 36 4 true/\frsOf l=wrap64 (getV l 40 8 true)):=⟨rfl,rfl⟩
 have HBO:Hid (∀rs,recs (partOf l) (frsOf l) (cntOf l)=rs->bOf l=⟨wrap64 (getV l 0 8 true),getV l 32 4 true,wrap64 (getV l 16 8 true),wrap64 (getV l 24 8 true),rs⟩):=fun rs h=>by unfold bOf;rw[h]
 clear hgl num4 num8
 generalize getV l 0 8 true=X0 at *
 generalize getV l 8 4 true=X1 at *
 generalize hX2V:getV l 12 4 true=X2 at *
 have HX2V:Hid (getV l 12 4 true=X2):=hX2V
 clear hX2V
 generalize getV l 16 8 true=X3 at *
 generalize getV l 24 8 true=X4 at *
 generalize getV l 32 4 true=X5 at *
 generalize getV l 36 4 true=X6 at *
 generalize getV l 40 8 true=X7 at *
 generalize wrap64 (X0:Int)=B0 at *
 generalize wrap64 (X3:Int)=B3 at *
 generalize wrap64 (X4:Int)=B4 at *
 generalize wrap64 (X7:Int)=B7 at *
 obtain⟨NN,HNN⟩:∃NN,Hid (lenN l=NN):=⟨_,rfl⟩
 rw[HNN.out] at hLN HOK HPG hsz hsum
 have hwN:IntKind.i64.wrap (12+(X1:Int))=(NN:Int):=by rw[IntKind.wrap_i64];omega
 have HNI:Hid ((12:Int)+(X1:Int)=(NN:Int)):=by show _=_;omega
 have HIC:Hid ((Tryz.prog.info? 171).map (·.size)=some (cv h).length):=by show _=_;rw[HCL.out];exact Tryz.info171
 have ks0:=fun y=>cF y ⟨pb,poff,none⟩ l.length cap (by omega)
 have ka:=fun y=>run_arrayAt y ⟨pb,poff,none⟩ cap
 have hlI:¬(l.length:Int) < 48:=by omega
 have tokA:=trivial
 have HROW:Hid (Row w (some ⟨pb,poff,none⟩) l):=hr
 have HT:Hid (Tab w):=ht
 clear hr ht hh48 hhm hLN
 obtain⟨g1,g2,g3⟩:=hsz
 have g1d:decide ((NN:Int) < 48)=false:=decide_eq_false (by omega)
 have g2d:decide ((l.length:Int) < (NN:Int))=false:=decide_eq_false (by omega)
 have g3d:decide ((6000:Int) < (NN:Int))=false:=decide_eq_false (by omega)
 have ks1:∀y,(Instr.slice 22 (.slice (some ⟨pb,poff,none⟩) l.length cap) (some (.int .i64 16)) (some (.int .i64 (NN:Int))) none).run Tryz.prog y=.ok (.slice (cutA (some ⟨pb,poff,none⟩) cap 16) (NN - 16) (cap - 16)) y:=fun y=>bK y _ l.length cap 16 NN (by omega) (by omega)
 have ks2:∀y,(Instr.slice 22 (.slice (some ⟨pb,poff,none⟩) l.length cap) (some (.int .i64 48)) (some (.int .i64 (NN:Int))) none).run Tryz.prog y=.ok (.slice (cutA (some ⟨pb,poff,none⟩) cap 48) (NN - 48) (cap - 48)) y:=fun y=>bK y _ l.length cap 48 NN (by omega) (by omega)
 obtain⟨SU,HSU⟩:∃SU,Hid (P.sum ((l.take NN).drop 16)=SU):=⟨_,rfl⟩
 have hsl:SU < 4294967296:=by rw[<-HSU.out];exact sum_lt _ (fun x hx=>hmem x (List.mem_of_mem_take (List.mem_of_mem_drop hx)))
 have HSM:Hid (∀y,Below w.heap.size w y->Calls Tryz.prog 97 #[.slice (cutA (some ⟨pb,poff,none⟩) cap 16) (NN - 16) (cap - 16)] y fun e w'=>e=.returned (.int .u32 (SU:Nat))/\w'=y):=by
  intro y hb
  have hlen:((l.take NN).drop 16).length=NN - 16:=by rw[List.length_drop,List.length_take];omega
  have:=sum_any (cutA (some ⟨pb,poff,none⟩) cap 16) (cap - 16) ((l.take NN).drop 16) y (Tab.below HT.out hb) (dW cap 16 NN (Row.below HROW.out hb) hl) (by rw[hlen];unfold maxLen;omega)
  rw[hlen,HSU.out] at this
  exact this
 rw[HSU.out] at HOK
 have hwu:IntKind.u32.wrap (X2:Int)=(X2:Int):=by rw[IntKind.wrap_u32];omega
 rw[HSU.out] at hsum
 subst hsum
 obtain⟨gc1,gc2⟩:=HCT.out
 have hpl:(partOf l).length=NN - 48:=by unfold partOf;rw[HNN.out,List.length_drop,List.length_take];omega
 have HSP0:Hid (∀y,Below w.heap.size w y->Calls Tryz.prog 98 #[.slice (cutA (some ⟨pb,poff,none⟩) cap 48) (NN - 48) (cap - 48),.int .i64 (X6:Int),.int .i64 B7] y fun e w'=>(AllOk (partOf l) (frsOf l) (cntOf l)->∃a' c',e=.returned (.tuple #[.slice a' X6 c',.bool (decide (rest (partOf l) (frsOf l) (cntOf l)=[]))])/\RRow w' a' (recs (partOf l) (frsOf l) (cntOf l))/\(a'=none->c'=0)/\(∀g,a'=some g->y.heap.size<=g.block))/\(¬AllOk (partOf l) (frsOf l) (cntOf l)->e=.returned (.tuple #[.slice none 0 0,.bool false]))/\Below y.heap.size y w'):=by
  intro y hb
  have h2:=gG (cutA (some ⟨pb,poff,none⟩) cap 48) (cap - 48) (partOf l) X6 B7 y (by unfold partOf;rw[HNN.out];exact dW cap 48 NN (Row.below HROW.out hb) hl) (by omega) (by omega) (by omega) (by omega)
  rw[hpl] at h2
  rw[gc1,gc2]
  exact h2
 have HYS:Hid (OkB l):=HYZ
 obtain⟨rs,HRS⟩:∃rs,Hid (recs (partOf l) (frsOf l) (cntOf l)=rs):=⟨_,rfl⟩
 obtain⟨nl,HNL⟩:∃nl,Hid (X6=nl):=⟨_,rfl⟩
 have HSP:Hid (∀y,Below w.heap.size w y->Calls Tryz.prog 98 #[.slice (cutA (some ⟨pb,poff,none⟩) cap 48) (NN - 48) (cap - 48),.int .i64 (X6:Int),.int .i64 B7] y fun e w'=>∃a' c',e=.returned (.tuple #[.slice a' nl c',.bool true])/\RRow w' a' rs/\(a'=none->c'=0)/\(∀g,a'=some g->y.heap.size<=g.block)/\Below y.heap.size y w'):=by
  intro y hb
  refine(HSP0.out y hb).mono ?_
  rintro e w' ⟨q,_,hb2⟩
  obtain⟨a',c',rfl,h1,h2,h3⟩:=q gA
  rw[decide_eq_true gR,HNL.out]
  rw[HRS.out] at h1
  exact⟨a',c',rfl,h1,h2,h3,hb2⟩
 have HRL:Hid (rs.length=nl):=by show _=_;rw[<-HRS.out,cW,gc1];exact HNL.out
 have HBB:Hid (bOf l=⟨B0,X5,B3,B4,rs⟩):=HBO.out rs HRS.out
 have HFR:Hid (frsOf l=B7):=gc2
 have HWR:Hid (∀y a' c',RRow y a' rs->Calls Tryz.prog 99 #[.agg #[.int .i64 B0,.int .i64 (X5:Int),.int .i64 B3,.int .i64 B4,.slice a' nl c']] y fun e w'=>e=.returned (.int .i64 (wrE (bOf l)))/\Below y.heap.size y w'):=by
  intro y a' c' h
  have h2:=fJ ⟨B0,X5,B3,B4,rs⟩ a' c' y h (by show rs.length<=_;rw[HRL.out,<-HNL.out];unfold maxLen;omega)
  rw[<-HBB.out] at h2
  rw[show bav (bOf l) a' c'=.agg #[.int .i64 B0,.int .i64 (X5:Int),.int .i64 B3,.int .i64 B4,.slice a' nl c'] by rw[HBB.out];simp only[bav,HRL.out]] at h2
  exact h2
 have HT0:Hid (frs (bOf l)=(rs.getD 0 rz).t):=by show _=_;rw[HBB.out];rfl
 have hps:0 < rs.length:=by have h2:=(eV g5).2.2.2.2.1;rw[HBB.out] at h2;exact h2
 have hnl:0 < nl:=by rw[<-HRL.out];exact hps
 have hnlI:(0:Int) < (nl:Int):=by omega
 have HBV:Hid (∀a' c',bav (bOf l) a' c'=.agg #[.int .i64 B0,.int .i64 (X5:Int),.int .i64 B3,.int .i64 B4,.slice a' nl c']):=fun a' c'=>by rw[HBB.out];simp only[bav,HRL.out]
 have HBR:Hid ((bOf l).rs=rs):=by show _=_;rw[HBB.out]
 rw[g5] at HWR
 obtain⟨t0,HTT⟩:∃t0,Hid ((rs.getD 0 rz).t=t0):=⟨_,rfl⟩
 rw[HT0.out,HTT.out,HFR.out] at g6
 have HY:Hid (∀y a',0 < rs.length->RRow y a' rs->∃tb toff,a'=some ⟨tb,toff,none⟩/\y.cell? ⟨tb,toff+4,none⟩=some (.int .i64 t0)/\tb < y.heap.size):=by
  intro y a' hp hrr
  obtain⟨x,off,e,z0,_,_,_,z4,_⟩:=hrr 0 hp
  rw[Nat.zero_mul,Nat.add_zero,HTT.out] at z4
  have h2:=World.block_lt_of_cell? _ _ z0
  exact⟨x,off,e,z4,by simpa using h2⟩
 subst g6
 clear HYZ g5 gA gR HSP0 gc1 gc2 HCT HBO HRS hpl HOK HPB HBB HT0 HTT
 go_enter Tryz.func84,Tryz.ntmps84
 go_wp2_with (first
  | (have _t:=tokA;refine wpList_load_mid rfl 171 _ rfl pb poff rfl (cv h) _ (HRG.out _ (aA _)) Tryz.underlying171 rfl (by rw[HCL.out];exact Tryz.info171) ?_)
  | (have _t:=tokA;refine wpList_store_row rfl 171 _ _ rfl (w.heap.size+1) (cv h).toArray rfl rfl 171 #[.int .u8 0,.int .u8 0,.int .u8 0,.int .u8 0,.int .u8 0,.int .u8 0,.int .u8 0,.int .u8 0,.int .u8 0,.int .u8 0,.int .u8 0,.int .u8 0,.int .u8 0,.int .u8 0,.int .u8 0,.int .u8 0,.int .u8 0,.int .u8 0,.int .u8 0,.int .u8 0,.int .u8 0,.int .u8 0,.int .u8 0,.int .u8 0,.int .u8 0,.int .u8 0,.int .u8 0,.int .u8 0,.int .u8 0,.int .u8 0,.int .u8 0,.int .u8 0,.int .u8 0,.int .u8 0,.int .u8 0,.int .u8 0,.int .u8 0,.int .u8 0,.int .u8 0,.int .u8 0,.int .u8 0,.int .u8 0,.int .u8 0,.int .u8 0,.int .u8 0,.int .u8 0,.int .u8 0,.int .u8 0] (fE w) (by rw[HSZ.out];exact Tryz.info171) (by rw[HSZ.out];rfl) (cH h) ?_;clear tokA _t;have HX:Hid (DcS w h (((w.alloc (.cells #[.int .i64 0,.int .i64 0,.int .i64 0,.int .i64 0,.slice none 0 0] 88)).alloc (.cells #[.int .u8 0,.int .u8 0,.int .u8 0,.int .u8 0,.int .u8 0,.int .u8 0,.int .u8 0,.int .u8 0,.int .u8 0,.int .u8 0,.int .u8 0,.int .u8 0,.int .u8 0,.int .u8 0,.int .u8 0,.int .u8 0,.int .u8 0,.int .u8 0,.int .u8 0,.int .u8 0,.int .u8 0,.int .u8 0,.int .u8 0,.int .u8 0,.int .u8 0,.int .u8 0,.int .u8 0,.int .u8 0,.int .u8 0,.int .u8 0,.int .u8 0,.int .u8 0,.int .u8 0,.int .u8 0,.int .u8 0,.int .u8 0,.int .u8 0,.int .u8 0,.int .u8 0,.int .u8 0,.int .u8 0,.int .u8 0,.int .u8 0,.int .u8 0,.int .u8 0,.int .u8 0,.int .u8 0,.int .u8 0] 171)).setRow (w.heap.size+1) (cv h).toArray)):=DcS.made w h;generalize ((w.alloc (.cells #[.int .i64 0,.int .i64 0,.int .i64 0,.int .i64 0,.slice none 0 0] 88)).alloc (.cells #[.int .u8 0,.int .u8 0,.int .u8 0,.int .u8 0,.int .u8 0,.int .u8 0,.int .u8 0,.int .u8 0,.int .u8 0,.int .u8 0,.int .u8 0,.int .u8 0,.int .u8 0,.int .u8 0,.int .u8 0,.int .u8 0,.int .u8 0,.int .u8 0,.int .u8 0,.int .u8 0,.int .u8 0,.int .u8 0,.int .u8 0,.int .u8 0,.int .u8 0,.int .u8 0,.int .u8 0,.int .u8 0,.int .u8 0,.int .u8 0,.int .u8 0,.int .u8 0,.int .u8 0,.int .u8 0,.int .u8 0,.int .u8 0,.int .u8 0,.int .u8 0,.int .u8 0,.int .u8 0,.int .u8 0,.int .u8 0,.int .u8 0,.int .u8 0,.int .u8 0,.int .u8 0,.int .u8 0,.int .u8 0] 171)).setRow (w.heap.size+1) (cv h).toArray=x0 at HX ⊢;have HX0:Hid (DcS w h x0):=HX;clear HX)
  | (have _t:=HX0;refine wpList_load_row rfl 171 _ rfl (w.heap.size+1) rfl 171 (cv h).toArray (0,0) _ HX0.out.arr Tryz.underlying171 rfl (by rw[HSZ.out];exact Tryz.info171) ?_)
  | (go_at_call 96;have _t:=HX0;refine(HN1.out _).mono ?_;rintro e x1 ⟨rfl,hb⟩;have HX1:Hid (DcS w h x1):=DcS.below HX0.out hb;clear hb HX0 _t))
 have hS0:DcS w h x1.drew:=DcS.below HX1.out (Below.refl _ _).drew
 refine aD (DcS w h) 7 (by kernel_rfl) hS0 (fun hHeld=>?_)
 clear hS0
 refine lB 0 ?_
 try simp only[Act.put,sP]
 refine lB 1 ?_
 try simp only[Act.put,sP]
 refine lB 2 ?_
 try simp only[Act.put,sP]
 refine aX 4 rfl (by kernel_rfl) (by kernel_rfl) (by kernel_rfl) (by kernel_rfl) (fun _ _ _ _ h=>h) (by rfl) 171 _ rfl (w.heap.size+1) 0 rfl (cv h) _ (fun y hy=>DcS.range hy) Tryz.underlying171 rfl HIC.out (by assumption) ?_
 try simp only[Act.put,sP]
 refine lo 3 fun K hK=>?_
 go_simp
 refine Calls.mono (HSM.out _ hHeld.bel) ?_
 rintro e y2 ⟨rfl,hw⟩
 subst y2
 try dsimp only
 refine hK.out _ _ hHeld (fun hS2=>?_)
 clear hK hHeld
 try simp only[Act.put,sP]
 refine lo 5 fun K hK=>?_
 go_simp
 refine Calls.mono (HN2.out _) ?_
 rintro e x2 ⟨rfl,hb⟩
 try dsimp only
 have hS2':=DcS.below hS2 hb
 refine hK.out _ _ hS2' (fun hS3=>?_)
 clear hK hS2 hb hS2'
 try simp only[Act.put,sP]
 refine lB 6 ?_
 try simp only[Act.put,sP]
 refine ll 7 fun K hK=>?_
 go_simp
 try dsimp only
 refine hK.out _ _ ?_
 clear hK
 try simp only[Act.put,sP]
 have HX2:Hid (DcS w h x2):=hS3
 clear hS3
 as_aux_lemma=>
  go_wp2_with (first
   | (have _t:=HX2;refine wpList_load_row rfl 171 _ rfl (w.heap.size+1) rfl 171 (cv h).toArray (0,0) _ HX2.out.arr Tryz.underlying171 rfl (by rw[HSZ.out];exact Tryz.info171) ?_)
   | (go_at_call 96;have _t:=HX2;refine(HN7.out _).mono ?_;rintro e x3 ⟨rfl,hb⟩;have HX3:Hid (DcS w h x3):=DcS.below HX2.out hb;clear hb HX2 _t))
  have hS0:DcS w h x3.drew:=DcS.below HX3.out (Below.refl _ _).drew
  refine aD (DcS w h) 11 (by kernel_rfl) hS0 (fun hHeld=>?_)
  clear hS0 HX3
  refine lB 0 ?_
  try simp only[Act.put,sP]
  refine lB 1 ?_
  try simp only[Act.put,sP]
  refine lB 2 ?_
  try simp only[Act.put,sP]
  refine aX 3 rfl (by kernel_rfl) (by kernel_rfl) (by kernel_rfl) (by kernel_rfl) (fun _ _ _ _ h=>h) (by rfl) 171 _ rfl (w.heap.size+1) 0 rfl (cv h) _ (fun y hy=>DcS.range hy) Tryz.underlying171 rfl HIC.out (by assumption) ?_
  try simp only[Act.put,sP]
  refine lB 5 ?_
  try simp only[Act.put,sP]
  refine lo 4 fun K hK=>?_
  go_simp
  refine Calls.mono (HN6.out _) ?_
  rintro e x4 ⟨rfl,hb⟩
  try dsimp only
  have hS4:=DcS.below hHeld hb
  refine hK.out _ _ hS4 (fun hS5=>?_)
  clear hK hb hS4 hHeld
  try simp only[Act.put,sP]
  refine lo 6 fun K hK=>?_
  go_simp
  refine Calls.mono (HSP.out _ hS5.bel) ?_
  rintro e x5 ⟨a5,c5,rfl,hr5,hn5,hg5,hb5⟩
  have HAD:Hid (∀g,a5=some g->g.block≠w.heap.size):=fun g hg q=>by have h1:=hg5 g hg;have h2:=(Array.getElem?_eq_some_iff.1 hS5.res).1;omega
  have HAN:Hid (∀g,a5=some g->w.heap.size<=g.block):=fun g hg=>by have h1:=hg5 g hg;have h2:=(Array.getElem?_eq_some_iff.1 hS5.res).1;omega
  clear hg5
  try dsimp only
  have hS6:=DcS.below hS5 hb5
  refine hK.out _ _ hS6 (fun hS7=>?_)
  clear hK hb5 hS6 hS5
  try simp only[Act.put,sP]
  refine lB 7 ?_
  try simp only[Act.put,sP]
  refine lB 8 ?_
  try simp only[Act.put,sP]
  refine lB 9 ?_
  try simp only[Act.put,sP]
  refine lo 10 fun K hK=>?_
  go_simp
  try dsimp only
  refine hK.out _ _ hS7 (fun hS8=>?_)
  clear hK hS7
  try simp only[Act.put,sP]
  refine ll 11 fun K hK=>?_
  go_simp
  try dsimp only
  refine hK.out _ _ ?_
  clear hK
  try simp only[Act.put,sP]
  have HX5:Hid (DcS w h x5):=hS8
  have HR5:Hid (RRow x5 a5 rs):=hr5
  clear hS8 hr5
  go_wp2_with fail
  as_aux_lemma=>
   have hS0:DcS w h x5.drew:=DcS.below HX5.out (Below.refl _ _).drew
   have HRc:Hid (RRow x5.drew a5 rs):=RRow.below HR5.out (Below.refl _ _).drew
   refine aD (DcS w h) 10 (by kernel_rfl) hS0 (fun hH=>?_)
   clear hS0 HX5 HR5
   refine aX 0 rfl (by kernel_rfl) (by kernel_rfl) (by kernel_rfl) (by kernel_rfl) (fun _ _ _ _ h=>h) (by rfl) 171 _ rfl (w.heap.size+1) 0 rfl (cv h) _ (fun y hy=>DcS.range hy) Tryz.underlying171 rfl HIC.out (by assumption) ?_
   try simp only[Act.put,sP]
   refine aX 2 rfl (by kernel_rfl) (by kernel_rfl) (by kernel_rfl) (by kernel_rfl) (fun _ _ _ _ h=>h) (by rfl) 171 _ rfl (w.heap.size+1) 0 rfl (cv h) _ (fun y hy=>DcS.range hy) Tryz.underlying171 rfl HIC.out (by assumption) ?_
   try simp only[Act.put,sP]
   refine aX 4 rfl (by kernel_rfl) (by kernel_rfl) (by kernel_rfl) (by kernel_rfl) (fun _ _ _ _ h=>h) (by rfl) 171 _ rfl (w.heap.size+1) 0 rfl (cv h) _ (fun y hy=>DcS.range hy) Tryz.underlying171 rfl HIC.out (by assumption) ?_
   try simp only[Act.put,sP]
   refine aX 6 rfl (by kernel_rfl) (by kernel_rfl) (by kernel_rfl) (by kernel_rfl) (fun _ _ _ _ h=>h) (by rfl) 171 _ rfl (w.heap.size+1) 0 rfl (cv h) _ (fun y hy=>DcS.range hy) Tryz.underlying171 rfl HIC.out (by assumption) ?_
   try simp only[Act.put,sP]
   refine lB 8 ?_
   try simp only[Act.put,sP]
   refine lo 1 fun K hK=>?_
   go_simp
   refine Calls.mono (HN0.out _) ?_
   rintro e x6 ⟨rfl,hb⟩
   try dsimp only
   have hS4:=DcS.below hH hb
   have HR:Hid (RRow x6 a5 rs):=RRow.below HRc.out hb
   clear HRc
   have HRc:Hid (RRow x6 a5 rs):=HR.out
   clear HR
   refine hK.out _ _ hS4 (fun hHx=>?_)
   clear hK hb hS4 hH
   try simp only[Act.put,sP]
   refine lo 3 fun K hK=>?_
   go_simp
   refine Calls.mono (HN5.out _) ?_
   rintro e x7 ⟨rfl,hb⟩
   try dsimp only
   have hS4:=DcS.below hHx hb
   have HR:Hid (RRow x7 a5 rs):=RRow.below HRc.out hb
   clear HRc
   have HRc:Hid (RRow x7 a5 rs):=HR.out
   clear HR
   refine hK.out _ _ hS4 (fun hHxx=>?_)
   clear hK hb hS4 hHx
   try simp only[Act.put,sP]
   refine lo 5 fun K hK=>?_
   go_simp
   refine Calls.mono (HN3.out _) ?_
   rintro e x8 ⟨rfl,hb⟩
   try dsimp only
   have hS4:=DcS.below hHxx hb
   have HR:Hid (RRow x8 a5 rs):=RRow.below HRc.out hb
   clear HRc
   have HRc:Hid (RRow x8 a5 rs):=HR.out
   clear HR
   refine hK.out _ _ hS4 (fun hHxxx=>?_)
   clear hK hb hS4 hHxx
   try simp only[Act.put,sP]
   refine lo 7 fun K hK=>?_
   go_simp
   refine Calls.mono (HN4.out _) ?_
   rintro e x9 ⟨rfl,hb⟩
   try dsimp only
   have hS4:=DcS.below hHxxx hb
   have HR:Hid (RRow x9 a5 rs):=RRow.below HRc.out hb
   clear HRc
   have HRc:Hid (RRow x9 a5 rs):=HR.out
   clear HR
   refine hK.out _ _ hS4 (fun hHxxxx=>?_)
   clear hK hb hS4 hHxxx
   try simp only[Act.put,sP]
   refine lo 9 fun K hK=>?_
   go_simp
   try dsimp only
   refine hK.out _ _ hHxxxx (fun hHy=>?_)
   clear hK hHy
   try simp only[Act.put,sP]
   refine ll 10 fun K hK=>?_
   refine wp_store_row 88 _ _ rfl w.heap.size #[.int .i64 B0,.int .i64 (X5:Int),.int .i64 B3,.int .i64 B4,.slice a5 nl c5] rfl rfl 88 _ hHxxxx.res Tryz.info88 rfl (aO _ _ _ _ _ _ _) ?_
   refine hK.out _ _ ?_
   clear hK
   try simp only[Act.put,sP]
   have HRn:Hid ((x9.setRow w.heap.size #[.int .i64 B0,.int .i64 (X5:Int),.int .i64 B3,.int .i64 B4,.slice a5 nl c5]).heap[w.heap.size]? = some (.cells #[.int .i64 B0,.int .i64 (X5:Int),.int .i64 B3,.int .i64 B4,.slice a5 nl c5] 88 (0,0))):=setRow_heap _ _ _ _ _ _ hHxxxx.res
   have HBn:Hid (Below w.heap.size w (x9.setRow w.heap.size #[.int .i64 B0,.int .i64 (X5:Int),.int .i64 B3,.int .i64 B4,.slice a5 nl c5])):=below_setRow hHxxxx.bel (Nat.le_refl _) _
   have HRR:Hid (RRow (x9.setRow w.heap.size #[.int .i64 B0,.int .i64 (X5:Int),.int .i64 B3,.int .i64 B4,.slice a5 nl c5]) a5 rs):=RRow.keepR HRc.out HAD.out
   clear HRc hHxxxx
   generalize x9.setRow w.heap.size #[.int .i64 B0,.int .i64 (X5:Int),.int .i64 B3,.int .i64 B4,.slice a5 nl c5]=xa at HRn HBn HRR ⊢
   obtain⟨d0,d1,d2,d3,d4,dz⟩:=aW HRn.out
   as_aux_lemma=>
    obtain⟨tb,toff,rfl,y4,ytb⟩:=HY.out _ _ hps HRR.out
    go_wp2_with (first
     | (go_at_call 99;refine(HWR.out _ _ _ HRR.out).mono ?_;rintro e xb ⟨rfl,hbb⟩;have HRn2:Hid (xb.heap[w.heap.size]? = some (.cells #[.int .i64 B0,.int .i64 (X5:Int),.int .i64 B3,.int .i64 B4,.slice (some ⟨tb,toff,none⟩) nl c5] 88 (0,0))):=(hbb.block _ (Array.getElem?_eq_some_iff.1 HRn.out).1).trans HRn.out;have HBn2:Hid (Below w.heap.size w xb):=HBn.out.trans (hbb.mono HBn.out.size);have HRR2:Hid (RRow xb (some ⟨tb,toff,none⟩) rs):=RRow.below HRR.out hbb;clear HRn HBn d0 d1 d2 d3 d4 dz;obtain⟨d0,d1,d2,d3,d4,dz⟩:=aW HRn2.out;have y5:=(hbb.cell (World.block_lt_of_cell? _ _ y4)).trans y4;clear y4;have ytb2:tb < xb.heap.size:=Nat.lt_of_lt_of_le ytb hbb.size;clear ytb;clear hbb)
     | (have _t:=HRn2;refine wpList_store_row rfl 88 _ _ rfl w.heap.size #[.int .i64 B0,.int .i64 (X5:Int),.int .i64 B3,.int .i64 B4,.slice (some ⟨tb,toff,none⟩) nl c5] rfl rfl 88 _ HRn2.out Tryz.info88 rfl (aO _ _ _ _ _ _ _) ?_))
    refine bodyPost_ret (v:=.tuple #[.agg #[.int .i64 B0,.int .i64 (X5:Int),.int .i64 B3,.int .i64 B4,.slice (some ⟨tb,toff,none⟩) nl c5],.int .i64 (NN:Int),.int .i64 0]) ?_ rfl (HPG.out HYS.out _ _ ⟨some ⟨tb,toff,none⟩,c5,by rw[HBV.out],by rw[HBR.out];exact RRow.keepR HRR2.out HAD.out,hn5,HAN.out⟩ (below_setRow HBn2.out (Nat.le_refl _) _))
    exact aE (p:=2) (u:=3) (u2:=4) (by rfl) _ _ w.heap.size _ _ _ (by rfl) (by rfl) (by rfl) rfl (setRow_heap _ _ _ _ _ _ HRn2.out)
open Go.RowKit
theorem sF (a:Option Addr) (cap:Nat) (l:List Nat) (w:World) (ht:Tab w) (hr:Row w a l) (hl:l.length<=cap) (hc:cap<=maxLen) (hl2:l.length<=1000000000000) :
 Calls Tryz.prog 84 #[.slice a l.length cap] w fun e w'=>(OkB l->∃a' c',e=.returned (.tuple #[bav (bOf l) a' c',.int .i64 ((lenN l:Nat):Int),.int .i64 0])/\RRow w' a' (bOf l).rs/\(a'=none->c'=0)/\(∀g,a'=some g->w.heap.size<=g.block))/\(¬OkB l->e=.returned (.tuple #[bav bz none 0,.int .i64 0,.int .i64 10]))/\Below w.heap.size w w':=by
 by_cases h48:l.length < 48
 ·exact nM a cap l w ht hr hl hc hl2 h48
 have h48':48<=l.length:=Nat.not_lt.1 h48
 by_cases hsz:48<=lenN l/\lenN l<=l.length/\lenN l<=6000
 ·by_cases hsum:P.sum ((l.take (lenN l)).drop 16)=getV l 12 4 true
  ·by_cases gA:AllOk (partOf l) (frsOf l) (cntOf l)
   ·by_cases gR:rest (partOf l) (frsOf l) (cntOf l)=[]
    ·by_cases g5:wrE (bOf l)=0
     ·by_cases g6:frs (bOf l)=frsOf l
      ·exact oU a cap l w ht hr hl hc hl2 h48' hsz hsum gA gR g5 g6 ⟨h48',hsz.1,hsz.2.1,hsz.2.2,hsum,gA,gR,g5,g6⟩
      ·exact sA a cap l w ht hr hl hc hl2 h48' hsz hsum gA gR g5 g6
     ·exact tK a cap l w ht hr hl hc hl2 h48' hsz hsum gA gR g5
    ·exact oT a cap l w ht hr hl hc hl2 h48' hsz hsum gA gR
   ·exact pP a cap l w ht hr hl hc hl2 h48' hsz hsum gA
  ·exact rR a cap l w ht hr hl hc hl2 h48' hsz hsum
 ·refine pO a cap l w ht hr hl hc hl2 h48' ?_
  generalize lenN l=n at *
  omega
end
end Go.Proofs.YtaooidckmepdeaaGreatDoor
