/- De Lw Cn Alk Rr Ri Crc Pn Bl Kp Bt -/
import Derived.Test.YtaooidckmepdeaaGreatDoorSka
import Derived.Laws.StructEq
import Derived.OwnWalk
import Derived.Deep.RegionWith
namespace Go.Proofs.YtaooidckmepdeaaGreatDoor
set_option linter.unusedSimpArgs false
set_option linter.unusedVariables false
set_option maxRecDepth 100000
set_option maxHeartbeats 6400000
open Go.RowKit
theorem aBo {w:World} {a:Option Addr} {l:List Nat} (hr:Row w a l) (h0:0 < l.length):∀x,a=some x->x.block < w.heap.size:=by
 intro x hx
 obtain⟨b,off,e,hc,_⟩:=hr 0 h0
 rw[hx] at e
 injection e with e
 subst e
 exact World.block_lt_of_cell? _ _ hc
theorem aAn {w:World} {a:Option Addr} {l:List Nat} {cap:Nat} (hk hv:Bool) (hr:Row w a l) (h0:0 < l.length) (hl:l.length<=cap) (hc:cap<=maxLen) :
 DS w.heap.size w.heap.size (w.heap.size+1) w ((w.alloc (.cells #[.bool hk,.string ⟨#[]⟩,.bool hv,.string ⟨#[]⟩,.int .i64 0,.int .i64 0] 84)).alloc (.cells #[.slice (cutA a cap 1) (l.length - 1) (cap - 1),.bool false] 188)) ⟨hk,⟨#[]⟩,hv,⟨#[]⟩,0,0⟩ (l.drop 1) false:=by
 have hb1:Below w.heap.size w (w.alloc (.cells #[.bool hk,.string ⟨#[]⟩,.bool hv,.string ⟨#[]⟩,.int .i64 0,.int .i64 0] 84)):=aA _
 obtain⟨w1,hw1⟩:∃w1,w1=w.alloc (.cells #[.bool hk,.string ⟨#[]⟩,.bool hv,.string ⟨#[]⟩,.int .i64 0,.int .i64 0] 84):=⟨_,rfl⟩
 have hs1:w1.heap.size=w.heap.size+1:=by rw[hw1];simp
 have hg1:w1.heap[w.heap.size]? = some (.cells #[.bool hk,.string ⟨#[]⟩,.bool hv,.string ⟨#[]⟩,.int .i64 0,.int .i64 0] 84 (0,0)):=by rw[hw1];exact heap_alloc_new w _
 rw[<-hw1] at hb1 ⊢
 obtain⟨w2,hw2⟩:∃w2,w2=w1.alloc (.cells #[.slice (cutA a cap 1) (l.length - 1) (cap - 1),.bool false] 188):=⟨_,rfl⟩
 have hb2:Below w1.heap.size w1 w2:=by rw[hw2];exact aA _
 have hg2:w2.heap[w1.heap.size]? = some (.cells #[.slice (cutA a cap 1) (l.length - 1) (cap - 1),.bool false] 188 (0,0)):=by rw[hw2];exact heap_alloc_new w1 _
 have hB:=hb1.trans (hb2.mono (by omega))
 rw[<-hw2]
 rw[hs1] at hg2
 have hc2:∀j,w2.cell? ⟨w.heap.size+1,j,none⟩=(#[.slice (cutA a cap 1) (l.length - 1) (cap - 1),.bool false]:Array Value)[j]?:=fun j=>cell_of_row _ _ j _ 188 (0,0) hg2
 have hf2:∀j,w2.frozen? ⟨w.heap.size+1,j,none⟩=false:=fun j=>by simp[World.frozen?,hg2]
 have hlow:=kA (cap:=cap) (n:=1) (aBo hr h0)
 refine⟨by rw[hb2.block _ (by omega)];exact hg1,⟨⟨cutA a cap 1,cap - 1,by rw[hc2,List.length_drop];rfl,kO (dG cap 1 hr hl) hlow hB,by simp;omega,by omega,hlow⟩,by rw[hc2];rfl,hf2 0,hf2 1⟩,hB,Nat.le_refl _,Nat.lt_succ_self _⟩
theorem tV (x:Nat) (h:x < 256):bits .and .u8 (x:Int) 1=((x % 2:Nat):Int):=by
 rw[u8_and _ _ (by omega) (by omega) (by omega) (by omega),show((1:Int).toNat)=2 ^ 1 - 1 by decide,Nat.and_two_pow_sub_one_eq_mod]
 simp
theorem xQ:∀x:Fin 4,x.val &&& 2=x.val / 2 * 2:=by decide
theorem uR (x:Nat) (h:x<=3):bits .and .u8 (x:Int) 2=((x / 2 * 2:Nat):Int):=by
 rw[u8_and _ _ (by omega) (by omega) (by omega) (by omega)]
 have:=xQ ⟨x,by omega⟩
 simp only at this
 rw[show((x:Int)).toNat=x by omega,show((2:Int).toNat)=2 by decide,this]
theorem iF {M R B:Nat} {w0 w w':World} {r:Rc} {l:List Nat} {bad:Bool} (h:DS M R B w0 w r l bad) (hb:Below w.heap.size w w') (hM:M<=w0.heap.size):w'.heap[R]? = some (.cells r.cells 84 (0,0))/\Below M w0 w':=by
 have hlt:R < w.heap.size:=(Array.getElem?_eq_some_iff.1 h.box).1
 exact⟨by rw[hb.block R hlt];exact h.box,h.bel.trans (hb.mono (Nat.le_trans hM h.bel.size))⟩
def SD (w0:World) (M R B:Nat) (r:Rc) (x:Value) (y:World):Prop:=y.heap[R]? = some (.cells r.cells 84 (0,0))/\y.cell? ⟨B,0,none⟩=some x/\Below M w0 y
theorem wZ {w:World} {R:Nat} {r:Rc} (h:w.heap[R]? = some (.cells r.cells 84 (0,0))) :
 w.cell? ⟨R,0,none⟩=some (.bool r.hk)/\w.cell? ⟨R,1,none⟩=some (.string r.k)/\w.cell? ⟨R,2,none⟩=some (.bool r.hv)/\w.cell? ⟨R,3,none⟩=some (.string r.v)/\w.cell? ⟨R,4,none⟩=some (.int .i64 r.t)/\w.cell? ⟨R,5,none⟩=some (.int .i64 r.o):=by
 have hc:∀j,w.cell? ⟨R,j,none⟩=r.cells[j]?:=fun j=>cell_of_row _ R j r.cells 84 (0,0) h
 exact⟨by rw[hc];rfl,by rw[hc];rfl,by rw[hc];rfl,by rw[hc];rfl,by rw[hc];rfl,by rw[hc];rfl⟩
theorem oP {w0:World} {M R B:Nat} {r:Rc} {x:Value} {y:World} (h:SD w0 M R B r x y) (hM:M<=R) (hRB:R < B):SD w0 M R B r x (y.setRow R r.cells):=by
 refine⟨setRow_heap _ _ _ _ _ _ h.1,?_,below_setRow h.2.2 hM _⟩
 have hB:(y.setRow R r.cells).heap[B]? = y.heap[B]?:=setRow_other y R B _ (by omega)
 have:=h.2.1
 unfold World.cell? at this ⊢
 rw[hB]
 exact this
theorem aEu {w0 w w':World} {M R B:Nat} {r:Rc} {l:List Nat} {bad:Bool} (h:DS M R B w0 w r l bad) (hb:Below w.heap.size w w') (hM:M<=w0.heap.size):∃a c,w'.cell? ⟨B,0,none⟩=some (.slice a l.length c)/\SD w0 M R B r (.slice a l.length c) w':=by
 obtain⟨h1,h2⟩:=iF h hb hM
 obtain⟨a,c,c0,_⟩:=h.rd.ex
 have:w'.cell? ⟨B,0,none⟩=some (.slice a l.length c):=by rw[hb.cell (World.block_lt_of_cell? _ _ c0)];exact c0
 exact⟨a,c,this,h1,this,h2⟩
theorem wJ (b off cap:Nat) (l:List Nat) (first:Int) (w:World) (c:Nat) (hc0:w.cell? ⟨b,off,none⟩=some (.int .u8 (c:Int))) (h0:0 < l.length) (hl:l.length<=cap) (hcm:cap<=9223372036854775807) (h3:c<=3)
 (hk hv:Bool) (hk1:(bits .and .u8 (c:Int) 1 != 0)=hk) (hv1:(bits .and .u8 (c:Int) 2 != 0)=hv) (x:Option Addr) (hx:x=cutA (some ⟨b,off,none⟩) cap 1)
 (HI:Hid (∀w',Calls Tryz.prog 114 #[.int .i64 first] w' fun e w2=>e=.returned (.bool true)/\w2=w'))
 (q0 q1 q2 q3 q4:List Nat) (V0 V1:Nat) (Z T O:Int) (bA bB bC bD:Bool) (s1 s2:ByteArray)
 (HD:Hid (DS w.heap.size w.heap.size (w.heap.size+1) w ((w.alloc (.cells #[.bool hk,.string ⟨#[]⟩,.bool hv,.string ⟨#[]⟩,.int .i64 0,.int .i64 0] 84)).alloc (.cells #[.slice x (l.length - 1) (cap - 1),.bool false] 188)) ⟨hk,⟨#[]⟩,hv,⟨#[]⟩,0,0⟩ q0 false))
 (HN0:Hid (∀w' r,DS w.heap.size w.heap.size (w.heap.size+1) w w' r q0 false->Calls Tryz.prog 115 #[.pointer (some ⟨w.heap.size+1,0,none⟩)] w' fun e w2=>e=.returned (.int .u64 (V0:Int))/\DS w.heap.size w.heap.size (w.heap.size+1) w w2 r q1 bA))
 (HN1:Hid (∀w' r,DS w.heap.size w.heap.size (w.heap.size+1) w w' r q1 bA->Calls Tryz.prog 115 #[.pointer (some ⟨w.heap.size+1,0,none⟩)] w' fun e w2=>e=.returned (.int .u64 (V1:Int))/\DS w.heap.size w.heap.size (w.heap.size+1) w w2 r q2 bB))
 (HZ:Hid (∀w',Calls Tryz.prog 116 #[.int .u64 (V1:Int)] w' fun e w2=>e=.returned (.int .i64 Z)/\w2=w'))
 (HT1:Hid (∀w' r,DS w.heap.size w.heap.size (w.heap.size+1) w w' r q2 bB->Calls Tryz.prog 117 #[.pointer (some ⟨w.heap.size+1,0,none⟩),.bool hk] w' fun e w2=>e=.returned (.string s1)/\DS w.heap.size w.heap.size (w.heap.size+1) w w2 r q3 bC))
 (HT2:Hid (∀w' r,DS w.heap.size w.heap.size (w.heap.size+1) w w' r q3 bC->Calls Tryz.prog 117 #[.pointer (some ⟨w.heap.size+1,0,none⟩),.bool hv] w' fun e w2=>e=.returned (.string s2)/\DS w.heap.size w.heap.size (w.heap.size+1) w w2 r q4 bD))
 (hO:IntKind.i64.wrap (V0:Int)=O) (hT:IntKind.i64.wrap (first+Z)=T) (cc:Int)
 (HC:Hid (∀w',Calls Tryz.prog 112 #[.agg #[.bool hk,.string s1,.bool hv,.string s2,.int .i64 T,.int .i64 O]] w' fun e w2=>e=.returned (.int .i64 cc)/\Below w'.heap.size w' w2)) (R:Value)
 (HR:Hid (R=if bD=false/\cc=0 then .tuple #[.agg (Rc.cells ⟨hk,s1,hv,s2,T,O⟩),.int .i64 ((l.length - q4.length:Nat):Int),.int .i64 0] else .tuple #[.agg rz.cells,.int .i64 0,.int .i64 10])) (hq4:q4.length<=l.length) :
 Calls Tryz.prog 109 #[.slice (some ⟨b,off,none⟩) l.length cap,.int .i64 first] w fun e w'=>e=.returned R/\Below w.heap.size w w':=by
 have hbw:b < w.heap.size:=World.block_lt_of_cell? _ _ hc0
 have h0I:((l.length:Int) == 0)=false:=by rw[beq_eq_false_iff_ne];omega
 have hM:=Nat.le_refl w.heap.size
 have hsub:IntKind.i64.wrap ((l.length:Int) - (q4.length:Int))=((l.length - q4.length:Nat):Int):=by rw[IntKind.wrap_i64];omega
 have h0J:(0:Int) < (l.length:Int):=by omega
 have h3I:¬(3:Int) < (c:Int):=by omega
 have tok1:=trivial
 have tok2:=trivial
 have hxx:x=if cap=1 then some ⟨b,off,none⟩ else some ⟨b,off+1,none⟩:=by rw[hx];unfold cutA;split<;>rfl
 clear hx
 by_cases hcap:cap=1
 ·rw[if_pos hcap] at hxx
  subst hxx
  rw[hcap] at HD
  rcases bD with _ | _
  ·by_cases hcc:cc=0
   ·have hRR:R=.tuple #[.agg (Rc.cells ⟨hk,s1,hv,s2,T,O⟩),.int .i64 ((l.length - q4.length:Nat):Int),.int .i64 0]:=by rw[HR.out,if_pos ⟨rfl,hcc⟩]
    subst hRR
    subst hcc
    clear HR hq4
    go_enter Tryz.func109,Tryz.ntmps109
    go_wp2_with (first
   | (go_at_call 114;refine(HI.out _).mono ?_;rintro e w2 ⟨rfl,hw⟩;subst w2)
   | (go_at_call 115;have _t:=tok1;refine(HN0.out _ _ HD.out).mono ?_;clear tok1 _t;rintro e w1 ⟨rfl,hD1⟩;have HD1:Hid _:=hD1;obtain⟨e0,e1,e2,e3,e4,e5,ef⟩:=DS.cells hD1;simp only at e0 e1 e2 e3 e4 e5;clear hD1)
   | (go_at_call 115;refine(HN1.out _ _ (DS.put HD1.out 5 _ ⟨hk,⟨#[]⟩,hv,⟨#[]⟩,0,O⟩ rfl)).mono ?_;clear HD1 e0 e1 e2 e3 e4 e5 ef;rintro e w2 ⟨rfl,hD2⟩;have HD2:Hid _:=hD2;obtain⟨e0,e1,e2,e3,e4,e5,ef⟩:=DS.cells hD2;simp only at e0 e1 e2 e3 e4 e5;clear hD2)
   | (go_at_call 116;refine(HZ.out _).mono ?_;rintro e w3 ⟨rfl,hw⟩;subst w3)
   | (go_at_call 117;have _t:=tok2;refine(HT1.out _ _ (DS.put HD2.out 4 _ ⟨hk,⟨#[]⟩,hv,⟨#[]⟩,T,O⟩ rfl)).mono ?_;clear tok2 _t HD2 e0 e1 e2 e3 e4 e5 ef;rintro e w4 ⟨rfl,hD3⟩;have HD3:Hid _:=hD3;obtain⟨e0,e1,e2,e3,e4,e5,ef⟩:=DS.cells hD3;simp only at e0 e1 e2 e3 e4 e5;clear hD3)
   | (go_at_call 117;refine(HT2.out _ _ (DS.put HD3.out 1 _ ⟨hk,s1,hv,⟨#[]⟩,T,O⟩ rfl)).mono ?_;clear HD3 e0 e1 e2 e3 e4 e5 ef;rintro e w5 ⟨rfl,hD4⟩;have HD5:Hid _:=DS.put hD4 3 (.string s2) ⟨hk,s1,hv,s2,T,O⟩ rfl;obtain⟨e0,e1,e2,e3,e4,e5,ef⟩:=DS.cells hD4;have hB1:=hD4.rd.c1;have hBB:=hD4.rb;simp only at e0 e1 e2 e3 e4 e5;clear hD4)
   | (go_at_call 112;refine(HC.out _).mono ?_;rintro e w6 ⟨rfl,hb6⟩;have HX:Hid _:=iF HD5.out hb6 hM))
    obtain⟨a4,c4,hx4,hSD⟩:=aEu HD5.out hb6 hM
    clear hx4
    refine aD (SD w w.heap.size w.heap.size (w.heap.size+1) ⟨hk,s1,hv,s2,T,O⟩ (.slice a4 q4.length c4)) 9 (by kernel_rfl) (show SD w w.heap.size w.heap.size (w.heap.size+1) ⟨hk,s1,hv,s2,T,O⟩ (.slice a4 q4.length c4) w6.drew from ⟨hSD.1,hSD.2.1,hSD.2.2.drew⟩) (fun hHeld=>?_)
    clear hSD
    refine lG 0 ?_
    try simp only[Act.put,sP]
    refine lG 1 ?_
    try simp only[Act.put,sP]
    refine lG 2 ?_
    try simp only[Act.put,sP]
    refine lG 3 ?_
    try simp only[Act.put,sP]
    refine lG 4 ?_
    try simp only[Act.put,sP]
    refine lG 5 ?_
    try simp only[Act.put,sP]
    refine lG 6 ?_
    try simp only[Act.put,sP]
    refine lo 7 fun K hK=>?_
    refine wp_store_row 84 _ _ rfl w.heap.size (Rc.cells ⟨hk,s1,hv,s2,T,O⟩) rfl rfl 84 (Rc.cells ⟨hk,s1,hv,s2,T,O⟩) hHeld.1 Tryz.info84 rfl (bM _) ?_
    refine hK.out _ _ (oP hHeld (Nat.le_refl _) (Nat.lt_succ_self _)) (fun hHeld2=>?_)
    clear hK hHeld
    try simp only[Act.put,sP]
    refine lG 8 ?_
    try simp only[Act.put,sP]
    refine ll 9 fun K hK=>?_
    go_simp
    refine hK.out _ _ ?_
    clear hK
    try simp only[Act.put,sP]
    go_wp2_with fail
    refine bodyPost_ret (v:=.tuple #[.agg (Rc.cells ⟨hk,s1,hv,s2,T,O⟩),.int .i64 ((l.length - q4.length:Nat):Int),.int .i64 0]) ?_ rfl ⟨rfl,hHeld2.2.2⟩
    exact aN (p:=4) (u:=5) (u2:=6) (by rfl) _ _ w.heap.size ⟨hk,s1,hv,s2,T,O⟩ _ _ (by rfl) (by rfl) (by rfl) hHeld2.1
   ·have hRR:R=.tuple #[.agg rz.cells,.int .i64 0,.int .i64 10]:=by rw[HR.out,if_neg (fun q=>hcc q.2)]
    subst hRR
    have hne:(cc != 0)=true:=by rw[bne_iff_ne];exact hcc
    clear HR hq4 hcc
    go_enter Tryz.func109,Tryz.ntmps109
    go_wp2_with (first
   | (go_at_call 114;refine(HI.out _).mono ?_;rintro e w2 ⟨rfl,hw⟩;subst w2)
   | (go_at_call 115;have _t:=tok1;refine(HN0.out _ _ HD.out).mono ?_;clear tok1 _t;rintro e w1 ⟨rfl,hD1⟩;have HD1:Hid _:=hD1;obtain⟨e0,e1,e2,e3,e4,e5,ef⟩:=DS.cells hD1;simp only at e0 e1 e2 e3 e4 e5;clear hD1)
   | (go_at_call 115;refine(HN1.out _ _ (DS.put HD1.out 5 _ ⟨hk,⟨#[]⟩,hv,⟨#[]⟩,0,O⟩ rfl)).mono ?_;clear HD1 e0 e1 e2 e3 e4 e5 ef;rintro e w2 ⟨rfl,hD2⟩;have HD2:Hid _:=hD2;obtain⟨e0,e1,e2,e3,e4,e5,ef⟩:=DS.cells hD2;simp only at e0 e1 e2 e3 e4 e5;clear hD2)
   | (go_at_call 116;refine(HZ.out _).mono ?_;rintro e w3 ⟨rfl,hw⟩;subst w3)
   | (go_at_call 117;have _t:=tok2;refine(HT1.out _ _ (DS.put HD2.out 4 _ ⟨hk,⟨#[]⟩,hv,⟨#[]⟩,T,O⟩ rfl)).mono ?_;clear tok2 _t HD2 e0 e1 e2 e3 e4 e5 ef;rintro e w4 ⟨rfl,hD3⟩;have HD3:Hid _:=hD3;obtain⟨e0,e1,e2,e3,e4,e5,ef⟩:=DS.cells hD3;simp only at e0 e1 e2 e3 e4 e5;clear hD3)
   | (go_at_call 117;refine(HT2.out _ _ (DS.put HD3.out 1 _ ⟨hk,s1,hv,⟨#[]⟩,T,O⟩ rfl)).mono ?_;clear HD3 e0 e1 e2 e3 e4 e5 ef;rintro e w5 ⟨rfl,hD4⟩;have HD5:Hid _:=DS.put hD4 3 (.string s2) ⟨hk,s1,hv,s2,T,O⟩ rfl;obtain⟨e0,e1,e2,e3,e4,e5,ef⟩:=DS.cells hD4;have hB1:=hD4.rd.c1;have hBB:=hD4.rb;simp only at e0 e1 e2 e3 e4 e5;clear hD4)
   | (go_at_call 112;refine(HC.out _).mono ?_;rintro e w6 ⟨rfl,hb6⟩;have HX:Hid _:=iF HD5.out hb6 hM)
   | (have _t:=HX;refine wpList_store_row rfl 84 _ _ rfl w.heap.size rz.cells rfl rfl 84 (Rc.cells ⟨hk,s1,hv,s2,T,O⟩) HX.out.1 Tryz.info84 rfl (bM _) ?_))
    refine bodyPost_ret (v:=.tuple #[.agg rz.cells,.int .i64 0,.int .i64 10]) ?_ rfl ⟨rfl,?_⟩
    ·exact aN (p:=4) (u:=5) (u2:=6) (by rfl) _ _ w.heap.size rz _ _ (by rfl) (by rfl) (by rfl) (setRow_heap _ _ _ _ _ _ HX.out.1)
    ·exact below_setRow HX.out.2 (Nat.le_refl _) _
  ·have hRR:R=.tuple #[.agg rz.cells,.int .i64 0,.int .i64 10]:=by rw[HR.out,if_neg (fun q=>by cases q.1)]
   subst hRR
   clear HR hq4
   go_enter Tryz.func109,Tryz.ntmps109
   go_wp2_with (first
   | (go_at_call 114;refine(HI.out _).mono ?_;rintro e w2 ⟨rfl,hw⟩;subst w2)
   | (go_at_call 115;have _t:=tok1;refine(HN0.out _ _ HD.out).mono ?_;clear tok1 _t;rintro e w1 ⟨rfl,hD1⟩;have HD1:Hid _:=hD1;obtain⟨e0,e1,e2,e3,e4,e5,ef⟩:=DS.cells hD1;simp only at e0 e1 e2 e3 e4 e5;clear hD1)
   | (go_at_call 115;refine(HN1.out _ _ (DS.put HD1.out 5 _ ⟨hk,⟨#[]⟩,hv,⟨#[]⟩,0,O⟩ rfl)).mono ?_;clear HD1 e0 e1 e2 e3 e4 e5 ef;rintro e w2 ⟨rfl,hD2⟩;have HD2:Hid _:=hD2;obtain⟨e0,e1,e2,e3,e4,e5,ef⟩:=DS.cells hD2;simp only at e0 e1 e2 e3 e4 e5;clear hD2)
   | (go_at_call 116;refine(HZ.out _).mono ?_;rintro e w3 ⟨rfl,hw⟩;subst w3)
   | (go_at_call 117;have _t:=tok2;refine(HT1.out _ _ (DS.put HD2.out 4 _ ⟨hk,⟨#[]⟩,hv,⟨#[]⟩,T,O⟩ rfl)).mono ?_;clear tok2 _t HD2 e0 e1 e2 e3 e4 e5 ef;rintro e w4 ⟨rfl,hD3⟩;have HD3:Hid _:=hD3;obtain⟨e0,e1,e2,e3,e4,e5,ef⟩:=DS.cells hD3;simp only at e0 e1 e2 e3 e4 e5;clear hD3)
   | (go_at_call 117;refine(HT2.out _ _ (DS.put HD3.out 1 _ ⟨hk,s1,hv,⟨#[]⟩,T,O⟩ rfl)).mono ?_;clear HD3 e0 e1 e2 e3 e4 e5 ef;rintro e w5 ⟨rfl,hD4⟩;have HD5:Hid _:=DS.put hD4 3 (.string s2) ⟨hk,s1,hv,s2,T,O⟩ rfl;obtain⟨e0,e1,e2,e3,e4,e5,ef⟩:=DS.cells hD4;have hB1:=hD4.rd.c1;have hBB:=hD4.rb;simp only at e0 e1 e2 e3 e4 e5;clear hD4)
   | (have _t:=HD5;refine wpList_store_row rfl 84 _ _ rfl w.heap.size rz.cells rfl rfl 84 (Rc.cells ⟨hk,s1,hv,s2,T,O⟩) HD5.out.box Tryz.info84 rfl (bM _) ?_))
   refine bodyPost_ret (v:=.tuple #[.agg rz.cells,.int .i64 0,.int .i64 10]) ?_ rfl ⟨rfl,?_⟩
   ·exact aN (p:=4) (u:=5) (u2:=6) (by rfl) _ _ w.heap.size rz _ _ (by rfl) (by rfl) (by rfl) (setRow_heap _ _ _ _ _ _ HD5.out.box)
   ·exact below_setRow HD5.out.bel (Nat.le_refl _) _
 ·rw[if_neg hcap] at hxx
  subst hxx
  rcases bD with _ | _
  ·by_cases hcc:cc=0
   ·have hRR:R=.tuple #[.agg (Rc.cells ⟨hk,s1,hv,s2,T,O⟩),.int .i64 ((l.length - q4.length:Nat):Int),.int .i64 0]:=by rw[HR.out,if_pos ⟨rfl,hcc⟩]
    subst hRR
    subst hcc
    clear HR hq4
    go_enter Tryz.func109,Tryz.ntmps109
    go_wp2_with (first
   | (go_at_call 114;refine(HI.out _).mono ?_;rintro e w2 ⟨rfl,hw⟩;subst w2)
   | (go_at_call 115;have _t:=tok1;refine(HN0.out _ _ HD.out).mono ?_;clear tok1 _t;rintro e w1 ⟨rfl,hD1⟩;have HD1:Hid _:=hD1;obtain⟨e0,e1,e2,e3,e4,e5,ef⟩:=DS.cells hD1;simp only at e0 e1 e2 e3 e4 e5;clear hD1)
   | (go_at_call 115;refine(HN1.out _ _ (DS.put HD1.out 5 _ ⟨hk,⟨#[]⟩,hv,⟨#[]⟩,0,O⟩ rfl)).mono ?_;clear HD1 e0 e1 e2 e3 e4 e5 ef;rintro e w2 ⟨rfl,hD2⟩;have HD2:Hid _:=hD2;obtain⟨e0,e1,e2,e3,e4,e5,ef⟩:=DS.cells hD2;simp only at e0 e1 e2 e3 e4 e5;clear hD2)
   | (go_at_call 116;refine(HZ.out _).mono ?_;rintro e w3 ⟨rfl,hw⟩;subst w3)
   | (go_at_call 117;have _t:=tok2;refine(HT1.out _ _ (DS.put HD2.out 4 _ ⟨hk,⟨#[]⟩,hv,⟨#[]⟩,T,O⟩ rfl)).mono ?_;clear tok2 _t HD2 e0 e1 e2 e3 e4 e5 ef;rintro e w4 ⟨rfl,hD3⟩;have HD3:Hid _:=hD3;obtain⟨e0,e1,e2,e3,e4,e5,ef⟩:=DS.cells hD3;simp only at e0 e1 e2 e3 e4 e5;clear hD3)
   | (go_at_call 117;refine(HT2.out _ _ (DS.put HD3.out 1 _ ⟨hk,s1,hv,⟨#[]⟩,T,O⟩ rfl)).mono ?_;clear HD3 e0 e1 e2 e3 e4 e5 ef;rintro e w5 ⟨rfl,hD4⟩;have HD5:Hid _:=DS.put hD4 3 (.string s2) ⟨hk,s1,hv,s2,T,O⟩ rfl;obtain⟨e0,e1,e2,e3,e4,e5,ef⟩:=DS.cells hD4;have hB1:=hD4.rd.c1;have hBB:=hD4.rb;simp only at e0 e1 e2 e3 e4 e5;clear hD4)
   | (go_at_call 112;refine(HC.out _).mono ?_;rintro e w6 ⟨rfl,hb6⟩;have HX:Hid _:=iF HD5.out hb6 hM))
    obtain⟨a4,c4,hx4,hSD⟩:=aEu HD5.out hb6 hM
    clear hx4
    refine aD (SD w w.heap.size w.heap.size (w.heap.size+1) ⟨hk,s1,hv,s2,T,O⟩ (.slice a4 q4.length c4)) 9 (by kernel_rfl) (show SD w w.heap.size w.heap.size (w.heap.size+1) ⟨hk,s1,hv,s2,T,O⟩ (.slice a4 q4.length c4) w6.drew from ⟨hSD.1,hSD.2.1,hSD.2.2.drew⟩) (fun hHeld=>?_)
    clear hSD
    refine lG 0 ?_
    try simp only[Act.put,sP]
    refine lG 1 ?_
    try simp only[Act.put,sP]
    refine lG 2 ?_
    try simp only[Act.put,sP]
    refine lG 3 ?_
    try simp only[Act.put,sP]
    refine lG 4 ?_
    try simp only[Act.put,sP]
    refine lG 5 ?_
    try simp only[Act.put,sP]
    refine lG 6 ?_
    try simp only[Act.put,sP]
    refine lo 7 fun K hK=>?_
    refine wp_store_row 84 _ _ rfl w.heap.size (Rc.cells ⟨hk,s1,hv,s2,T,O⟩) rfl rfl 84 (Rc.cells ⟨hk,s1,hv,s2,T,O⟩) hHeld.1 Tryz.info84 rfl (bM _) ?_
    refine hK.out _ _ (oP hHeld (Nat.le_refl _) (Nat.lt_succ_self _)) (fun hHeld2=>?_)
    clear hK hHeld
    try simp only[Act.put,sP]
    refine lG 8 ?_
    try simp only[Act.put,sP]
    refine ll 9 fun K hK=>?_
    go_simp
    refine hK.out _ _ ?_
    clear hK
    try simp only[Act.put,sP]
    go_wp2_with fail
    refine bodyPost_ret (v:=.tuple #[.agg (Rc.cells ⟨hk,s1,hv,s2,T,O⟩),.int .i64 ((l.length - q4.length:Nat):Int),.int .i64 0]) ?_ rfl ⟨rfl,hHeld2.2.2⟩
    exact aN (p:=4) (u:=5) (u2:=6) (by rfl) _ _ w.heap.size ⟨hk,s1,hv,s2,T,O⟩ _ _ (by rfl) (by rfl) (by rfl) hHeld2.1
   ·have hRR:R=.tuple #[.agg rz.cells,.int .i64 0,.int .i64 10]:=by rw[HR.out,if_neg (fun q=>hcc q.2)]
    subst hRR
    have hne:(cc != 0)=true:=by rw[bne_iff_ne];exact hcc
    clear HR hq4 hcc
    go_enter Tryz.func109,Tryz.ntmps109
    go_wp2_with (first
   | (go_at_call 114;refine(HI.out _).mono ?_;rintro e w2 ⟨rfl,hw⟩;subst w2)
   | (go_at_call 115;have _t:=tok1;refine(HN0.out _ _ HD.out).mono ?_;clear tok1 _t;rintro e w1 ⟨rfl,hD1⟩;have HD1:Hid _:=hD1;obtain⟨e0,e1,e2,e3,e4,e5,ef⟩:=DS.cells hD1;simp only at e0 e1 e2 e3 e4 e5;clear hD1)
   | (go_at_call 115;refine(HN1.out _ _ (DS.put HD1.out 5 _ ⟨hk,⟨#[]⟩,hv,⟨#[]⟩,0,O⟩ rfl)).mono ?_;clear HD1 e0 e1 e2 e3 e4 e5 ef;rintro e w2 ⟨rfl,hD2⟩;have HD2:Hid _:=hD2;obtain⟨e0,e1,e2,e3,e4,e5,ef⟩:=DS.cells hD2;simp only at e0 e1 e2 e3 e4 e5;clear hD2)
   | (go_at_call 116;refine(HZ.out _).mono ?_;rintro e w3 ⟨rfl,hw⟩;subst w3)
   | (go_at_call 117;have _t:=tok2;refine(HT1.out _ _ (DS.put HD2.out 4 _ ⟨hk,⟨#[]⟩,hv,⟨#[]⟩,T,O⟩ rfl)).mono ?_;clear tok2 _t HD2 e0 e1 e2 e3 e4 e5 ef;rintro e w4 ⟨rfl,hD3⟩;have HD3:Hid _:=hD3;obtain⟨e0,e1,e2,e3,e4,e5,ef⟩:=DS.cells hD3;simp only at e0 e1 e2 e3 e4 e5;clear hD3)
   | (go_at_call 117;refine(HT2.out _ _ (DS.put HD3.out 1 _ ⟨hk,s1,hv,⟨#[]⟩,T,O⟩ rfl)).mono ?_;clear HD3 e0 e1 e2 e3 e4 e5 ef;rintro e w5 ⟨rfl,hD4⟩;have HD5:Hid _:=DS.put hD4 3 (.string s2) ⟨hk,s1,hv,s2,T,O⟩ rfl;obtain⟨e0,e1,e2,e3,e4,e5,ef⟩:=DS.cells hD4;have hB1:=hD4.rd.c1;have hBB:=hD4.rb;simp only at e0 e1 e2 e3 e4 e5;clear hD4)
   | (go_at_call 112;refine(HC.out _).mono ?_;rintro e w6 ⟨rfl,hb6⟩;have HX:Hid _:=iF HD5.out hb6 hM)
   | (have _t:=HX;refine wpList_store_row rfl 84 _ _ rfl w.heap.size rz.cells rfl rfl 84 (Rc.cells ⟨hk,s1,hv,s2,T,O⟩) HX.out.1 Tryz.info84 rfl (bM _) ?_))
    refine bodyPost_ret (v:=.tuple #[.agg rz.cells,.int .i64 0,.int .i64 10]) ?_ rfl ⟨rfl,?_⟩
    ·exact aN (p:=4) (u:=5) (u2:=6) (by rfl) _ _ w.heap.size rz _ _ (by rfl) (by rfl) (by rfl) (setRow_heap _ _ _ _ _ _ HX.out.1)
    ·exact below_setRow HX.out.2 (Nat.le_refl _) _
  ·have hRR:R=.tuple #[.agg rz.cells,.int .i64 0,.int .i64 10]:=by rw[HR.out,if_neg (fun q=>by cases q.1)]
   subst hRR
   clear HR hq4
   go_enter Tryz.func109,Tryz.ntmps109
   go_wp2_with (first
   | (go_at_call 114;refine(HI.out _).mono ?_;rintro e w2 ⟨rfl,hw⟩;subst w2)
   | (go_at_call 115;have _t:=tok1;refine(HN0.out _ _ HD.out).mono ?_;clear tok1 _t;rintro e w1 ⟨rfl,hD1⟩;have HD1:Hid _:=hD1;obtain⟨e0,e1,e2,e3,e4,e5,ef⟩:=DS.cells hD1;simp only at e0 e1 e2 e3 e4 e5;clear hD1)
   | (go_at_call 115;refine(HN1.out _ _ (DS.put HD1.out 5 _ ⟨hk,⟨#[]⟩,hv,⟨#[]⟩,0,O⟩ rfl)).mono ?_;clear HD1 e0 e1 e2 e3 e4 e5 ef;rintro e w2 ⟨rfl,hD2⟩;have HD2:Hid _:=hD2;obtain⟨e0,e1,e2,e3,e4,e5,ef⟩:=DS.cells hD2;simp only at e0 e1 e2 e3 e4 e5;clear hD2)
   | (go_at_call 116;refine(HZ.out _).mono ?_;rintro e w3 ⟨rfl,hw⟩;subst w3)
   | (go_at_call 117;have _t:=tok2;refine(HT1.out _ _ (DS.put HD2.out 4 _ ⟨hk,⟨#[]⟩,hv,⟨#[]⟩,T,O⟩ rfl)).mono ?_;clear tok2 _t HD2 e0 e1 e2 e3 e4 e5 ef;rintro e w4 ⟨rfl,hD3⟩;have HD3:Hid _:=hD3;obtain⟨e0,e1,e2,e3,e4,e5,ef⟩:=DS.cells hD3;simp only at e0 e1 e2 e3 e4 e5;clear hD3)
   | (go_at_call 117;refine(HT2.out _ _ (DS.put HD3.out 1 _ ⟨hk,s1,hv,⟨#[]⟩,T,O⟩ rfl)).mono ?_;clear HD3 e0 e1 e2 e3 e4 e5 ef;rintro e w5 ⟨rfl,hD4⟩;have HD5:Hid _:=DS.put hD4 3 (.string s2) ⟨hk,s1,hv,s2,T,O⟩ rfl;obtain⟨e0,e1,e2,e3,e4,e5,ef⟩:=DS.cells hD4;have hB1:=hD4.rd.c1;have hBB:=hD4.rb;simp only at e0 e1 e2 e3 e4 e5;clear hD4)
   | (have _t:=HD5;refine wpList_store_row rfl 84 _ _ rfl w.heap.size rz.cells rfl rfl 84 (Rc.cells ⟨hk,s1,hv,s2,T,O⟩) HD5.out.box Tryz.info84 rfl (bM _) ?_))
   refine bodyPost_ret (v:=.tuple #[.agg rz.cells,.int .i64 0,.int .i64 10]) ?_ rfl ⟨rfl,?_⟩
   ·exact aN (p:=4) (u:=5) (u2:=6) (by rfl) _ _ w.heap.size rz _ _ (by rfl) (by rfl) (by rfl) (setRow_heap _ _ _ _ _ _ HD5.out.box)
   ·exact below_setRow HD5.out.bel (Nat.le_refl _) _
theorem gM (w:World):(w.alloc (.cells rz.cells 84)).heap[w.heap.size]? = some (.cells rz.cells 84 (0,0)):=heap_alloc_new w _
theorem vF (a:Option Addr) (cap:Nat) (l:List Nat) (first:Int) (w:World) (hr:Row w a l) (hl:l.length<=cap) (hc:cap<=maxLen) (hg:gate l first=false) :
 Calls Tryz.prog 109 #[.slice a l.length cap,.int .i64 first] w fun e w'=>e=.returned (.tuple #[.agg rz.cells,.int .i64 0,.int .i64 10])/\Below w.heap.size w w':=by
 have HI:Hid _:=gX first
 unfold maxLen at hc
 by_cases ht:timeB first=true
 ·rw[ht] at HI
  by_cases h0:0 < l.length
  ·have h3:3 < l.getD 0 0:=by
    simp only[gate,ht,Bool.true_and,Bool.and_eq_false_iff,decide_eq_false_iff_not] at hg
    omega
   obtain⟨b,off,rfl,hc0,hlt⟩:=hr 0 h0
   rw[Nat.add_zero] at hc0
   clear hr hg
   generalize l.getD 0 0=c at *
   have hbw:b < w.heap.size:=World.block_lt_of_cell? _ _ hc0
   have h0I:((l.length:Int) == 0)=false:=by rw[beq_eq_false_iff_ne];omega
   have h0J:(0:Int) < (l.length:Int):=by omega
   have h3I:(3:Int) < (c:Int):=by omega
   go_enter Tryz.func109,Tryz.ntmps109
   go_wp2_with (first
    | (go_at_call 114;refine(HI.out _).mono ?_;rintro e w2 ⟨rfl,hw⟩;subst w2)
    | (refine wpList_store_row rfl 84 _ _ rfl w.heap.size rz.cells rfl rfl 84 rz.cells (gM w) Tryz.info84 rfl (bM _) ?_))
   refine bodyPost_ret (v:=.tuple #[.agg rz.cells,.int .i64 0,.int .i64 10]) ?_ rfl ⟨rfl,?_⟩
   ·exact aN (p:=4) (u:=5) (u2:=6) (by rfl) _ _ w.heap.size rz _ _ (by rfl) (by rfl) (by rfl) (setRow_heap _ _ _ _ _ _ (gM w))
   ·exact below_setRow (aA _) (Nat.le_refl _) _
  ·have h0I:l.length=0:=by omega
   rw[h0I]
   clear hr hg
   go_enter Tryz.func109,Tryz.ntmps109
   go_wp2_with (first
    | (go_at_call 114;refine(HI.out _).mono ?_;rintro e w2 ⟨rfl,hw⟩;subst w2)
    | (refine wpList_store_row rfl 84 _ _ rfl w.heap.size rz.cells rfl rfl 84 rz.cells (gM w) Tryz.info84 rfl (bM _) ?_))
   refine bodyPost_ret (v:=.tuple #[.agg rz.cells,.int .i64 0,.int .i64 10]) ?_ rfl ⟨rfl,?_⟩
   ·exact aN (p:=4) (u:=5) (u2:=6) (by rfl) _ _ w.heap.size rz _ _ (by rfl) (by rfl) (by rfl) (setRow_heap _ _ _ _ _ _ (gM w))
   ·exact below_setRow (aA _) (Nat.le_refl _) _
 ·have ht':timeB first=false:=by simpa using ht
  rw[ht'] at HI
  clear hr hg ht
  go_enter Tryz.func109,Tryz.ntmps109
  go_wp2_with (first
   | (go_at_call 114;refine(HI.out _).mono ?_;rintro e w2 ⟨rfl,hw⟩;subst w2)
   | (refine wpList_store_row rfl 84 _ _ rfl w.heap.size rz.cells rfl rfl 84 rz.cells (gM w) Tryz.info84 rfl (bM _) ?_))
  refine bodyPost_ret (v:=.tuple #[.agg rz.cells,.int .i64 0,.int .i64 10]) ?_ rfl ⟨rfl,?_⟩
  ·exact aN (p:=4) (u:=5) (u2:=6) (by rfl) _ _ w.heap.size rz _ _ (by rfl) (by rfl) (by rfl) (setRow_heap _ _ _ _ _ _ (gM w))
  ·exact below_setRow (aA _) (Nat.le_refl _) _
theorem aHk (n:Int):IntKind.i64.wrap n=wrap64 n:=by rw[IntKind.wrap_i64];unfold wrap64;omega
theorem mV {l:List Nat} {first:Int} (h:gate l first=true):timeB first=true/\0 < l.length/\l.getD 0 0<=3:=by
 simp only[gate,Bool.and_eq_true,decide_eq_true_eq] at h
 exact⟨h.1.1,h.1.2,h.2⟩
theorem decode_any (a:Option Addr) (cap:Nat) (l:List Nat) (first:Int) (w:World) (hr:Row w a l) (hl:l.length<=cap) (hc:cap<=maxLen) :
 Calls Tryz.prog 109 #[.slice a l.length cap,.int .i64 first] w fun e w'=>e=.returned (.tuple #[.agg (decR l first).cells,.int .i64 ((decN l first:Nat):Int),.int .i64 (decE l first)])/\Below w.heap.size w w':=by
 by_cases hg:gate l first=true
 ·obtain⟨ht,h0,h3⟩:=mV hg
  have hlt:=hr.lt 0
  have HD:=aAn (hkOf l) (hvOf l) hr h0 hl hc
  obtain⟨b,off,rfl,hc0,_⟩:=hr 0 h0
  rw[Nat.add_zero] at hc0
  have hk1:(bits .and .u8 ((l.getD 0 0:Nat):Int) 1 != 0)=hkOf l:=by
   rw[tV _ (by omega)]
   unfold hkOf
   generalize l.getD 0 0=c at *
   rw[Bool.eq_iff_iff]
   simp
   omega
  have hv1:(bits .and .u8 ((l.getD 0 0:Nat):Int) 2 != 0)=hvOf l:=by
   rw[uR _ (by omega)]
   unfold hvOf
   generalize l.getD 0 0=c at *
   rw[Bool.eq_iff_iff]
   simp
   omega
  have HI:∀w',Calls Tryz.prog 114 #[.int .i64 first] w' fun e w2=>e=.returned (.bool true)/\w2=w':=by
   have:=gX first
   rw[ht] at this
   exact this
  refine wJ b off cap l first w (l.getD 0 0) hc0 h0 hl (by unfold maxLen at hc;exact hc) h3 (hkOf l) (hvOf l) hk1 hv1 _ rfl HI (p0 l) (p1 l) (p2 l) (p3 l) (p4 l) (numV (p0 l)) (numV (p1 l)) (zag (numV (p1 l))) (wrap64 (first+zag (numV (p1 l)))) (wrap64 (numV (p0 l)))
   (numN (p0 l) == 0) (b2 l) (txB (hkOf l) (p2 l) (b2 l)) (badAt l) (strN (txV (hkOf l) (p2 l))) (strN (txV (hvOf l) (p3 l))) HD ?_ ?_ ?_ ?_ ?_ (aHk _) (aHk _) (chk (rcOf l first)) (check_any (rcOf l first)) _ ?_ (by have:=zS l;omega)
  ·intro w' r h
   have:=oD h
   rw[Bool.false_or] at this
   exact this
  ·intro w' r h
   exact oD h
  ·intro w'
   exact aEk _ w' (by omega) (by have:=fD (p1 l);omega)
  ·intro w' r h
   exact yN h _
  ·intro w' r h
   exact yN h _
  ·show _=_
   unfold decR decN decE okD
   rw[hg,Bool.true_and]
   by_cases hb:badAt l=false/\chk (rcOf l first)=0
   ·rw[if_pos hb,hb.1,hb.2]
    rfl
   ·rw[if_neg hb]
    have:(!badAt l && chk (rcOf l first) == 0)=false:=by
     cases h1:badAt l
     ·have:¬chk (rcOf l first)=0:=fun c=>hb ⟨h1,c⟩
      simpa using this
     ·rfl
    rw[this]
    rfl
 ·have hg':gate l first=false:=by simpa using hg
  have e:okD l first=false:=by unfold okD;rw[hg'];rfl
  unfold decR decN decE
  rw[e]
  exact vF a cap l first w hr hl hc hg'
theorem oR (r:Rc) (first:Int) (h:chk r=0) (hf:timeB first=true):∀i,(encL r first).getD i 0 < 256:=by
 obtain⟨t0,t1,o0,o1,k1,v1,_,_⟩:=dN h
 unfold encL
 rw[show headN r::(groups r.o.toNat++(groups (zig (r.t - first)).toNat++(textL r.hk r.k++textL r.hv r.v)))=[headN r]++(groups r.o.toNat++(groups (zig (r.t - first)).toNat++(textL r.hk r.k++textL r.hv r.v))) from rfl]
 obtain⟨f0,f1⟩:=(bZ first).1 hf
 have hz:=pV (r.t - first) (by omega) (by omega)
 refine mX ?_ (mX (fK _ (by omega)) (mX (fK _ (by omega)) (mX (pJ _ _ k1) (pJ _ _ v1))))
 intro i
 match i with
 | 0=>exact qI r
 | i+1=>simp
theorem aAl (l:List Nat):∀(i v:Nat),i<=9->(∀x,x ∈ l->x < 256)->(uv l i v).2≠0->∃V t,l=vr (9 - i) V++t/\(uv l i v).1=v+V * 128 ^ i/\(uv l i v).2=i+(vr (9 - i) V).length/\(0 < i->V≠0):=by
 induction l with
 | nil=>intro i v _ _ h;exact absurd rfl h
 | cons c r ih=>
  intro i v hi hl h
  rw[dE] at h ⊢
  have hc:c < 256:=hl c (by simp)
  by_cases h9:i=9/\1 < c
  ·rw[if_pos h9] at h;exact absurd rfl h
  rw[if_neg h9] at h ⊢
  by_cases h128:128<=c
  ·rw[if_pos h128] at h ⊢
   have hi9:i < 9:=by omega
   obtain⟨V,t,e1,e2,e3,e4⟩:=ih (i+1) _ (by omega) (fun x hx=>hl x (by simp[hx])) h
   have hV:=e4 (by omega)
   have ef:9 - i=(9 - (i+1))+1:=by omega
   have ev:vr (9 - i) (c % 128+128 * V)=c::vr (9 - (i+1)) V:=by
    rw[ef]
    simp only[vr]
    rw[if_neg (by omega)]
    have a1:(c % 128+128 * V) % 128+128=c:=by omega
    have a2:(c % 128+128 * V) / 128=V:=by omega
    rw[a1,a2]
   refine⟨c % 128+128 * V,t,by rw[ev,List.cons_append,<-e1],?_,by rw[e3,ev,List.length_cons];omega,by omega⟩
   rw[e2,Nat.pow_succ,Nat.add_mul]
   have:V * (128 ^ i * 128)=128 * V * 128 ^ i:=by
    rw[Nat.mul_comm (128 ^ i),<-Nat.mul_assoc,Nat.mul_comm V]
   omega
  ·rw[if_neg h128] at h ⊢
   by_cases h0:c=0/\0 < i
   ·rw[if_pos h0] at h;exact absurd rfl h
   rw[if_neg h0]
   have ev:vr (9 - i) c=[c]:=by
    generalize 9 - i=f
    cases f<;>simp[vr]<;>omega
   refine⟨c,r,by rw[ev];rfl,?_,by rw[ev];rfl,by omega⟩
   rw[Nat.mod_eq_of_lt (by omega:c < 128)]
theorem lN {l:List Nat} (hl:∀x,x ∈ l->x < 256) (h:numN l≠0):l=groups (numV l)++l.drop (numN l)/\numN l=(groups (numV l)).length:=by
 obtain⟨V,t,e1,e2,e3,_⟩:=aAl l 0 0 (by omega) hl h
 have hV:numV l=V:=by unfold numV;rw[e2];simp
 have hN:numN l=(groups V).length:=by unfold numN;rw[e3];simp[groups]
 rw[hV,hN]
 refine⟨?_,rfl⟩
 have:l=groups V++t:=e1
 rw[this,List.drop_left]
theorem tO (l:List Nat) (h:∀x,x ∈ l->x < 256):sb (strN l)=l:=by
 unfold sb strN
 rw[strOfNums_data,List.map_map,List.map_map]
 conv=>rhs;rw[<-List.map_id l]
 apply List.map_congr_left
 intro a ha
 have:=h a ha
 simp
 omega
theorem qS {q:List Nat} (hq:∀x,x ∈ q->x < 256) (h:okT q=true):q=textL true (strN (txV true q))++txL true q:=by
 obtain⟨_,e2,e3,_,e5⟩:=oK h false
 have hn:numN q≠0:=by
  simp only[okT,Bool.and_eq_true,Bool.not_eq_true',decide_eq_true_eq] at h
  simpa using h.1.1
 obtain⟨c1,c2⟩:=lN hq hn
 have hl:(txV true q).length=numV q:=by rw[e2,List.length_take,List.length_drop];omega
 unfold textL
 rw[if_pos rfl,lL,hl,tO _ (fun x hx=>by rw[e2] at hx;exact hq x (List.mem_of_mem_drop (List.mem_of_mem_take hx))),e2,e3,<-List.drop_drop,List.append_assoc,List.take_append_drop]
 exact c1
theorem aDe (V:Nat):zig (zag V)=V:=by unfold zag zig;split<;>split<;>omega
theorem lZ (c:Nat) (h:c<=3):headB (c % 2 == 1) (c / 2 == 1)=c:=by
 match c,h with
 | 0,_=>rfl
 | 1,_=>rfl
 | 2,_=>rfl
 | 3,_=>rfl
theorem nT {l:List Nat} {first:Int} (hl:∀x,x ∈ l->x < 256) (h:okD l first=true):l=encL (rcOf l first) first++l.drop (decN l first)/\chk (rcOf l first)=0/\decN l first=(encL (rcOf l first) first).length:=by
 have h0:=h
 unfold okD at h
 simp only[Bool.and_eq_true,Bool.not_eq_true',beq_iff_eq,gate,decide_eq_true_eq] at h
 obtain⟨⟨⟨⟨ht,hlen⟩,h3⟩,_⟩,hc⟩:=h
 obtain⟨f0,f1⟩:=(bZ first).1 ht
 obtain⟨n0,v0,n1,t0,t1,k,v⟩:=rL f0 f1 h0
 have m0:∀x,x ∈ p0 l->x < 256:=fun x hx=>hl x (List.mem_of_mem_drop hx)
 have m1:∀x,x ∈ p1 l->x < 256:=fun x hx=>m0 x (List.mem_of_mem_drop hx)
 have m2:∀x,x ∈ p2 l->x < 256:=fun x hx=>m1 x (List.mem_of_mem_drop hx)
 have c0:=(lN m0 n0).1
 have c1:=(lN m1 n1).1
 have z:=zQ (numV (p1 l)) (fD _)
 have eo:(rcOf l first).o.toNat=numV (p0 l):=by
  simp only[rcOf]
  rw[w64 _ (by omega) (by omega)]
  omega
 have et:zig ((rcOf l first).t - first)=numV (p1 l):=by
  simp only[rcOf]
  rw[w64 _ (by omega) (by omega),show first+zag (numV (p1 l)) - first=zag (numV (p1 l)) by omega,aDe]
 have c2:p2 l=textL (hkOf l) (strN (txV (hkOf l) (p2 l)))++p3 l:=by
  unfold p3
  cases hk:hkOf l
  ·simp[textL,txL]
  ·exact qS m2 (k hk)
 have m3:∀x,x ∈ p3 l->x < 256:=fun x hx=>m2 x (by rw[c2];exact List.mem_append_right _ hx)
 have c3:p3 l=textL (hvOf l) (strN (txV (hvOf l) (p3 l)))++p4 l:=by
  unfold p4
  cases hv:hvOf l
  ·simp[textL,txL]
  ·exact qS m3 (v hv)
 have eh:l=headN (rcOf l first)::p0 l:=by
  match l,hlen with
  | c::r,_=>
   have:headN (rcOf (c::r) first)=c:=lZ c h3
   rw[this]
   rfl
 have key:l=encL (rcOf l first) first++p4 l:=by
  conv=>lhs;rw[eh]
  unfold encL
  rw[eo,et,List.cons_append]
  congr 1
  conv=>lhs;rw[c0]
  rw[List.append_assoc]
  congr 1
  show p1 l=_
  conv=>lhs;rw[c1]
  rw[List.append_assoc]
  have e:((numV (p1 l):Nat):Int).toNat=numV (p1 l):=by omega
  rw[e]
  congr 1
  show p2 l=_
  conv=>lhs;rw[c2]
  rw[List.append_assoc]
  congr 1
 have hN:decN l first=l.length - (p4 l).length:=by unfold decN;rw[if_pos h0]
 have hL:decN l first=(encL (rcOf l first) first).length:=by
  have:=congrArg List.length key
  rw[List.length_append] at this
  omega
 refine⟨?_,hc,hL⟩
 have hd:=congrArg (List.drop (encL (rcOf l first) first).length) key
 rw[List.drop_left] at hd
 rw[hL,hd]
 exact key
theorem vP (a:Option Addr) (capa:Nat) (l:List Nat) (b:Option Addr) (capb:Nat) (m:List Nat) (w:World) (ha:Row w a l) (hb:Row w b m) (hl:l.length<=maxLen) (hm:m.length<=maxLen) :
 Calls Tryz.prog 15 #[.slice a l.length capa,.slice b m.length capb] w fun e w'=>e=.returned (.bool (decide (l=m)))/\∃n,w'=w.drewN n:=by
 unfold maxLen at hl hm
 by_cases hlen:l.length=m.length
 ·have hne:((l.length:Int) != (m.length:Int))=false:=by simp[hlen]
  have HL:Hid (l.length=m.length):=hlen
  clear hlen
  go_enter Tryz.func15,Tryz.ntmps15
  go_wp2
  go_loopw [5] (fun i wr=>∃k n:Nat,k<=l.length/\i=.int .i64 k/\wr=w.drewN n/\∀j,j < k->l.getD j 0=m.getD j 0) (fun i _=>l.length - (iof i).toNat)
  case atStart=>exact⟨0,0,by omega,rfl,rfl,by intro j hj;omega⟩
  case round=>
   obtain⟨k,n,hk,rfl,rfl,hsame⟩:=hrel
   have HS:Hid (∀j,j < k->l.getD j 0=m.getD j 0):=hsame
   clear hsame
   by_cases hlt:k < l.length
   ·obtain⟨b1,o1,rfl,c1,l1⟩:=ha k hlt
    obtain⟨b2,o2,rfl,c2,l2⟩:=hb k (by rw[<-HL.out];exact hlt)
    have hltm:k < m.length:=by rw[<-HL.out];exact hlt
    have HQ:Hid (l.getD k 0=m.getD k 0->∀j,j < k+1->l.getD j 0=m.getD j 0):=by
     intro e j hj
     by_cases hjk:j=k
     ·subst hjk;exact e
     ·exact HS.out j (by omega)
    have HD:Hid (l.getD k 0≠m.getD k 0->l≠m):=by intro e c;rw[c] at e;exact e rfl
    clear ha hb
    have hltI:(k:Int) < (l.length:Int):=by omega
    have hltJ:(k:Int) < (m.length:Int):=by omega
    generalize l.getD k 0=x at *
    generalize m.getD k 0=y at *
    go_wp2
    go_quiet (fail)
    go_wp2
    ·have hxy:((x:Int) != (y:Int))=true:=by assumption
     go_ret
     exact⟨jA (decide_eq_false (HD.out (by rw[bne_iff_ne] at hxy;omega))).symm,n+nq,World.drewN_drewN _ _ _⟩
    ·have hxy:((x:Int) != (y:Int))=false:=by assumption
     have hxy2:x=y:=by have:=WalkArith.int_eq' hxy;omega
     exact⟨⟨k+1,n+nq,by omega,by go_num,rfl,HQ.out hxy2⟩,by simp[iof];omega⟩
   ·go_wp2
    go_ret
    refine⟨jA (decide_eq_true ?_).symm,n,rfl⟩
    exact gQ HL.out (fun i hi=>HS.out i (by omega))
 ·have hne:((l.length:Int) != (m.length:Int))=true:=by rw[bne_iff_ne];omega
  have HL:Hid (l≠m):=fun c=>hlen (by rw[c])
  go_enter Tryz.func15,Tryz.ntmps15
  go_wp2
  go_ret
  exact⟨jA (decide_eq_false HL.out).symm,0,rfl⟩
theorem nC (l:List Nat) (i j c:Nat) (h:j < l.length):(l.set i c).getD j 0=if i=j then c else l.getD j 0:=by
 simp only[List.getD,List.getElem?_set]
 by_cases e:i=j
 ·subst e;simp[h]
 ·simp[e]
structure Ba where
 base:Int
 span:Int
 prod:Int
 seq:Int
 rs:List Rc
def bav (b:Ba) (a:Option Addr) (cap:Nat):Value:=.agg #[.int .i64 b.base,.int .i64 b.span,.int .i64 b.prod,.int .i64 b.seq,.slice a b.rs.length cap]
def RRow (w:World) (a:Option Addr) (rs:List Rc):Prop:=
 ∀i,i < rs.length->∃b off,a=some ⟨b,off,none⟩/\w.cell? ⟨b,off+i * 6,none⟩=some (.bool (rs.getD i rz).hk)/\w.cell? ⟨b,off+i * 6+1,none⟩=some (.string (rs.getD i rz).k)/\w.cell? ⟨b,off+i * 6+2,none⟩=some (.bool (rs.getD i rz).hv)/\w.cell? ⟨b,off+i * 6+3,none⟩=some (.string (rs.getD i rz).v)/\w.cell? ⟨b,off+i * 6+4,none⟩=some (.int .i64 (rs.getD i rz).t)/\w.cell? ⟨b,off+i * 6+5,none⟩=some (.int .i64 (rs.getD i rz).o)
theorem RRow.below {w w':World} {a:Option Addr} {rs:List Rc} (h:RRow w a rs) (hb:Below w.heap.size w w'):RRow w' a rs:=by
 intro i hi
 obtain⟨b,off,e,h0,h1,h2,h3,h4,h5⟩:=h i hi
 exact⟨b,off,e,(hb.cell (World.block_lt_of_cell? _ _ h0)).trans h0,(hb.cell (World.block_lt_of_cell? _ _ h1)).trans h1,(hb.cell (World.block_lt_of_cell? _ _ h2)).trans h2,(hb.cell (World.block_lt_of_cell? _ _ h3)).trans h3,(hb.cell (World.block_lt_of_cell? _ _ h4)).trans h4,(hb.cell (World.block_lt_of_cell? _ _ h5)).trans h5⟩
theorem RRow.nil (w:World) (a:Option Addr):RRow w a []:=by intro i hi;simp at hi
def baseB (z:Int):Bool:=decide (0<=z/\z<=1125899906842624)
theorem sR (z:Int) (w:World):Calls Tryz.prog 110 #[.int .i64 z] w fun e w'=>e=.returned (.bool (baseB z))/\w'=w:=by
 by_cases h1:0<=z
 ·by_cases h2:z<=1125899906842624
  all_goals
   go_enter Tryz.func110,Tryz.ntmps110
   go_wp2
   go_ret
   simp[baseB,h1,h2]
 ·go_enter Tryz.func110,Tryz.ntmps110
  go_wp2
  go_ret
  simp[baseB]
  omega
def RiseAt (rs:List Rc) (span:Int) (i:Nat):Prop:=(rs.getD i rz).o < span/\(0 < i->(rs.getD (i - 1) rz).o < (rs.getD i rz).o)
def Rise (rs:List Rc) (span:Int):Prop:=∀i,i < rs.length->RiseAt rs span i
def riseAtB (rs:List Rc) (span:Int) (i:Nat):Bool:=decide ((rs.getD i rz).o < span) && (i == 0 || decide ((rs.getD (i - 1) rz).o < (rs.getD i rz).o))
def riseB (rs:List Rc) (span:Int):Bool:=(List.range rs.length).all (riseAtB rs span)
theorem mU {rs:List Rc} {span:Int} {i:Nat}:riseAtB rs span i=true↔RiseAt rs span i:=by
 unfold riseAtB RiseAt
 simp only[Bool.and_eq_true,decide_eq_true_eq,Bool.or_eq_true,beq_iff_eq]
 constructor
 ·rintro⟨h1,h2⟩
  exact⟨h1,fun h=>h2.elim (fun c=>absurd c (by omega)) id⟩
 ·rintro⟨h1,h2⟩
  refine⟨h1,?_⟩
  by_cases h:i=0
  ·exact .inl h
  ·exact .inr (h2 (by omega))
theorem nG {rs:List Rc} {span:Int}:riseB rs span=true↔Rise rs span:=by
 unfold riseB Rise
 rw[List.all_eq_true]
 exact⟨fun h i hi=>mU.1 (h i (List.mem_range.2 hi)),fun h i hi=>mU.2 (h i (List.mem_range.1 hi))⟩
theorem rC {rs:List Rc} {span:Int} (h:Rise rs span):riseB rs span=true:=nG.2 h
theorem tW {rs:List Rc} {span:Int} (h:¬Rise rs span):riseB rs span=false:=by
 cases e:riseB rs span with
 | false=>rfl
 | true=>exact absurd (nG.1 e) h
theorem sH (a:Option Addr) (cap:Nat) (rs:List Rc) (span:Int) (w:World) (hr:RRow w a rs) (hl:rs.length<=maxLen) :
 Calls Tryz.prog 111 #[.slice a rs.length cap,.int .i64 span] w fun e w'=>e=.returned (.bool (riseB rs span))/\Below w.heap.size w w':=by
 unfold maxLen at hl
 go_enter Tryz.func111,Tryz.ntmps111
 go_wp2_with fail
 go_loopw [9] (fun i wr=>∃(k:Nat),k<=rs.length/\i=.int .i64 k/\(∀x,x < k->RiseAt rs span x)/\Below w.heap.size w wr) (fun i _=>rs.length - (intOf i).toNat)
 case atStart=>exact⟨0,by omega,rfl,by intro x hx;omega,Below.refl _ _⟩
 case round=>
  obtain⟨k,hk,rfl,hS,hb⟩:=hrel
  have HS:Hid (∀x,x < k->RiseAt rs span x):=hS
  clear hS
  by_cases hlt:k < rs.length
  ·have hltI:(k:Int) < (rs.length:Int):=by omega
   have HQ:Hid (RiseAt rs span k->∀x,x < k+1->RiseAt rs span x):=by
    intro e j hj
    by_cases hjk:j=k
    ·subst hjk;exact e
    ·exact HS.out j (by omega)
   have HN:Hid (¬RiseAt rs span k->riseB rs span=false):=fun h=>tW (fun c=>h (c k hlt))
   have hr2:=hr.below hb
   obtain⟨b,off,rfl,z0,z1,z2,z3,z4,z5⟩:=hr2 k hlt
   have hbz:=World.block_lt_of_cell? _ _ z0
   simp only at hbz
   have HBB:Hid (∀cs,Below w.heap.size w (wr.alloc (.cells cs 84))):=fun cs=>hb.alloc hb.size _
   by_cases h0:0 < k
   ·have hkI:(0:Int) < (k:Int):=by omega
    obtain⟨j,HJ⟩:∃j,Hid (k=j+1):=⟨k - 1,show k=k - 1+1 by omega⟩
    have hj:=HJ.out
    obtain⟨b',off',e,y0,y1,y2,y3,y4,y5⟩:=hr2 j (by omega)
    simp only[Option.some.injEq,Addr.mk.injEq,and_true] at e
    obtain⟨rfl,rfl⟩:=e
    have hk1:IntKind.i64.wrap ((k:Int) - 1)=(j:Int):=by rw[IntKind.wrap_i64];omega
    have hk3:(j:Int) < (rs.length:Int):=by omega
    have HR:Hid (RiseAt rs span k↔(rs.getD k rz).o < span/\(rs.getD j rz).o < (rs.getD k rz).o):=by
     unfold Hid RiseAt
     rw[show k - 1=j by omega]
     exact⟨fun h=>⟨h.1,h.2 h0⟩,fun h=>⟨h.1,fun _=>h.2⟩⟩
    clear hr hr2 y0 y1 y2 y3 y4 hj
    generalize rs.getD k rz=r at *
    generalize (rs.getD j rz).o=po at *
    obtain⟨hk',kk,hv,v,t,o⟩:=r
    simp only at z0 z1 z2 z3 z4 z5
    by_cases h1:o < span
    ·have h1':decide (span<=o)=false:=decide_eq_false (by omega)
     by_cases h2:po < o
     ·have h2':decide (o<=po)=false:=decide_eq_false (by omega)
      go_wp2
      go_quiet (fail)
      go_wp2
      exact⟨⟨k+1,by omega,by go_num,HQ.out (HR.out.2 ⟨h1,h2⟩),below_drewN (HBB.out _) _⟩,by simp[intOf];omega⟩
     ·have h2':decide (o<=po)=true:=decide_eq_true (by omega)
      go_wp2
      go_quiet (fail)
      go_wp2
      go_ret
      exact⟨jA (HN.out (fun c=>absurd (HR.out.1 c).2 (by omega))).symm,below_drewN (HBB.out _) _⟩
    ·have h1':decide (span<=o)=true:=decide_eq_true (by omega)
     go_wp2
     go_quiet (fail)
     go_wp2
     go_ret
     exact⟨jA (HN.out (fun c=>absurd (HR.out.1 c).1 (by show ¬o < span;omega))).symm,below_drewN (HBB.out _) _⟩
   ·have hkI:¬(0:Int) < (k:Int):=by omega
    have HR:Hid (RiseAt rs span k↔(rs.getD k rz).o < span):=by
     unfold Hid RiseAt
     exact⟨fun h=>h.1,fun h=>⟨h,fun c=>absurd c h0⟩⟩
    clear hr hr2
    generalize rs.getD k rz=r at *
    obtain⟨hk',kk,hv,v,t,o⟩:=r
    simp only at z0 z1 z2 z3 z4 z5
    obtain⟨kI,HKI⟩:∃z:Int,Hid ((k:Int)=z):=⟨_,rfl⟩
    have q1:kI.toNat=k:=by have:=HKI.out;omega
    have q2:0<=kI:=by have:=HKI.out;omega
    have q3:kI < (rs.length:Int):=by have:=HKI.out;omega
    have q4:decide (0 < kI)=false:=decide_eq_false (by have:=HKI.out;omega)
    clear h0 hkI hltI
    rw[HKI.out]
    have HW:Hid (kI+1=((k+1:Nat):Int)):=by
     have:=HKI.out
     show _=_
     omega
    by_cases h1:o < span
    ·have h1':decide (span<=o)=false:=decide_eq_false (by omega)
     go_wp2
     go_quiet (fail)
     go_wp2
     exact⟨⟨k+1,by omega,by rw[HW.out],HQ.out (HR.out.2 h1),below_drewN (HBB.out _) _⟩,by rw[HW.out,<-HKI.out];simp[intOf];omega⟩
    ·have h1':decide (span<=o)=true:=decide_eq_true (by omega)
     go_wp2
     go_quiet (fail)
     go_wp2
     go_ret
     exact⟨jA (HN.out (fun c=>absurd (HR.out.1 c) (by show ¬o < span;omega))).symm,below_drewN (HBB.out _) _⟩
  ·obtain rfl:k=rs.length:=by omega
   clear hr
   go_wp2
   go_ret
   exact⟨jA (rC HS.out).symm,hb⟩
def fstE:List Rc->Int
 | []=>0
 | r::t=>if chk r=0 then fstE t else chk r
theorem sM (rs:List Rc) (k:Nat) (hk:k < rs.length) (h:∀x,x < k->chk (rs.getD x rz)=0) (hn:chk (rs.getD k rz)≠0):fstE rs=chk (rs.getD k rz):=by
 induction rs generalizing k with
 | nil=>simp at hk
 | cons r t ih=>
  unfold fstE
  cases k with
  | zero=>rw[if_neg (show ¬chk r=0 from hn)];rfl
  | succ k=>
   rw[if_pos (show chk r=0 from h 0 (by omega))]
   exact ih k (by simpa using hk) (fun x hx=>h (x+1) (by omega)) hn
theorem rH (rs:List Rc) (h:∀x,x < rs.length->chk (rs.getD x rz)=0):fstE rs=0:=by
 induction rs with
 | nil=>rfl
 | cons r t ih=>
  unfold fstE
  rw[if_pos (show chk r=0 from h 0 (by simp))]
  exact ih (fun x hx=>h (x+1) (by simpa using hx))
theorem aEl {rs:List Rc} (h:fstE rs=0):∀r,r ∈ rs->chk r=0:=by
 induction rs with
 | nil=>intro r hr;cases hr
 | cons q t ih=>
  unfold fstE at h
  by_cases hq:chk q=0
  ·rw[if_pos hq] at h
   intro r hr
   rcases List.mem_cons.1 hr with rfl | hr
   ·exact hq
   ·exact ih h r hr
  ·rw[if_neg hq] at h;exact absurd h hq
def numsB (b:Ba):Bool:=baseB b.base && decide (1<=b.span) && decide (b.span<=100) && decide (0<=b.prod) && decide (0<=b.seq) && decide (0 < b.rs.length)
def wrE (b:Ba):Int:=if (numsB b && riseB b.rs b.span)=true then fstE b.rs else 1
theorem fJ (b:Ba) (a:Option Addr) (cap:Nat) (w:World) (hr:RRow w a b.rs) (hl:b.rs.length<=maxLen) :
 Calls Tryz.prog 99 #[bav b a cap] w fun e w'=>e=.returned (.int .i64 (wrE b))/\Below w.heap.size w w':=by
 have hl0:=hl
 unfold maxLen at hl
 obtain⟨base,span,prod,seq,rs⟩:=b
 simp only[bav] at hr hl hl0 ⊢
 have HI:Hid _:=sR base
 have HRI:Hid _:=fun w' (h:RRow w' a rs)=>sH a cap rs span w' h hl0
 obtain⟨c,HC⟩:∃c,Hid (wrE ⟨base,span,prod,seq,rs⟩=c):=⟨_,rfl⟩
 rw[HC.out]
 have HD:Hid (wrE ⟨base,span,prod,seq,rs⟩=if ((baseB base && decide (1<=span) && decide (span<=100) && decide (0<=prod) && decide (0<=seq) && decide (0 < rs.length)) && riseB rs span)=true then fstE rs else 1):=rfl
 generalize hbb:baseB base=bb at *
 generalize hrb:riseB rs span=rb at *
 clear hbb hrb
 have HR0:Hid (RRow w a rs):=hr
 clear hr
 have HZ:Hid (∀cs,Below w.heap.size w (w.alloc (.cells cs 88))):=fun cs=>aA _
 cases bb
 ·go_enter Tryz.func99,Tryz.ntmps99
  go_wp2_with (first
   | (go_at_call 110;refine(HI.out _).mono ?_;rintro e w1 ⟨rfl,hw⟩;subst w1)
   | (go_at_call 111;refine(HRI.out _ (RRow.below HR0.out (aA _))).mono ?_;rintro e w2 ⟨rfl,hb2⟩;have HB2:Hid (Below w.heap.size w w2):=(aA _).trans (hb2.mono (by simp));obtain⟨hc2,hf2⟩:=jQ hb2;have hz2:w.heap.size < w2.heap.size:=(by(have:=hb2.size;simp at this;omega))))
  go_ret
  refine⟨cN ?_,by first | exact HZ.out _ | exact HB2.out⟩
  rw[<-HC.out,HD.out,if_neg]
  simp
  try omega
 ·by_cases h1:span < 1
  ·go_enter Tryz.func99,Tryz.ntmps99
   go_wp2_with (first
    | (go_at_call 110;refine(HI.out _).mono ?_;rintro e w1 ⟨rfl,hw⟩;subst w1)
    | (go_at_call 111;refine(HRI.out _ (RRow.below HR0.out (aA _))).mono ?_;rintro e w2 ⟨rfl,hb2⟩;have HB2:Hid (Below w.heap.size w w2):=(aA _).trans (hb2.mono (by simp));obtain⟨hc2,hf2⟩:=jQ hb2;have hz2:w.heap.size < w2.heap.size:=(by(have:=hb2.size;simp at this;omega))))
   go_ret
   refine⟨cN ?_,by first | exact HZ.out _ | exact HB2.out⟩
   rw[<-HC.out,HD.out,if_neg]
   simp
   try omega
  ·by_cases h2:100 < span
   ·go_enter Tryz.func99,Tryz.ntmps99
    go_wp2_with (first
     | (go_at_call 110;refine(HI.out _).mono ?_;rintro e w1 ⟨rfl,hw⟩;subst w1)
     | (go_at_call 111;refine(HRI.out _ (RRow.below HR0.out (aA _))).mono ?_;rintro e w2 ⟨rfl,hb2⟩;have HB2:Hid (Below w.heap.size w w2):=(aA _).trans (hb2.mono (by simp));obtain⟨hc2,hf2⟩:=jQ hb2;have hz2:w.heap.size < w2.heap.size:=(by(have:=hb2.size;simp at this;omega))))
    go_ret
    refine⟨cN ?_,by first | exact HZ.out _ | exact HB2.out⟩
    rw[<-HC.out,HD.out,if_neg]
    simp
    try omega
   ·by_cases h3:prod < 0
    ·go_enter Tryz.func99,Tryz.ntmps99
     go_wp2_with (first
      | (go_at_call 110;refine(HI.out _).mono ?_;rintro e w1 ⟨rfl,hw⟩;subst w1)
      | (go_at_call 111;refine(HRI.out _ (RRow.below HR0.out (aA _))).mono ?_;rintro e w2 ⟨rfl,hb2⟩;have HB2:Hid (Below w.heap.size w w2):=(aA _).trans (hb2.mono (by simp));obtain⟨hc2,hf2⟩:=jQ hb2;have hz2:w.heap.size < w2.heap.size:=(by(have:=hb2.size;simp at this;omega))))
     go_ret
     refine⟨cN ?_,by first | exact HZ.out _ | exact HB2.out⟩
     rw[<-HC.out,HD.out,if_neg]
     simp
     try omega
    ·by_cases h4:seq < 0
     ·go_enter Tryz.func99,Tryz.ntmps99
      go_wp2_with (first
       | (go_at_call 110;refine(HI.out _).mono ?_;rintro e w1 ⟨rfl,hw⟩;subst w1)
       | (go_at_call 111;refine(HRI.out _ (RRow.below HR0.out (aA _))).mono ?_;rintro e w2 ⟨rfl,hb2⟩;have HB2:Hid (Below w.heap.size w w2):=(aA _).trans (hb2.mono (by simp));obtain⟨hc2,hf2⟩:=jQ hb2;have hz2:w.heap.size < w2.heap.size:=(by(have:=hb2.size;simp at this;omega))))
      go_ret
      refine⟨cN ?_,by first | exact HZ.out _ | exact HB2.out⟩
      rw[<-HC.out,HD.out,if_neg]
      simp
      try omega
     ·by_cases h5:((rs.length:Int) == 0)=true
      ·go_enter Tryz.func99,Tryz.ntmps99
       go_wp2_with (first
        | (go_at_call 110;refine(HI.out _).mono ?_;rintro e w1 ⟨rfl,hw⟩;subst w1)
        | (go_at_call 111;refine(HRI.out _ (RRow.below HR0.out (aA _))).mono ?_;rintro e w2 ⟨rfl,hb2⟩;have HB2:Hid (Below w.heap.size w w2):=(aA _).trans (hb2.mono (by simp));obtain⟨hc2,hf2⟩:=jQ hb2;have hz2:w.heap.size < w2.heap.size:=(by(have:=hb2.size;simp at this;omega))))
       go_ret
       refine⟨cN ?_,by first | exact HZ.out _ | exact HB2.out⟩
       rw[<-HC.out,HD.out,if_neg]
       have:rs.length=0:=by simpa using h5
       simp[this]
      ·have h5':((rs.length:Int) == 0)=false:=by simpa using h5
       cases rb
       ·go_enter Tryz.func99,Tryz.ntmps99
        go_wp2_with (first
         | (go_at_call 110;refine(HI.out _).mono ?_;rintro e w1 ⟨rfl,hw⟩;subst w1)
         | (go_at_call 111;refine(HRI.out _ (RRow.below HR0.out (aA _))).mono ?_;rintro e w2 ⟨rfl,hb2⟩;have HB2:Hid (Below w.heap.size w w2):=(aA _).trans (hb2.mono (by simp));obtain⟨hc2,hf2⟩:=jQ hb2;have hz2:w.heap.size < w2.heap.size:=(by(have:=hb2.size;simp at this;omega))))
        go_ret
        refine⟨cN ?_,by first | exact HZ.out _ | exact HB2.out⟩
        rw[<-HC.out,HD.out,if_neg]
        simp
        try omega
       ·go_enter Tryz.func99,Tryz.ntmps99
        go_wp2_with (first
         | (go_at_call 110;refine(HI.out _).mono ?_;rintro e w1 ⟨rfl,hw⟩;subst w1)
         | (go_at_call 111;refine(HRI.out _ (RRow.below HR0.out (aA _))).mono ?_;rintro e w2 ⟨rfl,hb2⟩;have HB2:Hid (Below w.heap.size w w2):=(aA _).trans (hb2.mono (by simp));obtain⟨hc2,hf2⟩:=jQ hb2;have hz2:w.heap.size < w2.heap.size:=(by(have:=hb2.size;simp at this;omega))))
        have HT:Hid (c=fstE rs):=by
         show _=_
         rw[<-HC.out,HD.out,if_pos]
         simp at h5' ⊢
         have:=List.length_pos_iff.2 h5'
         omega
        clear HC HD
        go_loopw [36] (fun i wr=>∃(k:Nat),k<=rs.length/\i=.int .i64 k/\(∀x,x < k->chk (rs.getD x rz)=0)/\Below w.heap.size w wr) (fun i _=>rs.length - (intOf i).toNat)
        case atStart=>exact⟨0,by omega,rfl,by intro x hx;omega,HB2.out⟩
        case round=>
         obtain⟨k,hk,rfl,hS,hb⟩:=hrel
         have HS:Hid (∀x,x < k->chk (rs.getD x rz)=0):=hS
         clear hS
         by_cases hlt:k < rs.length
         ·have hltI:(k:Int) < (rs.length:Int):=by omega
          have HQ:Hid (chk (rs.getD k rz)=0->∀x,x < k+1->chk (rs.getD x rz)=0):=by
           intro e j hj
           by_cases hjk:j=k
           ·subst hjk;exact e
           ·exact HS.out j (by omega)
          have HN:Hid (chk (rs.getD k rz)≠0->c=chk (rs.getD k rz)):=fun h=>by rw[HT.out];exact sM rs k hlt HS.out h
          have HCK:Hid _:=check_any (rs.getD k rz)
          obtain⟨b,off,rfl,z0,z1,z2,z3,z4,z5⟩:=(RRow.below HR0.out hb) k hlt
          have hbz:=World.block_lt_of_cell? _ _ z0
          simp only at hbz
          have HBB:Hid (∀cs,Below w.heap.size w (wr.alloc (.cells cs 84))):=fun cs=>hb.alloc hb.size _
          have hz3:w.heap.size<=wr.heap.size:=hb.size
          clear hc2 hf2 hz2 hb2
          generalize rs.getD k rz=r at *
          obtain⟨c0,HC0⟩:∃c0,Hid (chk r=c0):=⟨_,rfl⟩
          rw[HC0.out] at HCK HQ HN
          obtain⟨hk',kk,hv,v,t,o⟩:=r
          simp only at z0 z1 z2 z3 z4 z5
          simp only[Rc.cells] at HCK
          by_cases h0:c0=0
          ·subst h0
           go_wp2_with (go_at_call 112;refine(HCK.out _).mono ?_;rintro e w4 ⟨rfl,hb4⟩;have HB4:Hid (Below w.heap.size w w4):=(HBB.out _).trans (hb4.mono (by simp;omega)))
           exact⟨⟨k+1,by omega,by go_num,HQ.out (by trivial),HB4.out⟩,by simp[intOf];omega⟩
          ·have h0':(c0 != 0)=true:=by rw[bne_iff_ne];exact h0
           go_wp2_with (go_at_call 112;refine(HCK.out _).mono ?_;rintro e w4 ⟨rfl,hb4⟩;have HB4:Hid (Below w.heap.size w w4):=(HBB.out _).trans (hb4.mono (by simp;omega)))
           go_ret
           exact⟨cN (HN.out (by simpa using h0')).symm,HB4.out⟩
         ·obtain rfl:k=rs.length:=by omega
          go_wp2_with fail
          go_ret
          exact⟨cN (by rw[HT.out,rH rs HS.out]),hb⟩
namespace P
def sh (c:Nat):Nat:=if c % 2=1 then c / 2 ^^^ 2197175160 else c / 2
def shN:Nat->Nat->Nat
 | 0,c=>c
 | n+1,c=>shN n (sh c)
def stp (c x:Nat):Nat:=shN 8 (c ^^^ x)
def reg (c:Nat) (l:List Nat):Nat:=l.foldl stp c
def ones:Nat:=4294967295
def more (c:Nat) (l:List Nat):Nat:=ones ^^^ reg (ones ^^^ c) l
def sum (l:List Nat):Nat:=more 0 l
theorem aBa (a b:Nat):(a ^^^ b) / 2=a / 2 ^^^ b / 2:=by
 have:=Nat.shiftRight_xor_distrib (a:=a) (b:=b) (i:=1)
 simpa [Nat.shiftRight_eq_div_pow] using this
theorem aD0 (a b:Nat):(a ^^^ b) % 2=(a % 2+b % 2) % 2:=by
 have:=Nat.testBit_xor a b 0
 simp only[Nat.testBit_zero] at this
 rcases Nat.mod_two_eq_zero_or_one a with h1 | h1<;>rcases Nat.mod_two_eq_zero_or_one b with h2 | h2<;>rcases Nat.mod_two_eq_zero_or_one (a ^^^ b) with h3 | h3<;>simp[h1,h2,h3] at this ⊢
theorem aG2 (a b:Nat):sh (a ^^^ b)=sh a ^^^ sh b:=by
 unfold sh
 rw[aBa,aD0]
 rcases Nat.mod_two_eq_zero_or_one a with h1 | h1<;>rcases Nat.mod_two_eq_zero_or_one b with h2 | h2<;>simp[h1,h2]
 ·rw[Nat.xor_assoc]
 ·rw[Nat.xor_assoc,Nat.xor_comm (b / 2),<-Nat.xor_assoc]
 ·rw[Nat.xor_assoc,Nat.xor_comm (b / 2),<-Nat.xor_assoc 2197175160,Nat.xor_self,Nat.zero_xor]
theorem sh_lt (c:Nat) (h:c < 4294967296):sh c < 4294967296:=by
 unfold sh
 split
 ·exact Nat.xor_lt_two_pow (n:=32) (by omega) (by omega)
 ·omega
theorem shN_xor (n a b:Nat):shN n (a ^^^ b)=shN n a ^^^ shN n b:=by
 induction n generalizing a b with
 | zero=>rfl
 | succ n ih=>simp[shN,aG2,ih]
theorem shN_lt (n c:Nat) (h:c < 4294967296):shN n c < 4294967296:=by
 induction n generalizing c with
 | zero=>exact h
 | succ n ih=>exact ih _ (sh_lt c h)
theorem shN_add (m n c:Nat):shN (m+n) c=shN n (shN m c):=by
 induction m generalizing c with
 | zero=>simp[shN]
 | succ m ih=>rw[Nat.succ_add];simp[shN,ih]
theorem aBp (y:Nat):sh (2 * y)=y:=by unfold sh;rw[if_neg (by omega)];omega
theorem shN_pow (n y:Nat):shN n (2 ^ n * y)=y:=by
 induction n generalizing y with
 | zero=>simp[shN]
 | succ n ih=>rw[shN,Nat.pow_succ,Nat.mul_comm (2 ^ n),Nat.mul_assoc,aBp,ih]
theorem stp_lt (c x:Nat) (h:c < 4294967296) (hx:x < 256):stp c x < 4294967296:=shN_lt _ _ (Nat.xor_lt_two_pow (n:=32) (by omega) (by omega))
theorem reg_lt (l:List Nat) (c:Nat) (h:c < 4294967296) (hl:∀x,x ∈ l->x < 256):reg c l < 4294967296:=by
 induction l generalizing c with
 | nil=>exact h
 | cons x r ih=>exact ih _ (stp_lt c x h (hl x (by simp))) (fun y hy=>hl y (by simp[hy]))
end P
def sm (f:Nat->Nat):Nat->Nat
 | 0=>0
 | n+1=>sm f n+f n * 256 ^ n
theorem qW (f:Nat->Nat) (hf:∀j,f j < 256) (n:Nat):sm f n < 256 ^ n:=by
 induction n with
 | zero=>simp[sm]
 | succ n ih=>
  have h1:f n * 256 ^ n<=255 * 256 ^ n:=Nat.mul_le_mul_right _ (by have:=hf n;omega)
  simp only[sm,Nat.pow_succ]
  omega
theorem kG (f g:Nat->Nat) (n:Nat) (h:∀j,j < n->f j=g j):sm f n=sm g n:=by
 induction n with
 | zero=>rfl
 | succ n ih=>simp only[sm];rw[ih (fun j hj=>h j (by omega)),h n (by omega)]
def plc (size:Nat) (big:Bool) (i:Nat):Nat:=if big then size - 1 - i else i
def getV (l:List Nat) (p size:Nat) (big:Bool):Nat:=sm (fun j=>l.getD (p+plc size big j) 0) size
def putL (l:List Nat) (p size:Nat) (big:Bool) (V:Nat):List Nat:=(List.range l.length).map fun i=>if p<=i/\i < p+size then V / 256 ^ plc size big (i - p) % 256 else l.getD i 0
theorem cT (l:List Nat) (p size:Nat) (big:Bool) (V:Nat):(putL l p size big V).length=l.length:=by simp[putL]
theorem iD (l:List Nat) (p size:Nat) (big:Bool) (V i:Nat) (h:i < l.length):(putL l p size big V).getD i 0=if p<=i/\i < p+size then V / 256 ^ plc size big (i - p) % 256 else l.getD i 0:=by
 simp[putL,List.getD,h]
theorem tX (l:List Nat) (p size:Nat) (big:Bool) (V:Nat) (h:∀i,l.getD i 0 < 256):∀i,(putL l p size big V).getD i 0 < 256:=by
 intro i
 by_cases hi:i < l.length
 ·rw[iD _ _ _ _ _ _ hi];split
  ·omega
  ·exact h i
 ·rw[hU _ _ (by rw[cT];omega)];omega
def lay (n V:Nat):List Nat:=(List.range n).map fun i=>V / 256 ^ (n - 1 - i) % 256
theorem aP (n V:Nat):(lay n V).length=n:=by simp[lay]
theorem pT (n V i:Nat) (h:i < n):(lay n V).getD i 0=V / 256 ^ (n - 1 - i) % 256:=by simp[lay,List.getD,h]
theorem pC (n V:Nat):∀x,x ∈ lay n V->x < 256:=by
 intro x hx
 simp only[lay,List.mem_map] at hx
 obtain⟨i,_,rfl⟩:=hx
 exact Nat.mod_lt _ (by decide)
theorem cQ (A B:List Nat) (i:Nat):(A++B).getD i 0=if i < A.length then A.getD i 0 else B.getD (i - A.length) 0:=by
 simp only[List.getD,List.getElem?_append]
 split<;>rfl
theorem pF (A B C:List Nat) (n V:Nat) (h:B.length=n):putL (A++(B++C)) A.length n true V=A++(lay n V++C):=by
 apply gQ
 ·rw[cT];simp[aP,h]
 ·intro i hi
  rw[cT] at hi
  rw[iD _ _ _ _ _ _ hi]
  by_cases h1:A.length<=i/\i < A.length+n
  ·rw[if_pos h1,cQ,if_neg (by omega),cQ,if_pos (by rw[aP];omega),pT _ _ _ (by omega)]
   simp only[plc,if_true]
  ·rw[if_neg h1,cQ A (B++C),cQ A (lay n V++C)]
   by_cases h2:i < A.length
   ·rw[if_pos h2,if_pos h2]
   ·rw[if_neg h2,if_neg h2,cQ B C,cQ (lay n V) C,if_neg (by omega),if_neg (by rw[aP];omega),aP,h]
theorem vT (V n:Nat):sm (fun j=>V / 256 ^ j % 256) n=V % 256 ^ n:=by
 induction n with
 | zero=>simp[sm,Nat.mod_one]
 | succ n ih=>rw[sm,ih,Nat.mod_pow_succ,Nat.mul_comm]
theorem tR (A C:List Nat) (n V:Nat):getV (A++(lay n V++C)) A.length n true=V % 256 ^ n:=by
 rw[<-vT]
 unfold getV
 apply kG
 intro j hj
 simp only[plc,if_true]
 rw[cQ,if_neg (by omega),cQ,if_pos (by rw[aP];omega),pT _ _ _ (by omega),show n - 1 - (A.length+(n - 1 - j) - A.length)=j by omega]
theorem xP (f:Nat->Nat) (hf:∀j,f j < 256) (n k:Nat) (hk:k < n):sm f n / 256 ^ k % 256=f k:=by
 induction n with
 | zero=>omega
 | succ n ih=>
  rw[sm]
  by_cases h:k < n
  ·have e:f n * 256 ^ n=256 ^ k * (256 * (f n * 256 ^ (n - k - 1))):=by
    have:(256:Nat) ^ n=256 ^ k * (256 * 256 ^ (n - k - 1)):=by
     rw[<-Nat.pow_succ',<-Nat.pow_add];congr 1;omega
    rw[this,Nat.mul_left_comm,Nat.mul_left_comm (f n)]
   rw[e,Nat.add_mul_div_left _ _ (Nat.pow_pos (by decide)),Nat.add_mul_mod_self_left]
   exact ih h
  ·obtain rfl:k=n:=by omega
   have:=qW f hf k
   rw[Nat.add_mul_div_right _ _ (Nat.pow_pos (by decide)),Nat.div_eq_of_lt this,Nat.zero_add,Nat.mod_eq_of_lt (hf k)]
theorem rW (l:List Nat) (p n:Nat) (hl:∀x,x ∈ l->x < 256) (h:p+n<=l.length):lay n (getV l p n true)=(l.drop p).take n:=by
 have hb:∀j,l.getD j 0 < 256:=by
  intro j
  by_cases hj:j < l.length
  ·simp only[List.getD,List.getElem?_eq_getElem hj,Option.getD_some]
   exact hl _ (List.getElem_mem hj)
  ·rw[hU _ _ (by omega)];omega
 apply gQ
 ·simp[aP];omega
 ·intro i hi
  rw[aP] at hi
  rw[pT _ _ _ hi]
  unfold getV
  rw[xP _ (fun j=>hb _) n _ (by omega)]
  simp only[plc,if_true,List.getD,List.getElem?_take,List.getElem?_drop,if_pos hi]
  rw[show p+(n - 1 - (n - 1 - i))=p+i by omega]
theorem dK (l:List Nat) (p n:Nat) (hl:∀j,l.getD j 0 < 256):getV l p n true < 256 ^ n:=qW _ (fun j=>hl _) n
def bodyL (rs:List Rc) (first:Int):List Nat:=(rs.map fun r=>encL r first).flatten
theorem eP (r:Rc) (rs:List Rc) (first:Int):bodyL (r::rs) first=encL r first++bodyL rs first:=rfl
theorem mA (first:Int):bodyL [] first=[]:=rfl
theorem mT (a b:List Rc) (first:Int):bodyL (a++b) first=bodyL a first++bodyL b first:=by simp[bodyL]
def frs (b:Ba):Int:=(b.rs.getD 0 rz).t
def midL (prod seq span cnt first:Nat):List Nat:=lay 8 prod++(lay 8 seq++(lay 4 span++(lay 4 cnt++lay 8 first)))
def tailL (b:Ba):List Nat:=midL b.prod.toNat b.seq.toNat b.span.toNat b.rs.length (frs b).toNat++bodyL b.rs (frs b)
def headL (base len sum:Nat):List Nat:=lay 8 base++(lay 4 len++lay 4 sum)
def encBL (b:Ba):List Nat:=headL b.base.toNat ((tailL b).length+4) (P.sum (tailL b))++tailL b
theorem kF (prod seq span cnt first:Nat):(midL prod seq span cnt first).length=32:=by simp[midL,aP]
theorem cU (base len sum:Nat):(headL base len sum).length=16:=by simp[headL,aP]
theorem fM (b:Ba):(tailL b).length=32+(bodyL b.rs (frs b)).length:=by rw[tailL,List.length_append,kF]
theorem iE (b:Ba):(encBL b).length=48+(bodyL b.rs (frs b)).length:=by rw[encBL,List.length_append,cU,fM];omega
def chkB (b:Ba):Int:=if wrE b=0 then (if 6000 < 48+(bodyL b.rs (frs b)).length then 2 else 0) else wrE b
def encBR (b:Ba):List Nat:=if chkB b=0 then encBL b else []
theorem eV {b:Ba} (h:wrE b=0):(0<=b.base/\b.base<=1125899906842624)/\(1<=b.span/\b.span<=100)/\0<=b.prod/\0<=b.seq/\0 < b.rs.length/\Rise b.rs b.span/\∀r,r ∈ b.rs->chk r=0:=by
 unfold wrE at h
 split at h
 ·rename_i hc
  simp only[numsB,baseB,Bool.and_eq_true,decide_eq_true_eq] at hc
  obtain⟨⟨⟨⟨⟨⟨h1,h2⟩,h3⟩,h4⟩,h5⟩,h6⟩,h7⟩:=hc
  exact⟨h1,⟨h2,h3⟩,h4,h5,h6,nG.1 h7,aEl h⟩
 ·omega
theorem getD_mem {rs:List Rc} {i:Nat} (h:i < rs.length):rs.getD i rz ∈ rs:=by
 simp only[List.getD,List.getElem?_eq_getElem h,Option.getD_some]
 exact List.getElem_mem h
theorem aCt {rs:List Rc} {span:Int} (h:Rise rs span) (hc:∀r,r ∈ rs->chk r=0):∀i,i < rs.length->(i:Int)<=(rs.getD i rz).o:=by
 intro i
 induction i with
 | zero=>
  intro hi
  have:=(dN (hc _ (getD_mem hi))).2.2.1
  omega
 | succ i ih=>
  intro hi
  have h1:=ih (by omega)
  have h2:=(h (i+1) hi).2 (by omega)
  simp only[Nat.add_sub_cancel] at h2
  omega
theorem iJ {b:Ba} (h:wrE b=0):b.rs.length<=100/\(b.rs.length:Int)<=b.span:=by
 obtain⟨_,⟨h1,h2⟩,_,_,h0,hr,hc⟩:=eV h
 have h3:=aCt hr hc (b.rs.length - 1) (by omega)
 have h4:=(hr (b.rs.length - 1) (by omega)).1
 omega
theorem eE {b:Ba} (h:wrE b=0):timeB (frs b)=true:=by
 obtain⟨_,_,_,_,h0,_,hc⟩:=eV h
 have:=dN (hc _ (getD_mem h0))
 exact(bZ _).2 ⟨this.1,this.2.1⟩
theorem iP {rs:List Rc} (first:Int) (hc:∀r,r ∈ rs->chk r=0):(bodyL rs first).length<=rs.length * 5000:=by
 induction rs with
 | nil=>simp[bodyL]
 | cons r t ih=>
  rw[eP,List.length_append,List.length_cons]
  have h1:=ih (fun q hq=>hc q (by simp[hq]))
  obtain⟨_,_,_,_,k1,v1,_⟩:=dN (hc r (by simp))
  have h2:=jT r first k1 v1
  omega
theorem bF {l:List Nat} (h:∀i,l.getD i 0 < 256):∀x,x ∈ l->x < 256:=by
 intro x hx
 obtain⟨i,hi,rfl⟩:=List.getElem_of_mem hx
 have:=h i
 simpa [List.getD,hi] using this
theorem cG {l:List Nat} (h:∀x,x ∈ l->x < 256):∀i,l.getD i 0 < 256:=by
 intro j
 by_cases hj:j < l.length
 ·simp only[List.getD,List.getElem?_eq_getElem hj,Option.getD_some]
  exact h _ (List.getElem_mem hj)
 ·rw[hU _ _ (by omega)];omega
theorem mP {rs:List Rc} {first:Int} (hf:timeB first=true) (hc:∀r,r ∈ rs->chk r=0):∀x,x ∈ bodyL rs first->x < 256:=by
 intro x hx
 simp only[bodyL,List.mem_flatten,List.mem_map] at hx
 obtain⟨l,⟨r,hr,rfl⟩,hx⟩:=hx
 exact bF (oR r first (hc r hr) hf) x hx
theorem fP {b:Ba} (h:wrE b=0):∀x,x ∈ encBL b->x < 256:=by
 intro x hx
 simp only[encBL,headL,tailL,midL,List.mem_append] at hx
 obtain⟨_,_,_,_,_,_,hc⟩:=eV h
 have hb:=mP (eE h) hc
 rcases hx with(hx | hx | hx) | (hx | hx | hx | hx | hx) | hx
 all_goals first | exact pC _ _ x hx | exact hb x hx
def rest (p:List Nat) (f:Int):Nat->List Nat
 | 0=>p
 | k+1=>(rest p f k).drop (decN (rest p f k) f)
def recs (p:List Nat) (f:Int) (n:Nat):List Rc:=(List.range n).map fun k=>rcOf (rest p f k) f
def AllOk (p:List Nat) (f:Int) (n:Nat):Prop:=∀k,k < n->okD (rest p f k) f=true
theorem cW (p:List Nat) (f:Int) (n:Nat):(recs p f n).length=n:=by simp[recs]
theorem gF (p:List Nat) (f:Int) (n:Nat):recs p f (n+1)=recs p f n++[rcOf (rest p f n) f]:=by simp[recs,List.range_succ]
theorem qL {p:List Nat} (f:Int) (n:Nat) (h:∀x,x ∈ p->x < 256):∀x,x ∈ rest p f n->x < 256:=by
 induction n with
 | zero=>exact h
 | succ n ih=>intro x hx;exact ih x (List.mem_of_mem_drop hx)
theorem mK {p:List Nat} {f:Int} (h:∀x,x ∈ p->x < 256) (n:Nat) (hok:AllOk p f n):p=bodyL (recs p f n) f++rest p f n/\∀r,r ∈ recs p f n->chk r=0:=by
 induction n with
 | zero=>exact⟨rfl,fun r hr=>by simp[recs] at hr⟩
 | succ n ih=>
  obtain⟨e,hc⟩:=ih (fun k hk=>hok k (by omega))
  obtain⟨d1,d2,d3⟩:=nT (qL f n h) (hok n (by omega))
  refine⟨?_,fun r hr=>?_⟩
  ·rw[gF,mT,List.append_assoc]
   show p=bodyL (recs p f n) f++(bodyL [rcOf (rest p f n) f] f++(rest p f n).drop (decN (rest p f n) f))
   rw[eP,mA,List.append_nil,<-d1]
   exact e
  ·rw[gF,List.mem_append,List.mem_singleton] at hr
   rcases hr with hr | rfl
   ·exact hc r hr
   ·exact d2
theorem nW {rs:List Rc} {f:Int} (t:List Nat) (hf:timeB f=true) (hc:∀r,r ∈ rs->chk r=0):∀k,k<=rs.length->rest (bodyL rs f++t) f k=bodyL (rs.drop k) f++t:=by
 intro k
 induction k with
 | zero=>intro _;rfl
 | succ k ih=>
  intro hk
  have e:=ih (by omega)
  have hd:rs.drop k=rs[k]::rs.drop (k+1):=List.drop_eq_getElem_cons (by omega)
  obtain⟨b0,b1,b2,b3⟩:=qM rs[k] f (bodyL (rs.drop (k+1)) f++t) (hc _ (List.getElem_mem _)) hf
  have e2:rest (bodyL rs f++t) f k=encL rs[k] f++(bodyL (rs.drop (k+1)) f++t):=by rw[e,hd,eP,List.append_assoc]
  show(rest (bodyL rs f++t) f k).drop (decN (rest (bodyL rs f++t) f k) f)=_
  rw[e2,b2,List.drop_left]
theorem aB5 {rs:List Rc} {f:Int} (t:List Nat) (hf:timeB f=true) (hc:∀r,r ∈ rs->chk r=0):AllOk (bodyL rs f++t) f rs.length/\recs (bodyL rs f++t) f rs.length=rs/\rest (bodyL rs f++t) f rs.length=t:=by
 have hk:∀k,(h:k < rs.length)->okD (rest (bodyL rs f++t) f k) f=true/\rcOf (rest (bodyL rs f++t) f k) f=rs[k]:=by
  intro k h
  have hd:rs.drop k=rs[k]::rs.drop (k+1):=List.drop_eq_getElem_cons (by omega)
  obtain⟨b0,b1,b2,b3⟩:=qM rs[k] f (bodyL (rs.drop (k+1)) f++t) (hc _ (List.getElem_mem _)) hf
  rw[nW t hf hc k (by omega),hd,eP,List.append_assoc]
  unfold decR at b1
  rw[if_pos b0] at b1
  exact⟨b0,b1⟩
 refine⟨fun k h=>(hk k h).1,?_,?_⟩
 ·apply List.ext_getElem
  ·simp[recs]
  ·intro i h1 h2
   simp only[recs,List.getElem_map,List.getElem_range]
   exact(hk i h2).2
 ·rw[nW t hf hc _ (Nat.le_refl _)]
  simp[bodyL]
def lenN (p:List Nat):Nat:=12+getV p 8 4 true
def frsOf (p:List Nat):Int:=wrap64 (getV p 40 8 true)
def cntOf (p:List Nat):Nat:=getV p 36 4 true
def partOf (p:List Nat):List Nat:=(p.take (lenN p)).drop 48
def bOf (p:List Nat):Ba:=⟨wrap64 (getV p 0 8 true),getV p 32 4 true,wrap64 (getV p 16 8 true),wrap64 (getV p 24 8 true),recs (partOf p) (frsOf p) (cntOf p)⟩
structure OkB (p:List Nat):Prop where
 l48:48<=p.length
 n48:48<=lenN p
 nl:lenN p<=p.length
 nm:lenN p<=6000
 sum:P.sum ((p.take (lenN p)).drop 16)=getV p 12 4 true
 all:AllOk (partOf p) (frsOf p) (cntOf p)
 fin:rest (partOf p) (frsOf p) (cntOf p)=[]
 wr:wrE (bOf p)=0
 fst:frs (bOf p)=frsOf p
theorem aAr (p:List Nat) (i n N:Nat) (h:i+n<=N):(p.take N).drop i=(p.drop i).take n++(p.take N).drop (i+n):=by
 rw[<-List.take_append_drop n ((p.take N).drop i),List.drop_drop,List.drop_take,List.take_take,Nat.min_eq_left (by omega)]
theorem iK {p:List Nat} (hp:∀x,x ∈ p->x < 256) (i n N:Nat) (h:i+n<=N) (hN:N<=p.length):(p.take N).drop i=lay n (getV p i n true)++(p.take N).drop (i+n):=by
 rw[rW p i n hp (by omega)]
 exact aAr p i n N h
theorem jS {V:Nat} (h:V < 18446744073709551616) (h0:0<=wrap64 V):(wrap64 V).toNat=V:=by
 unfold wrap64 at h0 ⊢
 omega
theorem xU {N x:Nat} (h:N=12+x) (h2:48<=N):N - 16+4=x:=by omega
theorem lW {p:List Nat} (hp:∀x,x ∈ p->x < 256) (h:OkB p):p.take (lenN p)=encBL (bOf p)/\chkB (bOf p)=0/\(encBL (bOf p)).length=lenN p:=by
 obtain⟨l48,n48,nl,nm,hs,all,fin,wr,hf⟩:=h
 obtain⟨⟨b0,b1⟩,⟨s0,s1⟩,q0,q1,r0,hri,hc⟩:=eV wr
 have hV:∀i,getV p i 8 true < 18446744073709551616:=fun i=>by
  exact Nat.lt_of_lt_of_le (dK p i 8 (cG hp)) (by decide)
 have hpart:partOf p=bodyL (bOf p).rs (frs (bOf p)):=by
  have:=(mK (p:=partOf p) (f:=frsOf p) (fun x hx=>hp x (List.mem_of_mem_take (List.mem_of_mem_drop hx))) (cntOf p) all).1
  rw[fin,List.append_nil] at this
  rw[hf]
  exact this
 have hb1:(bOf p).base=wrap64 ((getV p 0 8 true:Nat):Int):=rfl
 have hb2:(bOf p).prod=wrap64 ((getV p 16 8 true:Nat):Int):=rfl
 have hb3:(bOf p).seq=wrap64 ((getV p 24 8 true:Nat):Int):=rfl
 have hb4:(bOf p).span=((getV p 32 4 true:Nat):Int):=rfl
 have hb5:(bOf p).rs.length=getV p 36 4 true:=cW (partOf p) (frsOf p) (cntOf p)
 have hb6:frsOf p=wrap64 ((getV p 40 8 true:Nat):Int):=rfl
 have hln:lenN p=12+getV p 8 4 true:=rfl
 have hV0:=hV 0
 have hV1:=hV 16
 have hV2:=hV 24
 have hV3:=hV 40
 have htm:=(bZ _).1 (eE wr)
 have hl0:=iK hp 0 8 _ (Nat.le_trans (show 0+8<=48 by decide) n48) nl
 have hl1:=iK hp 8 4 _ (Nat.le_trans (show 8+4<=48 by decide) n48) nl
 have hl2:=iK hp 12 4 _ (Nat.le_trans (show 12+4<=48 by decide) n48) nl
 have hl3:=iK hp 16 8 _ (Nat.le_trans (show 16+8<=48 by decide) n48) nl
 have hl4:=iK hp 24 8 _ (Nat.le_trans (show 24+8<=48 by decide) n48) nl
 have hl5:=iK hp 32 4 _ (Nat.le_trans (show 32+4<=48 by decide) n48) nl
 have hl6:=iK hp 36 4 _ (Nat.le_trans (show 36+4<=48 by decide) n48) nl
 have hl7:=iK hp 40 8 _ (Nat.le_trans (show 40+8<=48 by decide) n48) nl
 clear hV
 generalize getV p 0 8 true=x0 at *
 generalize getV p 8 4 true=x1 at *
 generalize getV p 12 4 true=x2 at *
 generalize getV p 16 8 true=x3 at *
 generalize getV p 24 8 true=x4 at *
 generalize getV p 32 4 true=x5 at *
 generalize getV p 36 4 true=x6 at *
 generalize getV p 40 8 true=x7 at *
 have e1:(bOf p).base.toNat=x0:=by rw[hb1] at b0 ⊢;exact jS hV0 b0
 have e2:(bOf p).prod.toNat=x3:=by rw[hb2] at q0 ⊢;exact jS hV1 q0
 have e3:(bOf p).seq.toNat=x4:=by rw[hb3] at q1 ⊢;exact jS hV2 q1
 have e4:(bOf p).span.toNat=x5:=by rw[hb4];simp
 have e6:(frs (bOf p)).toNat=x7:=by
  rw[hf,hb6] at htm ⊢
  exact jS hV3 htm.1
 have hN:(p.take (lenN p)).length=lenN p:=by rw[List.length_take];exact Nat.min_eq_left nl
 have ht:(p.take (lenN p)).drop 16=tailL (bOf p):=by
  rw[hl3,hl4,hl5,hl6,hl7]
  unfold tailL midL
  rw[e2,e3,e4,hb5,e6,<-hpart]
  simp only[partOf,List.append_assoc]
 have hl:(tailL (bOf p)).length+4=x1:=by
  rw[<-ht,List.length_drop,hN]
  exact xU hln n48
 have key:p.take (lenN p)=encBL (bOf p):=by
  have h0:p.take (lenN p)=(p.take (lenN p)).drop 0:=List.drop_zero.symm
  rw[h0,hl0,hl1,hl2]
  unfold encBL headL
  rw[e1,hl,<-ht,hs]
  simp only[List.append_assoc]
 have hle:(encBL (bOf p)).length=lenN p:=by rw[<-key,hN]
 refine⟨key,?_,hle⟩
 unfold chkB
 rw[if_pos wr,<-iE,hle,if_neg (Nat.not_lt.2 nm)]
theorem sum_lt (l:List Nat) (hl:∀x,x ∈ l->x < 256):P.sum l < 4294967296:=by
 unfold P.sum P.more
 exact Nat.xor_lt_two_pow (n:=32) (by decide) (P.reg_lt l _ (Nat.xor_lt_two_pow (n:=32) (by decide) (by decide)) hl)
theorem dD {b:Ba} (h:chkB b=0):wrE b=0/\48+(bodyL b.rs (frs b)).length<=6000:=by
 unfold chkB at h
 split at h
 ·rename_i hw
  split at h
  ·omega
  ·exact⟨hw,by omega⟩
 ·rename_i hw
  exact absurd h hw
structure Nums (p:List Nat) (b:Ba):Prop where
 base:getV p 0 8 true=b.base.toNat
 len:getV p 8 4 true=(tailL b).length+4
 sum:getV p 12 4 true=P.sum (tailL b)
 prod:getV p 16 8 true=b.prod.toNat
 seq:getV p 24 8 true=b.seq.toNat
 span:getV p 32 4 true=b.span.toNat
 cnt:getV p 36 4 true=b.rs.length
 first:getV p 40 8 true=(frs b).toNat
def In64B (b:Ba):Prop:=b.prod<=9223372036854775807/\b.seq<=9223372036854775807
theorem aCg {b:Ba} (t:List Nat) (h:wrE b=0) (hi:In64B b):Nums (encBL b++t) b:=by
 obtain⟨⟨b0,b1⟩,⟨s0,s1⟩,q0,q1,r0,hri,hc⟩:=eV h
 have hft:=(bZ _).1 (eE h)
 have hln:=iJ h
 have hbl:=iP (frs b) hc
 have htl:=fM b
 have hsu:=sum_lt (tailL b) (fun x hx=>fP h x (by unfold encBL;exact List.mem_append_right _ hx))
 obtain⟨i0,i1⟩:=hi
 have e:encBL b++t=lay 8 b.base.toNat++(lay 4 ((tailL b).length+4)++(lay 4 (P.sum (tailL b))++(lay 8 b.prod.toNat++(lay 8 b.seq.toNat++(lay 4 b.span.toNat++(lay 4 b.rs.length++(lay 8 (frs b).toNat++(bodyL b.rs (frs b)++t)))))))):=by
  simp[encBL,headL,tailL,midL]
 have g:∀(A C:List Nat) (i n V:Nat),encBL b++t=A++(lay n V++C)->A.length=i->V < 256 ^ n->getV (encBL b++t) i n true=V:=by
  intro A C i n V he hA hV
  rw[he,<-hA,tR,Nat.mod_eq_of_lt hV]
 refine⟨g [] _ 0 8 _ e rfl (by omega),g (lay 8 b.base.toNat) _ 8 4 _ e (aP _ _) (by omega),g (lay 8 b.base.toNat++lay 4 ((tailL b).length+4)) _ 12 4 _ (by rw[e,List.append_assoc]) (by simp[aP]) (by omega),?_,?_,?_,?_,?_⟩
 ·exact g (headL b.base.toNat ((tailL b).length+4) (P.sum (tailL b))) (lay 8 b.seq.toNat++(lay 4 b.span.toNat++(lay 4 b.rs.length++(lay 8 (frs b).toNat++(bodyL b.rs (frs b)++t))))) 16 8 _ (by rw[e];simp[headL]) (cU _ _ _) (by omega)
 ·exact g (headL b.base.toNat ((tailL b).length+4) (P.sum (tailL b))++lay 8 b.prod.toNat) (lay 4 b.span.toNat++(lay 4 b.rs.length++(lay 8 (frs b).toNat++(bodyL b.rs (frs b)++t)))) 24 8 _ (by rw[e];simp[headL]) (by simp[cU,aP]) (by omega)
 ·exact g (headL b.base.toNat ((tailL b).length+4) (P.sum (tailL b))++(lay 8 b.prod.toNat++lay 8 b.seq.toNat)) (lay 4 b.rs.length++(lay 8 (frs b).toNat++(bodyL b.rs (frs b)++t))) 32 4 _ (by rw[e];simp[headL]) (by simp[cU,aP]) (by omega)
 ·exact g (headL b.base.toNat ((tailL b).length+4) (P.sum (tailL b))++(lay 8 b.prod.toNat++(lay 8 b.seq.toNat++lay 4 b.span.toNat))) (lay 8 (frs b).toNat++(bodyL b.rs (frs b)++t)) 36 4 _ (by rw[e];simp[headL]) (by simp[cU,aP]) (by omega)
 ·exact g (headL b.base.toNat ((tailL b).length+4) (P.sum (tailL b))++(lay 8 b.prod.toNat++(lay 8 b.seq.toNat++(lay 4 b.span.toNat++lay 4 b.rs.length)))) (bodyL b.rs (frs b)++t) 40 8 _ (by rw[e];simp[headL]) (by simp[cU,aP]) (by omega)
theorem jU {b:Ba} (t:List Nat) (h:chkB b=0) (hi:In64B b):OkB (encBL b++t)/\bOf (encBL b++t)=b/\lenN (encBL b++t)=(encBL b).length:=by
 obtain⟨hw,h6⟩:=dD h
 obtain⟨⟨b0,b1⟩,⟨s0,s1⟩,q0,q1,r0,hri,hc⟩:=eV hw
 have hft:=(bZ _).1 (eE hw)
 obtain⟨n1,n2,n3,n4,n5,n6,n7,n8⟩:=aCg t hw hi
 have hle:=iE b
 have htl:=fM b
 obtain⟨i0,i1⟩:=hi
 have hN:lenN (encBL b++t)=(encBL b).length:=by unfold lenN;rw[n2];omega
 have hT:(encBL b++t).take (lenN (encBL b++t))=encBL b:=by rw[hN,List.take_left]
 have hP:partOf (encBL b++t)=bodyL b.rs (frs b):=by
  unfold partOf
  rw[hT]
  have e:encBL b=(headL b.base.toNat ((tailL b).length+4) (P.sum (tailL b))++midL b.prod.toNat b.seq.toNat b.span.toNat b.rs.length (frs b).toNat)++bodyL b.rs (frs b):=by
   simp[encBL,tailL]
  rw[e]
  exact List.drop_left' (by rw[List.length_append,cU,kF])
 have hF:frsOf (encBL b++t)=frs b:=by
  unfold frsOf
  rw[n8,w64 _ (by omega) (by omega)]
  omega
 have hC:cntOf (encBL b++t)=b.rs.length:=n7
 obtain⟨o1,o2,o3⟩:=aB5 (rs:=b.rs) (f:=frs b) [] (eE hw) hc
 rw[List.append_nil] at o1 o2 o3
 have hB:bOf (encBL b++t)=b:=by
  unfold bOf
  rw[hP,hF,hC,o2,n1,n4,n5,n6,w64 _ (by omega) (by omega),w64 _ (by omega) (by omega),w64 _ (by omega) (by omega)]
  obtain⟨base,span,prod,seq,rs⟩:=b
  simp only[Ba.mk.injEq,and_true] at *
  omega
 refine⟨⟨by rw[List.length_append];omega,by omega,by rw[hN,List.length_append];omega,by omega,?_,by rw[hP,hF,hC];exact o1,by rw[hP,hF,hC];exact o3,by rw[hB];exact hw,by rw[hB,hF]⟩,hB,hN⟩
 rw[hT,n3]
 have e:(encBL b).drop 16=tailL b:=by
  unfold encBL
  exact List.drop_left' (cU _ _ _)
 rw[e]
abbrev Ls:=Option (List Nat)
def oa:Ls->Ls->Ls
 | some x,some y=>some (x++y)
 | _,_=>none
theorem cB {a b:Ls} {L:List Nat} (h:oa a b=some L):∃x y,a=some x/\b=some y/\L=x++y:=by
 cases a with
 | none=>simp[oa] at h
 | some x=>
  cases b with
  | none=>simp[oa] at h
  | some y=>simp[oa] at h;exact⟨x,y,rfl,rfl,h.symm⟩
theorem iZ (a:Ls):oa a none=none:=by cases a<;>rfl
theorem fV (a:Ls):oa none a=none:=rfl
theorem iH (a:Ls):oa a (some [])=a:=by cases a<;>simp[oa]
theorem sS (a:Ls):oa (some []) a=a:=by cases a<;>simp[oa]
theorem eB (a b c:Ls):oa (oa a b) c=oa a (oa b c):=by
 cases a<;>cases b<;>cases c<;>simp[oa]
def Byt (l:List Nat):Prop:=∀c,c ∈ l->c < 256
theorem Byt.left {a b:List Nat} (h:Byt (a++b)):Byt a:=fun c hc=>h c (List.mem_append_left _ hc)
theorem Byt.right {a b:List Nat} (h:Byt (a++b)):Byt b:=fun c hc=>h c (List.mem_append_right _ hc)
theorem Byt.app {a b:List Nat} (h:Byt a) (k:Byt b):Byt (a++b):=fun c hc=>by
 rcases List.mem_append.1 hc with q | q
 ·exact h c q
 ·exact k c q
theorem Byt.drop {a:List Nat} (h:Byt a) (n:Nat):Byt (a.drop n):=fun c hc=>h c (List.mem_of_mem_drop hc)
theorem Byt.getD {a:List Nat} (h:Byt a):∀i,a.getD i 0 < 256:=cG h
structure Pr {α:Type} (V:α->Prop) (en:α->Ls) (pa:Ls->α × Ls):Prop where
 back:∀x L t,V x->en x=some L->pa (some (L++t))=(x,some t)
 once:∀l x t,Byt l->pa (some l)=(x,some t)->V x/\∃L,en x=some L/\l=L++t
 bad:(pa none).2=none
def gN (n:Nat):Ls->Nat × Ls
 | some l=>if n<=l.length then (getV l 0 n true,some (l.drop n)) else (0,none)
 | none=>(0,none)
def eNat (n:Nat) (v:Int):Ls:=if 0<=v/\v < ((256 ^ n:Nat):Int) then some (lay n v.toNat) else none
def gNat (n:Nat) (s:Ls):Int × Ls:=(((gN n s).1:Nat),(gN n s).2)
theorem nB (n V:Nat) (t:List Nat) (h:V < 256 ^ n):gN n (some (lay n V++t))=(V,some t):=by
 unfold gN
 have h1:=tR [] t n V
 rw[List.nil_append] at h1
 simp only[List.length_append,aP,Nat.le_add_right,if_true,List.length_nil] at h1 ⊢
 rw[h1,Nat.mod_eq_of_lt h,List.drop_left' (aP n V)]
theorem jV {n:Nat} {l:List Nat} {v:Nat} {t:List Nat} (hl:Byt l) (h:gN n (some l)=(v,some t)):l=lay n v++t/\v < 256 ^ n:=by
 unfold gN at h
 simp only at h
 split at h
 ·rename_i hn
  simp only[Prod.mk.injEq,Option.some.injEq] at h
  obtain⟨rfl,rfl⟩:=h
  refine⟨?_,dK l 0 n hl.getD⟩
  rw[rW l 0 n hl (by omega),List.drop_zero,List.take_append_drop]
 ·simp at h
theorem mZ (n:Nat):Pr (fun _=>True) (eNat n) (gNat n):=by
 refine⟨fun x L t _ h=>?_,fun l x t hl h=>?_,rfl⟩
 ·unfold eNat at h
  split at h
  ·rename_i hx
   simp only[Option.some.injEq] at h
   subst h
   have hv:x.toNat < 256 ^ n:=by omega
   unfold gNat
   rw[nB n _ t hv]
   simp only[Prod.mk.injEq,and_true]
   omega
  ·simp at h
 ·unfold gNat at h
  simp only[Prod.mk.injEq] at h
  obtain⟨rfl,h2⟩:=h
  obtain⟨e,hv⟩:=jV (v:=(gN n (some l)).1) (t:=t) hl (by rw[<-h2])
  refine⟨trivial,lay n (gN n (some l)).1,?_,e⟩
  unfold eNat
  rw[if_pos ⟨by omega,by omega⟩,Int.toNat_natCast]
def un (v:Int):Nat:=(v % 18446744073709551616).toNat
def iv (u:Nat):Int:=if u < 9223372036854775808 then (u:Int) else (u:Int) - 18446744073709551616
def In64 (v:Int):Prop:=-9223372036854775808<=v/\v<=9223372036854775807
theorem aE4 (v:Int):un v < 18446744073709551616:=by unfold un;omega
theorem aHt {v:Int} (h:In64 v):iv (un v)=v:=by
 obtain⟨h1,h2⟩:=h
 unfold iv un
 split<;>omega
theorem aHc {u:Nat} (h:u < 18446744073709551616):un (iv u)=u/\In64 (iv u):=by
 unfold iv un In64
 split<;>omega
def eInt (v:Int):List Nat:=lay 8 (un v)
def gI (s:Ls):Int × Ls:=(iv (gN 8 s).1,(gN 8 s).2)
theorem pr_int:Pr In64 (fun v=>some (eInt v)) gI:=by
 refine⟨fun x L t hx h=>?_,fun l x t hl h=>?_,rfl⟩
 ·simp only[Option.some.injEq] at h
  subst h
  unfold gI eInt
  rw[nB 8 _ t (aE4 x)]
  simp only[aHt hx]
 ·unfold gI at h
  simp only[Prod.mk.injEq] at h
  obtain⟨rfl,h2⟩:=h
  obtain⟨e,hv⟩:=jV (v:=(gN 8 (some l)).1) (t:=t) hl (by rw[<-h2])
  obtain⟨q1,q2⟩:=aHc (show(gN 8 (some l)).1 < 18446744073709551616 from hv)
  refine⟨q2,_,rfl,?_⟩
  unfold eInt
  rw[q1]
  exact e
def eText (s:ByteArray):Ls:=if s.size<=65535 then some (lay 2 s.size++sb s) else none
def gB:Nat × Ls->ByteArray × Ls
 | (n,some l)=>if n<=l.length then (strN (l.take n),some (l.drop n)) else (⟨#[]⟩,none)
 | (_,none)=>(⟨#[]⟩,none)
def gT (s:Ls):ByteArray × Ls:=gB (gN 2 s)
theorem aF3 (s:ByteArray):Byt (sb s):=fun c hc=>by
 simp only[sb,List.mem_map] at hc
 obtain⟨x,_,rfl⟩:=hc
 exact x.toNat_lt
theorem pr_text:Pr (fun _=>True) eText gT:=by
 refine⟨fun x L t _ h=>?_,fun l x t hl h=>?_,rfl⟩
 ·unfold eText at h
  split at h
  ·rename_i hx
   simp only[Option.some.injEq] at h
   subst h
   unfold gT
   rw[List.append_assoc,nB 2 x.size _ (by omega)]
   unfold gB
   simp only
   rw[if_pos (by rw[List.length_append,dO];omega),List.take_left' (dO x),List.drop_left' (dO x),lX]
  ·simp at h
 ·unfold gT at h
  cases hg:gN 2 (some l) with
  | mk n s1=>
   rw[hg] at h
   cases s1 with
   | none=>simp[gB] at h
   | some l1=>
    obtain⟨e,hn⟩:=jV hl hg
    unfold gB at h
    simp only at h
    split at h
    ·rename_i hle
     simp only[Prod.mk.injEq,Option.some.injEq] at h
     obtain⟨rfl,rfl⟩:=h
     have hb:Byt l1:=by rw[e] at hl;exact hl.right
     have hs:sb (strN (l1.take n))=l1.take n:=tO _ (fun c hc=>hb c (List.mem_of_mem_take hc))
     have hz:(strN (l1.take n)).size=n:=by rw[<-dO,hs,List.length_take];omega
     refine⟨trivial,lay 2 n++l1.take n,?_,?_⟩
     ·unfold eText
      rw[hz,hs,if_pos (by omega)]
     ·rw[List.append_assoc,List.take_append_drop]
      exact e
    ·simp at h
def gUp (n most:Nat) (s:Ls):Nat × Ls:=if most < (gN n s).1 then (0,none) else gN n s
theorem uB (n most V:Nat) (t:List Nat) (h:V < 256 ^ n) (hm:V<=most):gUp n most (some (lay n V++t))=(V,some t):=by
 unfold gUp
 rw[nB n V t h]
 simp only
 rw[if_neg (by omega)]
theorem sD {n most:Nat} {l:List Nat} {v:Nat} {t:List Nat} (hl:Byt l) (h:gUp n most (some l)=(v,some t)):l=lay n v++t/\v < 256 ^ n/\v<=most:=by
 unfold gUp at h
 split at h
 ·simp at h
 ·rename_i hm
  obtain⟨a,b⟩:=jV hl h
  rw[h] at hm
  exact⟨a,b,by simp only at hm;omega⟩
theorem sG (n most:Nat):gUp n most none=(0,none):=by unfold gUp;simp[gN]
def gFlag (s:Ls):Int × Ls:=(((gUp 1 1 s).1:Nat),(gUp 1 1 s).2)
theorem aCh:Pr (fun v=>v=0∨v=1) (eNat 1) gFlag:=by
 refine⟨fun x L t hx h=>?_,fun l x t hl h=>?_,by unfold gFlag;rw[sG]⟩
 ·unfold eNat at h
  rw[if_pos (by omega)] at h
  simp only[Option.some.injEq] at h
  subst h
  unfold gFlag
  rw[uB 1 1 x.toNat t (by omega) (by omega)]
  simp only[Prod.mk.injEq,and_true]
  omega
 ·unfold gFlag at h
  simp only[Prod.mk.injEq] at h
  obtain⟨rfl,h2⟩:=h
  obtain⟨e,hv,hm⟩:=sD (v:=(gUp 1 1 (some l)).1) (t:=t) hl (by rw[<-h2])
  refine⟨by omega,lay 1 (gUp 1 1 (some l)).1,?_,e⟩
  unfold eNat
  rw[if_pos ⟨by omega,by omega⟩,Int.toNat_natCast]
def eIf (c:Bool) (s:ByteArray):Ls:=if c then eText s else some []
def okR (r:Rc):Bool:=decide (r.o=0) && (r.hk || decide (r.k.size=0)) && (r.hv || decide (r.v.size=0))
def eRec (r:Rc):Ls:=if okR r=true then oa (some (lay 1 (headB r.hk r.hv))) (oa (eIf r.hk r.k) (oa (eIf r.hv r.v) (some (eInt r.t)))) else none
def gIf (c:Bool) (s:Ls):ByteArray × Ls:=if c then gT s else (⟨#[]⟩,s)
def gRec (s:Ls):Rc × Ls:=
 let m:=gUp 1 3 s
 let k:=gIf (m.1 % 2 == 1) m.2
 let v:=gIf (m.1 / 2 == 1) k.2
 let t:=gI v.2
 (⟨m.1 % 2 == 1,k.1,m.1 / 2 == 1,v.1,t.1,0⟩,t.2)
theorem nY {s:ByteArray} (h:s.size=0):s=⟨#[]⟩:=by
 have h1:sb s=[]:=List.eq_nil_of_length_eq_zero (by rw[dO,h])
 rw[<-lX s,h1]
 exact zV
theorem oH:(⟨#[]⟩:ByteArray).size=0:=rfl
theorem rA (c:Bool) (s:ByteArray) (L t:List Nat) (h:eIf c s=some L) (h0:(c || decide (s.size=0))=true):gIf c (some (L++t))=(s,some t):=by
 unfold eIf at h
 unfold gIf
 cases c with
 | true=>simp only[if_true] at h ⊢;exact pr_text.back s L t trivial h
 | false=>
  simp only[Bool.false_or,decide_eq_true_eq] at h0
  simp only[Bool.false_eq_true,if_false,Option.some.injEq] at h
  subst h
  rw[nY h0];simp
theorem qZ {c:Bool} {l:List Nat} {s:ByteArray} {t:List Nat} (hl:Byt l) (h:gIf c (some l)=(s,some t)):(c || decide (s.size=0))=true/\∃L,eIf c s=some L/\l=L++t:=by
 unfold gIf at h
 unfold eIf
 cases c with
 | true=>
  simp only[if_true] at h ⊢
  exact⟨rfl,(pr_text.once l s t hl h).2⟩
 | false=>
  simp at h
  obtain⟨rfl,rfl⟩:=h
  exact⟨by simp[oH],[],by simp,by simp⟩
theorem jO (c:Bool):(gIf c none).2=none:=by cases c<;>rfl
theorem kU (hk hv:Bool):(headB hk hv % 2 == 1)=hk/\(headB hk hv / 2 == 1)=hv/\headB hk hv<=3:=by
 cases hk<;>cases hv<;>decide
theorem oS:(gI none).2=none:=rfl
theorem pr_rec:Pr (fun r=>In64 r.t) eRec gRec:=by
 refine⟨fun r L t hr h=>?_,fun l r t hl h=>?_,?_⟩
 ·unfold eRec at h
  split at h
  ·rename_i hok
   simp only[okR,Bool.and_eq_true,decide_eq_true_eq] at hok
   obtain⟨⟨h0,h1⟩,h2⟩:=hok
   obtain⟨a,r1,ea,k1,rfl⟩:=cB h
   obtain⟨b,r2,eb,k2,rfl⟩:=cB k1
   obtain⟨c,d,ec,ed,rfl⟩:=cB k2
   simp only[Option.some.injEq] at ea ed
   subst ea
   obtain⟨p1,p2,p3⟩:=kU r.hk r.hv
   unfold gRec
   simp only[List.append_assoc]
   rw[uB 1 3 _ _ (by omega) p3]
   simp only[p1,p2]
   rw[rA r.hk r.k b _ eb (by simpa using h1)]
   simp only
   rw[rA r.hv r.v c _ ec (by simpa using h2)]
   simp only
   rw[pr_int.back r.t d t hr (by rw[ed])]
   obtain⟨hk,k,hv,v,tt,o⟩:=r
   simp only at h0
   rw[h0]
  ·simp at h
 ·unfold gRec at h
  simp only[Prod.mk.injEq] at h
  obtain⟨hr,h⟩:=h
  cases hm:gUp 1 3 (some l) with
  | mk m s1=>
   rw[hm] at h hr
   simp only at h hr
   cases s1 with
   | none=>
    have h1:=jO (m % 2 == 1)
    rw[h1] at h
    rw[jO] at h
    simp[oS] at h
   | some l1=>
    obtain⟨e1,hv1,hm3⟩:=sD hl hm
    have hl1:Byt l1:=by rw[e1] at hl;exact hl.right
    cases hk:gIf (m % 2 == 1) (some l1) with
    | mk k s2=>
     rw[hk] at h hr
     simp only at h hr
     cases s2 with
     | none=>rw[jO] at h;simp[oS] at h
     | some l2=>
      obtain⟨o1,A,eA,e2⟩:=qZ hl1 hk
      have hl2:Byt l2:=by rw[e2] at hl1;exact hl1.right
      cases hv:gIf (m / 2 == 1) (some l2) with
      | mk v s3=>
       rw[hv] at h hr
       simp only at h hr
       cases s3 with
       | none=>simp[oS] at h
       | some l3=>
        obtain⟨o2,C,eC,e3⟩:=qZ hl2 hv
        have hl3:Byt l3:=by rw[e3] at hl2;exact hl2.right
        obtain⟨o3,D,eD,e4⟩:=pr_int.once l3 (gI (some l3)).1 t hl3 (by rw[<-h])
        have hh:headB (m % 2 == 1) (m / 2 == 1)=m:=lZ m hm3
        subst hr
        refine⟨o3,lay 1 m++(A++(C++D)),?_,by rw[e1,e2,e3,e4];simp⟩
        unfold eRec
        rw[if_pos (by simp only[okR,o1,o2];decide)]
        simp only
        rw[hh,eA,eC]
        simp only[Option.some.injEq] at eD
        rw[eD]
        rfl
 ·unfold gRec
  simp only[sG]
  rw[jO,jO,oS]
def eBat (b:Ba):Ls:=if chkB b=0 then some (encBL b) else none
section
variable {α:Type}
def eL (en:α->Ls):List α->Ls
 | []=>some []
 | x::r=>oa (en x) (eL en r)
def eRow (en:α->Ls) (l:List α):Ls:=if l.length<=65535 then oa (some (lay 2 l.length)) (eL en l) else none
def gC (x:α):List α × Ls->List α × Ls
 | (xs,some l)=>(x::xs,some l)
 | (_,none)=>([],none)
def gL (pa:Ls->α × Ls):Nat->Ls->List α × Ls
 | 0,s=>([],s)
 | k+1,s=>if (pa s).2=none then ([],none) else gC (pa s).1 (gL pa k (pa s).2)
def gRow (pa:Ls->α × Ls) (s:Ls):List α × Ls:=gL pa (gN 2 s).1 (gN 2 s).2
theorem aB2 {V:α->Prop} {en:α->Ls} {pa:Ls->α × Ls} (p:Pr V en pa):∀(l:List α) (L t:List Nat),(∀x,x ∈ l->V x)->eL en l=some L->gL pa l.length (some (L++t))=(l,some t):=by
 intro l
 induction l with
 | nil=>intro L t _ h;simp[eL] at h;subst h;simp[gL]
 | cons x r ih=>
  intro L t hV h
  obtain⟨a,b,ea,eb,rfl⟩:=cB h
  have h1:=p.back x a (b++t) (hV x (by simp)) ea
  rw[List.append_assoc]
  simp only[List.length_cons,gL]
  rw[h1]
  simp only[reduceCtorEq,if_false]
  rw[ih b t (fun y hy=>hV y (by simp[hy])) eb]
  rfl
theorem aBj {V:α->Prop} {en:α->Ls} {pa:Ls->α × Ls} (p:Pr V en pa):∀(n:Nat) (l:List Nat) (xs:List α) (t:List Nat),Byt l->gL pa n (some l)=(xs,some t)->xs.length=n/\(∀x,x ∈ xs->V x)/\∃L,eL en xs=some L/\l=L++t:=by
 intro n
 induction n with
 | zero=>
  intro l xs t hl h
  simp[gL] at h
  obtain⟨rfl,rfl⟩:=h
  exact⟨rfl,by simp,[],rfl,by simp⟩
 | succ n ih=>
  intro l xs t hl h
  simp only[gL] at h
  split at h
  ·simp at h
  ·rename_i hne
   cases hp:pa (some l) with
   | mk x s1=>
    rw[hp] at h hne
    simp only at h hne
    cases s1 with
    | none=>simp at hne
    | some l1=>
     obtain⟨v,A,eA,e1⟩:=p.once l x l1 hl hp
     cases hg:gL pa n (some l1) with
     | mk ys s2=>
      rw[hg] at h
      cases s2 with
      | none=>simp[gC] at h
      | some l2=>
       simp only[gC,Prod.mk.injEq,Option.some.injEq] at h
       obtain⟨rfl,rfl⟩:=h
       obtain⟨c1,c2,C,eC,e2⟩:=ih l1 ys l2 (by rw[e1] at hl;exact hl.right) hg
       refine⟨by simp[c1],?_,A++C,?_,by rw[e1,e2];simp⟩
       ·intro z hz
        rcases List.mem_cons.1 hz with rfl | hz
        ·exact v
        ·exact c2 z hz
       ·simp only[eL,eA,eC,oa]
theorem aA9 {pa:Ls->α × Ls} (hb:(pa none).2=none) (n:Nat):(gL pa n none).2=none:=by
 cases n with
 | zero=>rfl
 | succ n=>simp[gL,hb]
theorem oW {V:α->Prop} {en:α->Ls} {pa:Ls->α × Ls} (p:Pr V en pa):Pr (fun l=>∀x,x ∈ l->V x) (eRow en) (gRow pa):=by
 refine⟨fun l L t hV h=>?_,fun l xs t hl h=>?_,aA9 p.bad _⟩
 ·unfold eRow at h
  split at h
  ·rename_i hl
   obtain⟨a,b,ea,eb,rfl⟩:=cB h
   simp only[Option.some.injEq] at ea
   subst ea
   unfold gRow
   rw[List.append_assoc,nB 2 _ _ (by omega)]
   exact aB2 p l b t hV eb
  ·simp at h
 ·unfold gRow at h
  cases hg:gN 2 (some l) with
  | mk n s1=>
   rw[hg] at h
   simp only at h
   cases s1 with
   | none=>
    have:=aA9 p.bad n
    rw[h] at this
    simp at this
   | some l1=>
    obtain⟨e,hn⟩:=jV hl hg
    obtain⟨c1,c2,C,eC,e2⟩:=aBj p n l1 xs t (by rw[e] at hl;exact hl.right) h
    refine⟨c2,lay 2 n++C,?_,by rw[e,e2];simp⟩
    unfold eRow
    rw[c1,if_pos (by omega),eC]
    rfl
end
def okQ (l:List Nat):Bool:=decide (chkB (bOf l)=0) && decide (encBL (bOf l)=l.take (lenN l)) && decide (lenN l<=l.length)
theorem tF (l:List Nat):In64B (bOf l):=by
 have h:∀x:Int,wrap64 x<=9223372036854775807:=fun x=>by unfold wrap64;omega
 exact⟨h _,h _⟩
theorem kK {l:List Nat} (hl:Byt l):okQ l=true↔OkB l:=by
 unfold okQ
 simp only[Bool.and_eq_true,decide_eq_true_eq]
 constructor
 ·rintro⟨⟨h1,h2⟩,h3⟩
  have h:=(jU (l.drop (lenN l)) h1 (tF l)).1
  rw[h2,List.take_append_drop] at h
  exact h
 ·intro h
  obtain⟨h1,h2,h3⟩:=lW hl h
  exact⟨⟨h2,h1.symm⟩,h.nl⟩
def gBat:Ls->Ba × Ls
 | some l=>if okQ l=true then (bOf l,some (l.drop (lenN l))) else (⟨0,0,0,0,[]⟩,none)
 | none=>(⟨0,0,0,0,[]⟩,none)
theorem aGv:Pr In64B eBat gBat:=by
 refine⟨fun b L t hb h=>?_,fun l b t hl h=>?_,rfl⟩
 ·unfold eBat at h
  split at h
  ·rename_i hc
   simp only[Option.some.injEq] at h
   subst h
   obtain⟨_,h2,h3⟩:=jU t hc hb
   unfold gBat
   simp only
   rw[if_pos (by unfold okQ;rw[h2,h3,List.take_left];simp[hc]),h2,h3,List.drop_left]
  ·simp at h
 ·unfold gBat at h
  simp only at h
  split at h
  ·rename_i hq
   simp only[Prod.mk.injEq,Option.some.injEq] at h
   obtain⟨rfl,rfl⟩:=h
   unfold okQ at hq
   simp only[Bool.and_eq_true,decide_eq_true_eq] at hq
   obtain⟨⟨h1,h2⟩,h3⟩:=hq
   refine⟨tF l,encBL (bOf l),by unfold eBat;rw[if_pos h1],?_⟩
   rw[h2,List.take_append_drop]
  ·simp at h
structure Fv where
 n:Int
 t:ByteArray
 rs:List Rc
 nm:List ByteArray
 ct:List Int
 bs:List Ba
def fz:Fv:=⟨0,⟨#[]⟩,[],[],[],[]⟩
def vn (x:Int):Fv:=⟨x,⟨#[]⟩,[],[],[],[]⟩
def vt (x:ByteArray):Fv:=⟨0,x,[],[],[],[]⟩
def vr' (x:List Rc):Fv:=⟨0,⟨#[]⟩,x,[],[],[]⟩
def vm (x:List ByteArray):Fv:=⟨0,⟨#[]⟩,[],x,[],[]⟩
def vc (x:List Int):Fv:=⟨0,⟨#[]⟩,[],[],x,[]⟩
def vb (x:List Ba):Fv:=⟨0,⟨#[]⟩,[],[],[],x⟩
def kd (f:Nat):Nat:=if f<=1 then 2 else if f=7 then 1 else if f=11 then 3 else if f=17 then 4 else if f=18 then 5 else if f=19 then 6 else 0
def eK (k:Nat) (v:Fv):Ls:=if k=2 then eText v.t else if k=1 then eNat 1 v.n else if k=3 then eRow eRec v.rs else if k=4 then eRow eText v.nm else if k=5 then eRow (fun x=>some (eInt x)) v.ct else if k=6 then eRow eBat v.bs else some (eInt v.n)
def gK (k:Nat) (s:Ls):Fv × Ls:=if k=2 then (vt (gT s).1,(gT s).2) else if k=1 then (vn (gFlag s).1,(gFlag s).2) else if k=3 then (vr' (gRow gRec s).1,(gRow gRec s).2) else if k=4 then (vm (gRow gT s).1,(gRow gT s).2) else if k=5 then (vc (gRow gI s).1,(gRow gI s).2) else if k=6 then (vb (gRow gBat s).1,(gRow gBat s).2) else (vn (gI s).1,(gI s).2)
def VK (k:Nat) (v:Fv):Prop:=if k=2 then v=vt v.t else if k=1 then v=vn v.n/\(v.n=0∨v.n=1) else if k=3 then v=vr' v.rs/\(∀r,r ∈ v.rs->In64 r.t) else if k=4 then v=vm v.nm else if k=5 then v=vc v.ct/\(∀x,x ∈ v.ct->In64 x) else if k=6 then v=vb v.bs/\(∀x,x ∈ v.bs->In64B x) else v=vn v.n/\In64 v.n
theorem dJ (f:Nat):kd f=0∨kd f=1∨kd f=2∨kd f=3∨kd f=4∨kd f=5∨kd f=6:=by
 unfold kd
 repeat' split
 all_goals simp
theorem jF {α:Type} {V:α->Prop} {en:α->Ls} {pa:Ls->α × Ls} (p:Pr V en pa) (mk:α->Fv) (un':Fv->α) (hu:∀x,un' (mk x)=x) :
 Pr (fun v=>v=mk (un' v)/\V (un' v)) (fun v=>en (un' v)) (fun s=>(mk (pa s).1,(pa s).2)):=by
 refine⟨fun v L t hv h=>?_,fun l v t hl h=>?_,p.bad⟩
 ·obtain⟨e,hV⟩:=hv
  have:=p.back _ L t hV h
  simp only[this]
  rw[<-e]
 ·simp only[Prod.mk.injEq] at h
  obtain⟨rfl,h2⟩:=h
  have:=p.once l (pa (some l)).1 t hl (by rw[<-h2])
  rw[hu]
  exact⟨⟨rfl,this.1⟩,this.2⟩
theorem Pr.of {α:Type} {V W:α->Prop} {en:α->Ls} {pa:Ls->α × Ls} (p:Pr V en pa) (h:∀x,W x↔V x):Pr W en pa:=
 ⟨fun x L t hx=>p.back x L t ((h x).1 hx),fun l x t hl hp=>⟨(h x).2 (p.once l x t hl hp).1,(p.once l x t hl hp).2⟩,p.bad⟩
theorem aE5 (k:Nat) (h:k=0∨k=1∨k=2∨k=3∨k=4∨k=5∨k=6):Pr (VK k) (eK k) (gK k):=by
 rcases h with rfl | rfl | rfl | rfl | rfl | rfl | rfl
 ·exact jF pr_int vn (·.n) (fun _=>rfl)
 ·exact jF aCh vn (·.n) (fun _=>rfl)
 ·exact(jF pr_text vt (·.t) (fun _=>rfl)).of (fun v=>by simp[VK])
 ·exact jF (oW pr_rec) vr' (·.rs) (fun _=>rfl)
 ·exact(jF (oW pr_text) vm (·.nm) (fun _=>rfl)).of (fun v=>by simp[VK])
 ·exact jF (oW pr_int) vc (·.ct) (fun _=>rfl)
 ·exact jF (oW aGv) vb (·.bs) (fun _=>rfl)
def hasK (k:Nat) (v:Fv):Bool:=if k=2 then !(v.t.size == 0) else if k=3 then decide (0 < v.rs.length) else if k=4 then decide (0 < v.nm.length) else if k=5 then decide (0 < v.ct.length) else if k=6 then decide (0 < v.bs.length) else !(v.n == 0)
theorem rQ (k:Nat) (hk:k=0∨k=1∨k=2∨k=3∨k=4∨k=5∨k=6) (v:Fv) (hv:VK k v):hasK k v=false↔v=fz:=by
 have nil:∀{α:Type} (l:List α),decide (0 < l.length)=false↔l=[]:=fun l=>by cases l<;>simp
 rcases hk with rfl | rfl | rfl | rfl | rfl | rfl | rfl
 ·have e:v=vn v.n:=hv.1
  show(!(v.n == 0))=false↔_
  rw[e]
  simp[vn,fz]
 ·have e:v=vn v.n:=hv.1
  show(!(v.n == 0))=false↔_
  rw[e]
  simp[vn,fz]
 ·have e:v=vt v.t:=hv
  show(!(v.t.size == 0))=false↔_
  rw[e]
  simp only[vt,fz,Bool.not_eq_false',beq_iff_eq,Fv.mk.injEq,and_true,true_and]
  exact⟨nY,fun h=>by rw[h];exact oH⟩
 ·have e:v=vr' v.rs:=hv.1
  show decide (0 < v.rs.length)=false↔_
  rw[e,nil]
  simp[vr',fz]
 ·have e:v=vm v.nm:=hv
  show decide (0 < v.nm.length)=false↔_
  rw[e,nil]
  simp[vm,fz]
 ·have e:v=vc v.ct:=hv.1
  show decide (0 < v.ct.length)=false↔_
  rw[e,nil]
  simp[vc,fz]
 ·have e:v=vb v.bs:=hv.1
  show decide (0 < v.bs.length)=false↔_
  rw[e,nil]
  simp[vb,fz]
abbrev Bd:=Nat->Fv
def bdz:Bd:=fun _=>fz
def setB (b:Bd) (f:Nat) (v:Fv):Bd:=fun g=>if g=f then v else b g
def eFs (b:Bd):List Nat->Ls
 | []=>some []
 | f::r=>oa (eK (kd f) (b f)) (eFs b r)
def gFs:List Nat->Bd->Ls->Bd × Ls
 | [],b,s=>(b,s)
 | f::r,b,s=>gFs r (setB b f (gK (kd f) s).1) (gK (kd f) s).2
theorem iS:∀(row:List Nat) (b0:Bd),(gFs row b0 none).2=none:=by
 intro row
 induction row with
 | nil=>intro b0;rfl
 | cons f r ih=>
  intro b0
  simp only[gFs]
  rw[(aE5 (kd f) (dJ f)).bad]
  exact ih _
theorem sB:∀(row:List Nat) (b0:Bd) (l:List Nat) (b1:Bd) (t:List Nat),row.Nodup->Byt l->gFs row b0 (some l)=(b1,some t)->
 (∀g,g ∉ row->b1 g=b0 g)/\(∀f,f ∈ row->VK (kd f) (b1 f))/\∃L,eFs b1 row=some L/\l=L++t:=by
 intro row
 induction row with
 | nil=>
  intro b0 l b1 t _ _ h
  simp only[gFs,Prod.mk.injEq,Option.some.injEq] at h
  obtain⟨rfl,rfl⟩:=h
  exact⟨fun _ _=>rfl,by simp,[],rfl,rfl⟩
 | cons f r ih=>
  intro b0 l b1 t hn hl h
  simp only[gFs] at h
  rw[List.nodup_cons] at hn
  cases hg:gK (kd f) (some l) with
  | mk v s1=>
   rw[hg] at h
   simp only at h
   cases s1 with
   | none=>
    have:=iS r (setB b0 f v)
    rw[h] at this
    simp at this
   | some l1=>
    obtain⟨hv,A,eA,e1⟩:=(aE5 (kd f) (dJ f)).once l v l1 hl hg
    obtain⟨k1,k2,C,eC,e2⟩:=ih (setB b0 f v) l1 b1 t hn.2 (by rw[e1] at hl;exact hl.right) h
    have hf:b1 f=v:=by rw[k1 f hn.1];simp[setB]
    refine⟨fun g hgr=>?_,fun g hgr=>?_,A++C,?_,by rw[e1,e2];simp⟩
    ·simp only[List.mem_cons,not_or] at hgr
     rw[k1 g hgr.2]
     simp[setB,hgr.1]
    ·rcases List.mem_cons.1 hgr with rfl | q
     ·rw[hf];exact hv
     ·exact k2 g q
    ·simp only[eFs,hf,eA,eC,oa]
def rowQ (k:Int):Option (List Nat):=if k=1 then some [0,3,4,5,6,7,8] else if k=2 then some [0] else if k=3 then some [] else if k=4 then some [0,2,9,10,11] else if k=5 then some [0,2,12,13] else if k=6 then some [0,2,14] else if k=7 then some [1,0,2,12] else if k=8 then some [1,0,2] else none
def rowA (k:Int):Option (List Nat):=if k=0 then some [] else if k=1 then some [] else if k=2 then some [] else if k=3 then some [17,18] else if k=4 then some [12,15,16] else if k=5 then some [15,16,19] else if k=6 then some [12,15,16] else if k=7 then some [] else if k=8 then some [12] else none
def ansRow (k c:Int):Option (List Nat):=if c=0 then (if k=0 then none else rowA k) else (rowA k).map fun _=>[]
theorem kC {k:Int} {r:List Nat} (h:rowQ k=some r):r.Nodup/\(∀f,f ∈ r->f < 20):=by
 unfold rowQ at h
 repeat' split at h
 all_goals first | (simp only[Option.some.injEq] at h;subst h;decide) | simp at h
theorem pR {k:Int} {r:List Nat} (h:rowA k=some r):r.Nodup/\(∀f,f ∈ r->f < 20):=by
 unfold rowA at h
 repeat' split at h
 all_goals first | (simp only[Option.some.injEq] at h;subst h;decide) | simp at h
theorem oO {k c:Int} {r:List Nat} (h:ansRow k c=some r):r.Nodup/\(∀f,f ∈ r->f < 20):=by
 unfold ansRow at h
 split at h
 ·split at h
  ·simp at h
  ·exact pR h
 ·cases hr:rowA k with
  | none=>rw[hr] at h;simp at h
  | some q=>rw[hr] at h;simp at h;subst h;simp
def moreB (b:Bd) (row:List Nat):Bool:=(List.range 20).any fun f=>hasK (kd f) (b f) && !row.contains f
def VB (b:Bd):Prop:=(∀f,f < 20->VK (kd f) (b f))/\∀f,20<=f->b f=fz
theorem pG {b:Bd} {row:List Nat} (hb:VB b) (h:moreB b row=false):∀g,g ∉ row->b g=fz:=by
 intro g hg
 by_cases h20:g < 20
 ·unfold moreB at h
  rw[List.any_eq_false] at h
  have:=h g (by simpa using h20)
  simp only[Bool.and_eq_true,not_and,Bool.not_eq_true,Bool.not_eq_true',List.contains_eq_mem,decide_eq_false_iff_not] at this
  have hh:hasK (kd g) (b g)=false:=by
   cases hq:hasK (kd g) (b g) with
   | false=>rfl
   | true=>exact absurd hg (by simpa using this hq)
  exact(rQ _ (dJ g) _ (hb.1 g h20)).1 hh
 ·exact hb.2 g (by omega)
theorem VK_fz (f:Nat):VK (kd f) fz:=by
 have h:In64 0:=⟨by decide,by decide⟩
 rcases dJ f with e | e | e | e | e | e | e
 all_goals
  rw[e]
  simp[VK,vn,vt,vr',vm,vc,vb,fz,h]
theorem qC {b:Bd} {row:List Nat} (h:∀g,g ∉ row->b g=fz):moreB b row=false:=by
 unfold moreB
 rw[List.any_eq_false]
 intro g _
 simp only[Bool.and_eq_true,not_and,Bool.not_eq_true,List.contains_eq_mem]
 intro hh
 by_cases hg:g ∈ row
 ·simp[hg]
 ·rw[h g hg,(rQ _ (dJ g) _ (VK_fz g)).2 rfl] at hh
  cases hh
def eNs:List Nat->List Int->Ls
 | n::r,v::s=>oa (eNat n v) (eNs r s)
 | _,_=>some []
def msgE (ns:List Nat) (vs:List Int) (row:Option (List Nat)) (b:Bd):Ls:=
 match row with
 | some r=>if moreB b r=true then none else oa (eNs ns vs) (eFs b r)
 | none=>none
def reqE (k i:Int) (b:Bd):Ls:=msgE [1,4] [k,i] (rowQ k) b
def resE (k i c:Int) (b:Bd):Ls:=msgE [1,4,1] [k,i,c] (ansRow k c) b
def rowOr (r:Option (List Nat)):List Nat:=r.getD []
def reqS (l:List Nat):(Int × Int × Bd) × Ls:=
 let k:=gNat 1 (some l)
 let i:=gNat 4 k.2
 let b:=gFs (rowOr (rowQ k.1)) bdz i.2
 ((k.1,i.1,b.1),b.2)
def reqP (l:List Nat):Option (Int × Int × Bd):=if (rowQ (reqS l).1.1).isSome=true/\(reqS l).2=some [] then some (reqS l).1 else none
def resS (l:List Nat):(Int × Int × Int × Bd) × Ls:=
 let k:=gNat 1 (some l)
 let i:=gNat 4 k.2
 let c:=gNat 1 i.2
 let b:=gFs (rowOr (ansRow k.1 c.1)) bdz c.2
 ((k.1,i.1,c.1,b.1),b.2)
def resP (l:List Nat):Option (Int × Int × Int × Bd):=if (ansRow (resS l).1.1 (resS l).1.2.2.1).isSome=true/\(resS l).2=some [] then some (resS l).1 else none
theorem aAj {l:List Nat} {k i:Int} {b:Bd} (hl:Byt l) {t:List Nat} (h:reqS l=((k,i,b),some t)) (hr:(rowQ k).isSome=true):VB b/\∃L,reqE k i b=some L/\l=L++t:=by
 unfold reqS at h
 simp only[Prod.mk.injEq] at h
 obtain⟨⟨h1,h2,h3⟩,h4⟩:=h
 cases g1:gNat 1 (some l) with
 | mk k' s1=>
  rw[g1] at h1 h2 h3 h4
  simp only at h1 h2 h3 h4
  subst h1
  cases s1 with
  | none=>rw[show(gNat 4 none).2=none from rfl,iS] at h4;simp at h4
  | some l1=>
   obtain⟨_,A1,e1,q1⟩:=(mZ 1).once l k' l1 hl g1
   have hl1:Byt l1:=by rw[q1] at hl;exact hl.right
   cases g2:gNat 4 (some l1) with
   | mk i' s2=>
    rw[g2] at h2 h3 h4
    simp only at h2 h3 h4
    subst h2
    cases s2 with
    | none=>rw[iS] at h4;simp at h4
    | some l2=>
     obtain⟨_,A2,e2,q2⟩:=(mZ 4).once l1 i' l2 hl1 g2
     have hl2:Byt l2:=by rw[q2] at hl1;exact hl1.right
     obtain⟨row,hrow⟩:=Option.isSome_iff_exists.1 hr
     rw[hrow] at h3 h4
     simp only[rowOr,Option.getD_some] at h3 h4
     obtain⟨ok1,ok2⟩:=kC hrow
     obtain⟨m1,m2,C,eC,q3⟩:=sB row bdz l2 b t ok1 hl2 (Prod.ext h3 h4)
     have hz:∀g,g ∉ row->b g=fz:=m1
     refine⟨⟨fun f _=>?_,fun f hf=>hz f (fun hm=>by have:=ok2 f hm;omega)⟩,A1++(A2++C),?_,by rw[q1,q2,q3];simp⟩
     ·by_cases hf:f ∈ row
      ·exact m2 f hf
      ·rw[hz f hf];exact VK_fz f
     ·unfold reqE msgE
      rw[hrow]
      simp only
      rw[if_neg (by rw[qC hz];simp),eC]
      simp only[eNs,e1,e2,oa,List.append_nil,List.append_assoc]
theorem yG {l:List Nat} {k i c:Int} {b:Bd} (hl:Byt l) {t:List Nat} (h:resS l=((k,i,c,b),some t)) (hr:(ansRow k c).isSome=true):VB b/\∃L,resE k i c b=some L/\l=L++t:=by
 unfold resS at h
 simp only[Prod.mk.injEq] at h
 obtain⟨⟨h1,h2,h5,h3⟩,h4⟩:=h
 cases g1:gNat 1 (some l) with
 | mk k' s1=>
  rw[g1] at h1 h2 h3 h4 h5
  simp only at h1 h2 h3 h4 h5
  subst h1
  cases s1 with
  | none=>rw[show(gNat 4 none).2=none from rfl,show(gNat 1 none).2=none from rfl,iS] at h4;simp at h4
  | some l1=>
   obtain⟨_,A1,e1,q1⟩:=(mZ 1).once l k' l1 hl g1
   have hl1:Byt l1:=by rw[q1] at hl;exact hl.right
   cases g2:gNat 4 (some l1) with
   | mk i' s2=>
    rw[g2] at h2 h3 h4 h5
    simp only at h2 h3 h4 h5
    subst h2
    cases s2 with
    | none=>rw[show(gNat 1 none).2=none from rfl,iS] at h4;simp at h4
    | some l2=>
     obtain⟨_,A2,e2,q2⟩:=(mZ 4).once l1 i' l2 hl1 g2
     have hl2:Byt l2:=by rw[q2] at hl1;exact hl1.right
     cases g3:gNat 1 (some l2) with
     | mk c' s3=>
      rw[g3] at h3 h4 h5
      simp only at h3 h4 h5
      subst h5
      cases s3 with
      | none=>rw[iS] at h4;simp at h4
      | some l3=>
       obtain⟨_,A3,e3,q4⟩:=(mZ 1).once l2 c' l3 hl2 g3
       have hl3:Byt l3:=by rw[q4] at hl2;exact hl2.right
       obtain⟨row,hrow⟩:=Option.isSome_iff_exists.1 hr
       rw[hrow] at h3 h4
       simp only[rowOr,Option.getD_some] at h3 h4
       obtain⟨ok1,ok2⟩:=oO hrow
       obtain⟨m1,m2,C,eC,q3⟩:=sB row bdz l3 b t ok1 hl3 (Prod.ext h3 h4)
       have hz:∀g,g ∉ row->b g=fz:=m1
       refine⟨⟨fun f _=>?_,fun f hf=>hz f (fun hm=>by have:=ok2 f hm;omega)⟩,A1++(A2++(A3++C)),?_,by rw[q1,q2,q4,q3];simp⟩
       ·by_cases hf:f ∈ row
        ·exact m2 f hf
        ·rw[hz f hf];exact VK_fz f
       ·unfold resE msgE
        rw[hrow]
        simp only
        rw[if_neg (by rw[qC hz];simp),eC]
        simp only[eNs,e1,e2,e3,oa,List.append_nil,List.append_assoc]
theorem wO {l:List Nat} {k i:Int} {b:Bd} (h:reqP l=some (k,i,b)):reqS l=((k,i,b),some [])/\(rowQ k).isSome=true:=by
 unfold reqP at h
 split at h
 ·rename_i hc
  simp only[Option.some.injEq] at h
  rw[h] at hc
  exact⟨Prod.ext h hc.2,hc.1⟩
 ·simp at h
theorem vY {l:List Nat} {k i c:Int} {b:Bd} (h:resP l=some (k,i,c,b)):resS l=((k,i,c,b),some [])/\(ansRow k c).isSome=true:=by
 unfold resP at h
 split at h
 ·rename_i hc
  simp only[Option.some.injEq] at h
  rw[h] at hc
  exact⟨Prod.ext h hc.2,hc.1⟩
 ·simp at h
theorem vN {l:List Nat} {k i:Int} {b:Bd} (hl:Byt l) (h:reqP l=some (k,i,b)):VB b/\reqE k i b=some l:=by
 obtain⟨h1,h2⟩:=wO h
 obtain⟨h3,L,e,q⟩:=aAj hl h1 h2
 rw[List.append_nil] at q
 exact⟨h3,by rw[q];exact e⟩
theorem wF {l:List Nat} {k i c:Int} {b:Bd} (hl:Byt l) (h:resP l=some (k,i,c,b)):VB b/\resE k i c b=some l:=by
 obtain⟨h1,h2⟩:=vY h
 obtain⟨h3,L,e,q⟩:=yG hl h1 h2
 rw[List.append_nil] at q
 exact⟨h3,by rw[q];exact e⟩
def fitsB (len:Nat) (at' size:Int):Bool:=decide (1<=size/\size<=8/\0<=at'/\at'<=len - size)
theorem fits_any (a:Option Addr) (len cap:Nat) (at' size:Int) (w:World) (hl:len<=maxLen) :
 Calls Tryz.prog 82 #[.slice a len cap,.int .i64 at',.int .i64 size] w fun e w'=>e=.returned (.bool (fitsB len at' size))/\w'=w:=by
 unfold maxLen at hl
 by_cases h1:1<=size
 ·by_cases h2:size<=8
  ·by_cases h3:0<=at'
   ·by_cases h4:at'<=len - size
    all_goals
     go_enter Tryz.func82,Tryz.ntmps82
     go_wp2
     go_ret
     simp[fitsB,h1,h2,h3,h4]
   ·go_enter Tryz.func82,Tryz.ntmps82
    go_wp2
    go_ret
    simp[fitsB]
    omega
  ·go_enter Tryz.func82,Tryz.ntmps82
   go_wp2
   go_ret
   simp[fitsB]
   omega
 ·go_enter Tryz.func82,Tryz.ntmps82
  go_wp2
  go_ret
  simp[fitsB]
  omega
def placeI (i size:Int) (big:Bool):Int:=if big then size - 1 - i else i
theorem oG (i size:Int) (big:Bool) (w:World) (h0:0<=i) (h1:i < size) (h2:size<=8) :
 Calls Tryz.prog 83 #[.int .i64 i,.int .i64 size,.bool big] w fun e w'=>e=.returned (.int .i64 (placeI i size big))/\w'=w:=by
 cases big
 all_goals
  go_enter Tryz.func83,Tryz.ntmps83
  go_wp2
  go_ret
  exact⟨rfl,rfl⟩
theorem aHb (n:Nat) (h:n<=8):(256:Nat) ^ n<=18446744073709551616:=by
 have:=Nat.pow_le_pow_right (n:=256) (by decide) h
 omega
theorem uO (V c i:Nat) (hi:i < 8) (hV:V < 256 ^ i) (hc:c < 256):bits .or .u64 (V:Int) (IntKind.u64.wrap ((c:Int) * 2 ^ (8 * i)))=((V+c * 256 ^ i:Nat):Int):=by
 have h1:c * 256 ^ i<=255 * 256 ^ i:=Nat.mul_le_mul_right _ (by omega)
 have h2:=aHb (i+1) (by omega)
 rw[Nat.pow_succ] at h2
 have e:((c:Int) * 2 ^ (8 * i))=((c * 256 ^ i:Nat):Int):=by
  have:(256:Nat) ^ i=2 ^ (8 * i):=by rw[Nat.pow_mul]
  rw[this];simp
 rw[e,wu64 _ (by omega) (by omega),u64_or_nat _ _ (by omega) (by omega),Nat.or_comm,nat_join (8 * i) _ _ ?_ ?_,Nat.add_comm]
 ·rw[Nat.pow_mul];exact Nat.mul_mod_left _ _
 ·rw[Nat.pow_mul];exact hV
theorem uP (a:Option Addr) (cap:Nat) (l:List Nat) (p size:Nat) (big:Bool) (w:World) (hr:Row w a l) (hl:l.length<=maxLen) (h1:1<=size) (h2:size<=8) (h3:p+size<=l.length) :
 Calls Tryz.prog 52 #[.slice a l.length cap,.int .i64 p,.int .i64 size,.bool big] w fun e w'=>e=.returned (.tuple #[.int .u64 (getV l p size big:Nat),.bool true])/\w'=w:=by
 have hf:fitsB l.length p size=true:=by simp[fitsB];omega
 have hl0:=hl
 unfold maxLen at hl
 obtain⟨f,HF⟩:∃f,Hid (f=(fun j=>l.getD (p+plc size big j) 0)):=⟨_,rfl⟩
 have HG:Hid (getV l p size big=sm f size):=by show _=_;rw[HF.out];rfl
 have hf256:∀j,f j < 256:=by intro j;rw[HF.out];exact hr.lt _
 go_enter Tryz.func52,Tryz.ntmps52
 go_wp2_with (go_at_call 82;refine(fits_any _ _ _ _ _ _ hl0).mono ?_;rintro e w' ⟨rfl,rfl⟩;rw[hf])
 go_loop [8,17] (fun v i=>∃k:Nat,k<=size/\i=.int .i64 k/\v=.int .u64 (sm f k:Nat)) (fun _ i=>size - (intOf i).toNat)
 case atStart=>exact⟨0,by omega,rfl,rfl⟩
 case round=>
  obtain⟨k,hk,rfl,rfl⟩:=hrel
  by_cases hlt:k < size
  ·have hpl:plc size big k < size:=by unfold plc;split<;>omega
   obtain⟨b,off,rfl,hc,hlt2⟩:=hr (p+plc size big k) (by omega)
   have HS:Hid (bits .or .u64 (sm f k:Nat) (IntKind.u64.wrap ((l.getD (p+plc size big k) 0:Nat) * 2 ^ (8 * k)))=((sm f (k+1):Nat):Int)):=by
    show _=_
    rw[uO _ _ k (by omega) (qW f hf256 k) (hr.lt _)]
    simp only[sm]
    rw[HF.out]
   have hpi:placeI k size big=(plc size big k:Nat):=by
    unfold placeI plc;cases big
    ·simp
    ·simp;omega
   generalize l.getD (p+plc size big k) 0=c at *
   generalize plc size big k=q at *
   clear hr hf256
   have hltq:((p:Int)+q) < (l.length:Int):=by omega
   go_wp2_with (go_at_call 83;refine(oG _ _ _ _ (by omega) (by omega) (by omega)).mono ?_;rintro e w' ⟨rfl,rfl⟩;rw[hpi])
   exact⟨⟨k+1,by omega,by go_num,by rw[HS.out]⟩,by simp[intOf];omega⟩
  ·go_wp2
   go_ret2
   have:k=size:=by omega
   subst this
   exact⟨by rw[HG.out];rfl,rfl⟩
theorem clone_any (a:Option Addr) (cap:Nat) (l:List Nat) (w:World) (hr:Row w a l) (hl:l.length<=1000000) :
 Calls Tryz.prog 89 #[.slice a l.length cap] w fun e w'=>(∃g,e=.returned (.slice (some ⟨g,0,none⟩) l.length l.length)/\Own w.heap.size w' g l.length l)/\Below w.heap.size w w':=by
 obtain⟨i0,hi,hz0,hz1,hz2⟩:=info_parts Tryz.info5
 have hs1:(Tryz.prog.info? 5).map (·.size)=some 1:=by rw[hi];simp[hz1]
 obtain⟨n,HN⟩:∃n,Hid (l.length=n):=⟨_,rfl⟩
 have hn:n<=1000000:=by rw[<-HN.out];exact hl
 have HC:Hid ((cv l).length=n):=by show _=_;rw[aQ,HN.out]
 rw[HN.out]
 go_enter Tryz.func89,Tryz.ntmps89
 go_wp2_with (first
  | (at_make;refine wpList_make_full _ rfl _ _ 22 rfl w.heap.size 5 i0 (.int .u8 0) 1 Tryz.underlying22 hi hz0 hz1 .i64 .i64 _ _ n rfl rfl rfl rfl (by rw[hz2];omega) (by unfold maxLen;omega) (Nat.le_refl _) ?_;intro w1 hown hg;obtain⟨cur,hcur,hlen⟩:=qF hown;have hbel:=jG hg;have HR1:=hr.below hbel;have HLn:Hid (cur.length=n):=hlen;clear hlen hown hg hr)
  | (have _t:=hcur;refine wpList_copy_splice rfl (.tmp 7) (.tmp 8) 22 22 rfl 5 Tryz.underlying22 hs1 _ _ _ _ _ _ rfl rfl w.heap.size 0 cur 5 hcur (cv l) (by rw[HC.out];exact(Nat.min_self n).symm) (fun h0=>⟨rfl,kD HR1 h0⟩) (by rw[HC.out,HLn.out];omega) (eF _) w.heap.size w hbel (Nat.le_refl _) ?_;intro w2 HG2 hB2))
 go_ret
 refine⟨⟨w.heap.size,rfl,?_⟩,by assumption⟩
 have HG:Hid _:=HG2
 have h2:=HG2.out
 rw[nA _ _ (by rw[HC.out,HLn.out])] at h2
 have:=aBe (Nat.le_refl _) HN.out.symm (by unfold maxLen;omega) rfl h2
 exact this
structure PutAt (l:List Nat) (p size:Nat) (big:Bool) (V k:Nat) (cur:List Nat):Prop where
 len:cur.length=l.length
 at':∀i,i < l.length->cur.getD i 0=if p<=i/\i < p+size/\plc size big (i - p) < k then V / 256 ^ plc size big (i - p) % 256 else l.getD i 0
theorem PutAt.start (l:List Nat) (p size:Nat) (big:Bool) (V:Nat):PutAt l p size big V 0 l:=⟨rfl,fun i hi=>by simp⟩
theorem pI (size:Nat) (big:Bool) (k:Nat) (h:k < size):plc size big k < size:=by unfold plc;split<;>omega
theorem uD (size:Nat) (big:Bool) (k:Nat) (h:k < size):plc size big (plc size big k)=k:=by unfold plc;split<;>omega
theorem PutAt.step {l:List Nat} {p size:Nat} {big:Bool} {V k:Nat} {cur:List Nat} (h:PutAt l p size big V k cur) (hk:k < size) (hp:p+size<=l.length) :
 PutAt l p size big V (k+1) (cur.set (p+plc size big k) (V / 256 ^ k % 256)):=by
 have h1:=pI size big k hk
 have h2:=uD size big k hk
 refine⟨by simp[h.len],fun i hi=>?_⟩
 rw[nC _ _ _ _ (by rw[h.len];exact hi),h.at' i hi]
 by_cases e:p+plc size big k=i
 ·subst e
  rw[if_pos rfl,Nat.add_sub_cancel_left,h2,if_pos (by omega)]
 ·rw[if_neg e]
  by_cases hin:p<=i/\i < p+size
  ·have h3:=uD size big (i - p) (by omega)
   have h4:plc size big (i - p)≠k:=by
    intro c;rw[c] at h3;omega
   by_cases h5:plc size big (i - p) < k
   ·rw[if_pos (by omega),if_pos (by omega)]
   ·rw[if_neg (by omega),if_neg (by omega)]
  ·rw[if_neg (by omega),if_neg (by omega)]
theorem PutAt.done {l:List Nat} {p size:Nat} {big:Bool} {V:Nat} {cur:List Nat} (h:PutAt l p size big V size cur):cur=putL l p size big V:=by
 apply gQ (by rw[h.len,cT])
 intro i hi
 rw[h.len] at hi
 rw[h.at' i hi,iD _ _ _ _ _ _ hi]
 by_cases hin:p<=i/\i < p+size
 ·rw[if_pos ⟨hin.1,hin.2,pI size big _ (by omega)⟩,if_pos hin]
 ·rw[if_neg (by omega),if_neg hin]
theorem byte_at (V k:Nat):(V:Int) / 2 ^ (8 * k) % 256=((V / 256 ^ k % 256:Nat):Int):=by
 have e:(256:Nat) ^ k=2 ^ (8 * k):=by rw[Nat.pow_mul]
 rw[e]
 simp
theorem uQ (a:Option Addr) (cap:Nat) (l:List Nat) (p size:Nat) (big:Bool) (V:Nat) (w:World) (hr:Row w a l) (hl:l.length<=1000000) (h1:1<=size) (h2:size<=8) (h3:p+size<=l.length) (hV:V<=18446744073709551615) :
 Calls Tryz.prog 68 #[.slice a l.length cap,.int .i64 p,.int .i64 size,.bool big,.int .u64 V] w fun e w'=>
  (∃g,e=.returned (.tuple #[.slice (some ⟨g,0,none⟩) l.length l.length,.bool true])/\Own w.heap.size w' g l.length (putL l p size big V))/\Below w.heap.size w w':=by
 have hf:fitsB l.length p size=true:=by simp[fitsB];omega
 have hl0:l.length<=maxLen:=by unfold maxLen;omega
 go_enter Tryz.func68,Tryz.ntmps68
 go_wp2_with (go_at_call 82;refine(fits_any _ _ _ _ _ _ hl0).mono ?_;rintro e w' ⟨rfl,rfl⟩;rw[hf])
 refine(clone_any a cap l _ hr hl).mono ?_
 rintro e w1 ⟨⟨g,rfl,hown⟩,hbel⟩
 go_wp2_with fail
 go_loopw [21] (fun i wr=>∃(k:Nat) (cur:List Nat),k<=size/\i=.int .i64 k/\PutAt l p size big V k cur/\Own _ wr g l.length cur/\Below _ _ wr) (fun i _=>size - (intOf i).toNat)
 case atStart=>exact⟨0,l,by omega,rfl,PutAt.start _ _ _ _ _,hown,hbel⟩
 case round=>
  obtain⟨k,cur,hk,rfl,hat,hown,hbel⟩:=hrel
  clear hr
  by_cases hlt:k < size
  ·have hpl:=pI size big k hlt
   have HN:Hid (PutAt l p size big V (k+1) (cur.set (p+plc size big k) (V / 256 ^ k % 256))):=hat.step hlt h3
   have hcell:=hown.cell (p+plc size big k) (by rw[hat.len];omega)
   have hfree:=hown.free (p+plc size big k)
   have hge:=hown.ge
   have hpi:placeI k size big=(plc size big k:Nat):=by
    unfold placeI plc;cases big
    ·simp
    ·simp;omega
   have hby:=byte_at V k
   generalize plc size big k=q at *
   generalize cur.getD (p+q) 0=c0 at *
   have hltq:((p:Int)+q) < (l.length:Int):=by omega
   clear hat
   have x1:IntKind.i64.wrap (8 * (k:Int))=8 * (k:Int):=by rw[IntKind.wrap_i64];omega
   have x2:IntKind.i64.wrap ((p:Int)+(q:Int))=(p:Int)+q:=by rw[IntKind.wrap_i64];omega
   have x3:(0:Int)<=8 * (k:Int):=by omega
   have x4:8 * (k:Int)<=64:=by omega
   have x5:(8 * (k:Int)).toNat=8 * k:=by omega
   have x6:((p:Int)+(q:Int)).toNat=p+q:=by omega
   have x7:(0:Int)<=(p:Int)+q:=by omega
   have x8:IntKind.u8.wrap ((V:Int) / 2 ^ (8 * k))=((V / 256 ^ k % 256:Nat):Int):=by rw[IntKind.wrap_u8,hby]
   clear hby
   generalize V / 256 ^ k % 256=d at *
   go_wp2_with fail
   go_region_with (go_at_call 83;refine(oG _ _ _ _ (by omega) (by omega) (by omega)).mono ?_;rintro e w' ⟨rfl,rfl⟩;rw[hpi])
   all_goals go_wp2
   exact⟨⟨k+1,cur.set (p+q) d,by omega,by go_num,HN.out,hown.store _ _,(hbel.setCell hge.1 _).drew⟩,by simp[intOf];omega⟩
  ·obtain rfl:k=size:=by omega
   have HD:Hid (cur=putL l p k big V):=hat.done
   clear hat
   go_wp2
   go_ret2
   exact⟨⟨g,rfl,by rw[<-HD.out];exact hown⟩,hbel⟩
end Go.Proofs.YtaooidckmepdeaaGreatDoor
