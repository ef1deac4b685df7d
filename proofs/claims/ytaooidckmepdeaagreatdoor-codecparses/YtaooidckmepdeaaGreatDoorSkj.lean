/- Rw Ra Dd -/
import Derived.Test.YtaooidckmepdeaaGreatDoorSki
namespace Go.Proofs.YtaooidckmepdeaaGreatDoor
set_option linter.unusedSimpArgs false
set_option linter.unusedVariables false
set_option maxRecDepth 100000
set_option maxHeartbeats 6400000
open Go.RowKit
theorem dB {w:World} {R:Nat} {r:Rc} (h:w.heap[R]? = some (.cells r.cells 84 (0,0))) :
 w.cell? ⟨R,0,none⟩=some (.bool r.hk)/\w.cell? ⟨R,1,none⟩=some (.string r.k)/\w.cell? ⟨R,2,none⟩=some (.bool r.hv)/\w.cell? ⟨R,3,none⟩=some (.string r.v)/\w.cell? ⟨R,4,none⟩=some (.int .i64 r.t)/\w.cell? ⟨R,5,none⟩=some (.int .i64 r.o):=by
 have hc:∀j,w.cell? ⟨R,j,none⟩=r.cells[j]?:=fun j=>cell_of_row _ R j r.cells 84 (0,0) h
 exact⟨by rw[hc];rfl,by rw[hc];rfl,by rw[hc];rfl,by rw[hc];rfl,by rw[hc];rfl,by rw[hc];rfl⟩
theorem iA {w:World} {R:Nat} {cs:Array Value} {t:TypeId} (h:w.heap[R]? = some (.cells cs t (0,0))):∀i,w.frozen? ⟨R,i,none⟩=false:=fun i=>by simp[World.frozen?,h]
theorem yM {u y:World} {b off:Nat} {v:Value} (hb:Below ((u.alloc (.cells rz.cells 84)).alloc (.cells rz.cells 84)).heap.size ((u.alloc (.cells rz.cells 84)).alloc (.cells rz.cells 84)) y) (h:u.cell? ⟨b,off,none⟩=some v):y.cell? ⟨b,off,none⟩=some v:=
 ((aF hb).2.2.cell (p:=⟨b,off,none⟩) (World.block_lt_of_cell? _ _ h)).trans h
theorem bW (u:World):((((u.alloc (.cells rz.cells 84)).alloc (.cells rz.cells 84)).alloc (.cells rz.cells 84)).drew).heap[u.heap.size+1+1]? = some (.cells rz.cells 84 (0,0)):=by
 have h:=heap_alloc_new ((u.alloc (.cells rz.cells 84)).alloc (.cells rz.cells 84)) (.cells rz.cells 84)
 rw[World.size_alloc,World.size_alloc] at h
 exact h
theorem aBl (b off cap len:Nat) (first:Int) (u:World) (c:Nat) (hc0:u.cell? ⟨b,off,none⟩=some (.int .u8 (c:Int))) (h0:0 < len) (hl:len<=6000) (hlc:len<=cap) (hcm:cap<=9223372036854775807) (h3:c<=3) (f0:0<=first) (f1:first<=1125899906842624) (hc1:¬cap=1) (V0 n0:Nat) (hn0:((n0:Int) == 0)=false) (hV:¬(100:Int)<=(V0:Int)) (HU0:Hid (Calls Tryz.prog 86 #[.slice (some ⟨b,off+1,none⟩) (len - 1) (cap - 1)] ((u.alloc (.cells #[.bool false,.string ⟨#[]⟩,.bool false,.string ⟨#[]⟩,.int .i64 0,.int .i64 0] 84)).alloc (.cells #[.bool false,.string ⟨#[]⟩,.bool false,.string ⟨#[]⟩,.int .i64 0,.int .i64 0] 84)) fun e w'=>e=.returned (.tuple #[.int .u64 (V0:Int),.int .i64 (n0:Int)])/\w'=((u.alloc (.cells #[.bool false,.string ⟨#[]⟩,.bool false,.string ⟨#[]⟩,.int .i64 0,.int .i64 0] 84)).alloc (.cells #[.bool false,.string ⟨#[]⟩,.bool false,.string ⟨#[]⟩,.int .i64 0,.int .i64 0] 84)))) (hi:1+n0<=len) (hc2:¬cap=1+n0) (V1 n1:Nat) (Z:Int) (hn1:((n1:Int) == 0)=false) (hd0:¬Z < -first) (hd:¬1125899906842624 - first < Z) (HU1:Hid (Calls Tryz.prog 86 #[.slice (some ⟨b,off+(1+n0),none⟩) (len - (1+n0)) (cap - (1+n0))] ((u.alloc (.cells #[.bool false,.string ⟨#[]⟩,.bool false,.string ⟨#[]⟩,.int .i64 0,.int .i64 0] 84)).alloc (.cells #[.bool false,.string ⟨#[]⟩,.bool false,.string ⟨#[]⟩,.int .i64 0,.int .i64 0] 84)) fun e w'=>e=.returned (.tuple #[.int .u64 (V1:Int),.int .i64 (n1:Int)])/\w'=((u.alloc (.cells #[.bool false,.string ⟨#[]⟩,.bool false,.string ⟨#[]⟩,.int .i64 0,.int .i64 0] 84)).alloc (.cells #[.bool false,.string ⟨#[]⟩,.bool false,.string ⟨#[]⟩,.int .i64 0,.int .i64 0] 84)))) (HZ:Hid (Calls Tryz.prog 87 #[.int .u64 (V1:Int)] ((u.alloc (.cells #[.bool false,.string ⟨#[]⟩,.bool false,.string ⟨#[]⟩,.int .i64 0,.int .i64 0] 84)).alloc (.cells #[.bool false,.string ⟨#[]⟩,.bool false,.string ⟨#[]⟩,.int .i64 0,.int .i64 0] 84)) fun e w'=>e=.returned (.int .i64 Z)/\w'=((u.alloc (.cells #[.bool false,.string ⟨#[]⟩,.bool false,.string ⟨#[]⟩,.int .i64 0,.int .i64 0] 84)).alloc (.cells #[.bool false,.string ⟨#[]⟩,.bool false,.string ⟨#[]⟩,.int .i64 0,.int .i64 0] 84)))) (hi2:1+n0+n1<=len) (l:List Nat) (hlen:l.length=len) (hr:Row u (some ⟨b,off,none⟩) l) (hw0:IntKind.i64.wrap (V0:Int)=(V0:Int)) (hwT:IntKind.i64.wrap (first+Z)=first+Z) (hk0:(bits .and .u8 (c:Int) 1 == 1)=false) (hv0:(bits .and .u8 (c:Int) 2 == 2)=false) :
 Calls Tryz.prog 65 #[.slice (some ⟨b,off,none⟩) len cap,.int .i64 first] u fun e w'=>e=.returned (.tuple #[.agg (Rc.cells ⟨false,⟨#[]⟩,false,⟨#[]⟩,first+Z,(V0:Int)⟩),.int .i64 (1+(n0:Int)+(n1:Int)),.int .i64 0])/\Below u.heap.size u w':=by
 have hbw:b < u.heap.size:=World.block_lt_of_cell? _ _ hc0
 have h0I:((len:Int) == 0)=false:=by rw[beq_eq_false_iff_ne];omega
 have h0J:(0:Int) < (len:Int):=by omega
 have h3I:¬(3:Int) < (c:Int):=by omega
 have g0I:¬first < 0:=by omega
 have g1I:¬1125899906842624 < first:=by omega
 have hlI:(len:Int)<=6000:=by omega
 have hlcI:(len:Int)<=(cap:Int):=by omega
 have hiI:1+(n0:Int)<=(len:Int):=by omega
 have hicI:1+(n0:Int)<=(cap:Int):=by omega
 have hi2I:1+(n0:Int)+(n1:Int)<=(len:Int):=by omega
 have hk1:(bits .and .u8 (c:Int) 1 == 1)=false:=hk0
 have hv1:(bits .and .u8 (c:Int) 2 == 2)=false:=hv0
 have tok1:=trivial
 go_enter Tryz.func65,Tryz.ntmps65
 go_wp2_with (first
  | (go_at_call 86;have _t:=tok1;refine Calls.mono HU0.out ?_;clear tok1 _t;rintro e w1 ⟨rfl,hw⟩;subst w1)
  | (go_at_call 86;refine Calls.mono HU1.out ?_;rintro e w1 ⟨rfl,hw⟩;subst w1)
  | (go_at_call 87;refine Calls.mono HZ.out ?_;rintro e w1 ⟨rfl,hw⟩;subst w1))
 clear HU0 HU1 HZ
 refine aD (fun y=>Below ((u.alloc (.cells #[.bool false,.string ⟨#[]⟩,.bool false,.string ⟨#[]⟩,.int .i64 0,.int .i64 0] 84)).alloc (.cells #[.bool false,.string ⟨#[]⟩,.bool false,.string ⟨#[]⟩,.int .i64 0,.int .i64 0] 84)).heap.size ((u.alloc (.cells #[.bool false,.string ⟨#[]⟩,.bool false,.string ⟨#[]⟩,.int .i64 0,.int .i64 0] 84)).alloc (.cells #[.bool false,.string ⟨#[]⟩,.bool false,.string ⟨#[]⟩,.int .i64 0,.int .i64 0] 84)) y) 17 (by kernel_rfl) ((Below.refl _ _).drew) (fun hHeld=>?_)
 refine lA 0 ?_
 try simp only[Act.put,sP]
 refine lA 1 ?_
 try simp only[Act.put,sP]
 refine lA 2 ?_
 try simp only[Act.put,sP]
 refine lA 3 ?_
 try simp only[Act.put,sP]
 refine lA 4 ?_
 try simp only[Act.put,sP]
 refine lA 5 ?_
 try simp only[Act.put,sP]
 refine lA 6 ?_
 try simp only[Act.put,sP]
 refine lA 7 ?_
 try simp only[Act.put,sP]
 refine lA 8 ?_
 try simp only[Act.put,sP]
 refine lA 9 ?_
 try simp only[Act.put,sP]
 refine lA 10 ?_
 try simp only[Act.put,sP]
 refine lA 11 ?_
 try simp only[Act.put,sP]
 refine lA 12 ?_
 try simp only[Act.put,sP]
 refine lA 13 ?_
 try simp only[Act.put,sP]
 refine lA 14 ?_
 try simp only[Act.put,sP]
 refine lA 15 ?_
 try simp only[Act.put,sP]
 refine lo 16 fun K hK=>?_
 go_simp
 refine hK.out _ _ ?_ (fun hH2=>?_)
 ·first
   | exact((Below.refl _ _).drew).alloc (Nat.le_refl _) _
   | exact((Below.refl _ _).alloc (Nat.le_refl _) _).drew
 clear hK hHeld
 try simp only[Act.put,sP]
 refine ll 17 fun K hK=>?_
 refine wp_store_row 84 _ _ rfl (u.heap.size+1+1) (Rc.cells ⟨false,⟨#[]⟩,false,⟨#[]⟩,first+Z,(V0:Int)⟩) rfl rfl 84 rz.cells (bW u) Tryz.info84 rfl (bM _) ?_
 refine hK.out _ _ ?_
 clear hK
 try simp only[Act.put,sP]
 generalize hw3:World.setRow _ _ _=w3
 have hbx:w3.heap[u.heap.size+1+1]? = some (.cells (Rc.cells ⟨false,⟨#[]⟩,false,⟨#[]⟩,first+Z,(V0:Int)⟩) 84 (0,0)):=by rw[<-hw3];exact setRow_heap _ _ _ _ _ _ (bW u)
 have hb3:Below ((u.alloc (.cells #[.bool false,.string ⟨#[]⟩,.bool false,.string ⟨#[]⟩,.int .i64 0,.int .i64 0] 84)).alloc (.cells #[.bool false,.string ⟨#[]⟩,.bool false,.string ⟨#[]⟩,.int .i64 0,.int .i64 0] 84)).heap.size ((u.alloc (.cells #[.bool false,.string ⟨#[]⟩,.bool false,.string ⟨#[]⟩,.int .i64 0,.int .i64 0] 84)).alloc (.cells #[.bool false,.string ⟨#[]⟩,.bool false,.string ⟨#[]⟩,.int .i64 0,.int .i64 0] 84)) w3:=by rw[<-hw3];exact below_setRow hH2 (by simp) _
 clear hw3 hH2
 obtain⟨e0,e1,e2,e3,e4,e5⟩:=dB hbx
 simp only at e0 e1 e2 e3 e4 e5
 have ef:=iA hbx
 have hz3:=World.block_lt_of_cell? _ _ e0
 simp only at hz3
 have HFF:Hid _:=hbx
 have HBB:Hid _:=hb3
 have Hb3x:Hid _:=hb3
 clear hbx hb3
 go_wp2_with (first
  | (have _t:=h0;refine wpList_load_row rfl 84 _ rfl (u.heap.size+1+1) rfl 84 (Rc.cells ⟨false,⟨#[]⟩,false,⟨#[]⟩,first+Z,(V0:Int)⟩) (0,0) _ HFF.out Tryz.underlying84 rfl Tryz.info84 ?_)
  | (have _t:=h0;refine wpList_store_row rfl 84 _ _ rfl u.heap.size (Rc.cells ⟨false,⟨#[]⟩,false,⟨#[]⟩,first+Z,(V0:Int)⟩) rfl rfl 84 rz.cells (aF HBB.out).1 Tryz.info84 rfl (bM _) ?_))
 refine bodyPost_ret (v:=.tuple #[.agg (Rc.cells ⟨false,⟨#[]⟩,false,⟨#[]⟩,first+Z,(V0:Int)⟩),.int .i64 (1+(n0:Int)+(n1:Int)),.int .i64 0]) ?_ rfl ⟨rfl,?_⟩
 ·exact aN (p:=4) (u:=5) (u2:=6) (by rfl) _ _ u.heap.size ⟨false,⟨#[]⟩,false,⟨#[]⟩,first+Z,(V0:Int)⟩ _ _ (by rfl) (by rfl) (by rfl) (setRow_heap _ _ _ _ _ _ (aF HBB.out).1)
 ·exact below_setRow (aF HBB.out).2.2 (Nat.le_refl _) _
theorem aEm (b off cap len:Nat) (first:Int) (u:World) (c:Nat) (hc0:u.cell? ⟨b,off,none⟩=some (.int .u8 (c:Int))) (h0:0 < len) (hl:len<=6000) (hlc:len<=cap) (hcm:cap<=9223372036854775807) (h3:c<=3) (f0:0<=first) (f1:first<=1125899906842624) (hc1:¬cap=1) (V0 n0:Nat) (hn0:((n0:Int) == 0)=false) (hV:¬(100:Int)<=(V0:Int)) (HU0:Hid (Calls Tryz.prog 86 #[.slice (some ⟨b,off+1,none⟩) (len - 1) (cap - 1)] ((u.alloc (.cells #[.bool false,.string ⟨#[]⟩,.bool false,.string ⟨#[]⟩,.int .i64 0,.int .i64 0] 84)).alloc (.cells #[.bool false,.string ⟨#[]⟩,.bool false,.string ⟨#[]⟩,.int .i64 0,.int .i64 0] 84)) fun e w'=>e=.returned (.tuple #[.int .u64 (V0:Int),.int .i64 (n0:Int)])/\w'=((u.alloc (.cells #[.bool false,.string ⟨#[]⟩,.bool false,.string ⟨#[]⟩,.int .i64 0,.int .i64 0] 84)).alloc (.cells #[.bool false,.string ⟨#[]⟩,.bool false,.string ⟨#[]⟩,.int .i64 0,.int .i64 0] 84)))) (hi:1+n0<=len) (hc2:¬cap=1+n0) (V1 n1:Nat) (Z:Int) (hn1:((n1:Int) == 0)=false) (hd0:¬Z < -first) (hd:¬1125899906842624 - first < Z) (HU1:Hid (Calls Tryz.prog 86 #[.slice (some ⟨b,off+(1+n0),none⟩) (len - (1+n0)) (cap - (1+n0))] ((u.alloc (.cells #[.bool false,.string ⟨#[]⟩,.bool false,.string ⟨#[]⟩,.int .i64 0,.int .i64 0] 84)).alloc (.cells #[.bool false,.string ⟨#[]⟩,.bool false,.string ⟨#[]⟩,.int .i64 0,.int .i64 0] 84)) fun e w'=>e=.returned (.tuple #[.int .u64 (V1:Int),.int .i64 (n1:Int)])/\w'=((u.alloc (.cells #[.bool false,.string ⟨#[]⟩,.bool false,.string ⟨#[]⟩,.int .i64 0,.int .i64 0] 84)).alloc (.cells #[.bool false,.string ⟨#[]⟩,.bool false,.string ⟨#[]⟩,.int .i64 0,.int .i64 0] 84)))) (HZ:Hid (Calls Tryz.prog 87 #[.int .u64 (V1:Int)] ((u.alloc (.cells #[.bool false,.string ⟨#[]⟩,.bool false,.string ⟨#[]⟩,.int .i64 0,.int .i64 0] 84)).alloc (.cells #[.bool false,.string ⟨#[]⟩,.bool false,.string ⟨#[]⟩,.int .i64 0,.int .i64 0] 84)) fun e w'=>e=.returned (.int .i64 Z)/\w'=((u.alloc (.cells #[.bool false,.string ⟨#[]⟩,.bool false,.string ⟨#[]⟩,.int .i64 0,.int .i64 0] 84)).alloc (.cells #[.bool false,.string ⟨#[]⟩,.bool false,.string ⟨#[]⟩,.int .i64 0,.int .i64 0] 84)))) (hi2:1+n0+n1<=len) (l:List Nat) (hlen:l.length=len) (hr:Row u (some ⟨b,off,none⟩) l) (hw0:IntKind.i64.wrap (V0:Int)=(V0:Int)) (hwT:IntKind.i64.wrap (first+Z)=first+Z) (hk0:(bits .and .u8 (c:Int) 1 == 1)=true) (hv0:(bits .and .u8 (c:Int) 2 == 2)=false) (s1:ByteArray) (j1:Int) (hj1:0<=j1) (HT1:Hid (∀w',Row w' (some ⟨b,off,none⟩) l->Calls Tryz.prog 88 #[.slice (some ⟨b,off,none⟩) len cap,.int .i64 (1+(n0:Int)+(n1:Int))] w' fun e w2=>e=.returned (.tuple #[.string s1,.int .i64 j1])/\w2=w')) :
 Calls Tryz.prog 65 #[.slice (some ⟨b,off,none⟩) len cap,.int .i64 first] u fun e w'=>e=.returned (.tuple #[.agg (Rc.cells ⟨true,s1,false,⟨#[]⟩,first+Z,(V0:Int)⟩),.int .i64 j1,.int .i64 0])/\Below u.heap.size u w':=by
 have hbw:b < u.heap.size:=World.block_lt_of_cell? _ _ hc0
 have h0I:((len:Int) == 0)=false:=by rw[beq_eq_false_iff_ne];omega
 have h0J:(0:Int) < (len:Int):=by omega
 have h3I:¬(3:Int) < (c:Int):=by omega
 have g0I:¬first < 0:=by omega
 have g1I:¬1125899906842624 < first:=by omega
 have hlI:(len:Int)<=6000:=by omega
 have hlcI:(len:Int)<=(cap:Int):=by omega
 have hiI:1+(n0:Int)<=(len:Int):=by omega
 have hicI:1+(n0:Int)<=(cap:Int):=by omega
 have hi2I:1+(n0:Int)+(n1:Int)<=(len:Int):=by omega
 have hk1:(bits .and .u8 (c:Int) 1 == 1)=true:=hk0
 have hv1:(bits .and .u8 (c:Int) 2 == 2)=false:=hv0
 have tok1:=trivial
 go_enter Tryz.func65,Tryz.ntmps65
 go_wp2_with (first
  | (go_at_call 86;have _t:=tok1;refine Calls.mono HU0.out ?_;clear tok1 _t;rintro e w1 ⟨rfl,hw⟩;subst w1)
  | (go_at_call 86;refine Calls.mono HU1.out ?_;rintro e w1 ⟨rfl,hw⟩;subst w1)
  | (go_at_call 87;refine Calls.mono HZ.out ?_;rintro e w1 ⟨rfl,hw⟩;subst w1))
 clear HU0 HU1 HZ
 refine aD (fun y=>Below ((u.alloc (.cells #[.bool false,.string ⟨#[]⟩,.bool false,.string ⟨#[]⟩,.int .i64 0,.int .i64 0] 84)).alloc (.cells #[.bool false,.string ⟨#[]⟩,.bool false,.string ⟨#[]⟩,.int .i64 0,.int .i64 0] 84)).heap.size ((u.alloc (.cells #[.bool false,.string ⟨#[]⟩,.bool false,.string ⟨#[]⟩,.int .i64 0,.int .i64 0] 84)).alloc (.cells #[.bool false,.string ⟨#[]⟩,.bool false,.string ⟨#[]⟩,.int .i64 0,.int .i64 0] 84)) y) 17 (by kernel_rfl) ((Below.refl _ _).drew) (fun hHeld=>?_)
 refine lA 0 ?_
 try simp only[Act.put,sP]
 refine lA 1 ?_
 try simp only[Act.put,sP]
 refine lA 2 ?_
 try simp only[Act.put,sP]
 refine lA 3 ?_
 try simp only[Act.put,sP]
 refine lA 4 ?_
 try simp only[Act.put,sP]
 refine lA 5 ?_
 try simp only[Act.put,sP]
 refine lA 6 ?_
 try simp only[Act.put,sP]
 refine lA 7 ?_
 try simp only[Act.put,sP]
 refine lA 8 ?_
 try simp only[Act.put,sP]
 refine lA 9 ?_
 try simp only[Act.put,sP]
 refine lA 10 ?_
 try simp only[Act.put,sP]
 refine lA 11 ?_
 try simp only[Act.put,sP]
 refine lA 12 ?_
 try simp only[Act.put,sP]
 refine lA 13 ?_
 try simp only[Act.put,sP]
 refine lA 14 ?_
 try simp only[Act.put,sP]
 refine lA 15 ?_
 try simp only[Act.put,sP]
 refine lo 16 fun K hK=>?_
 go_simp
 refine hK.out _ _ ?_ (fun hH2=>?_)
 ·first
   | exact((Below.refl _ _).drew).alloc (Nat.le_refl _) _
   | exact((Below.refl _ _).alloc (Nat.le_refl _) _).drew
 clear hK hHeld
 try simp only[Act.put,sP]
 refine ll 17 fun K hK=>?_
 refine wp_store_row 84 _ _ rfl (u.heap.size+1+1) (Rc.cells ⟨true,⟨#[]⟩,false,⟨#[]⟩,first+Z,(V0:Int)⟩) rfl rfl 84 rz.cells (bW u) Tryz.info84 rfl (bM _) ?_
 refine hK.out _ _ ?_
 clear hK
 try simp only[Act.put,sP]
 generalize hw3:World.setRow _ _ _=w3
 have hbx:w3.heap[u.heap.size+1+1]? = some (.cells (Rc.cells ⟨true,⟨#[]⟩,false,⟨#[]⟩,first+Z,(V0:Int)⟩) 84 (0,0)):=by rw[<-hw3];exact setRow_heap _ _ _ _ _ _ (bW u)
 have hb3:Below ((u.alloc (.cells #[.bool false,.string ⟨#[]⟩,.bool false,.string ⟨#[]⟩,.int .i64 0,.int .i64 0] 84)).alloc (.cells #[.bool false,.string ⟨#[]⟩,.bool false,.string ⟨#[]⟩,.int .i64 0,.int .i64 0] 84)).heap.size ((u.alloc (.cells #[.bool false,.string ⟨#[]⟩,.bool false,.string ⟨#[]⟩,.int .i64 0,.int .i64 0] 84)).alloc (.cells #[.bool false,.string ⟨#[]⟩,.bool false,.string ⟨#[]⟩,.int .i64 0,.int .i64 0] 84)) w3:=by rw[<-hw3];exact below_setRow hH2 (by simp) _
 clear hw3 hH2
 obtain⟨e0,e1,e2,e3,e4,e5⟩:=dB hbx
 simp only at e0 e1 e2 e3 e4 e5
 have ef:=iA hbx
 have hz3:=World.block_lt_of_cell? _ _ e0
 simp only at hz3
 have HT1t:=trivial
 have hf1:(w3.setCell ⟨u.heap.size+1+1,1,none⟩ (.string s1)).heap[u.heap.size+1+1]? = some (.cells (Rc.cells ⟨true,s1,false,⟨#[]⟩,first+Z,(V0:Int)⟩) 84 (0,0)):=by rw[aH hbx];rfl
 have hB1:Below ((u.alloc (.cells #[.bool false,.string ⟨#[]⟩,.bool false,.string ⟨#[]⟩,.int .i64 0,.int .i64 0] 84)).alloc (.cells #[.bool false,.string ⟨#[]⟩,.bool false,.string ⟨#[]⟩,.int .i64 0,.int .i64 0] 84)).heap.size ((u.alloc (.cells #[.bool false,.string ⟨#[]⟩,.bool false,.string ⟨#[]⟩,.int .i64 0,.int .i64 0] 84)).alloc (.cells #[.bool false,.string ⟨#[]⟩,.bool false,.string ⟨#[]⟩,.int .i64 0,.int .i64 0] 84)) (w3.setCell ⟨u.heap.size+1+1,1,none⟩ (.string s1)):=hb3.setCell (p:=⟨u.heap.size+1+1,1,none⟩) (by simp) _
 have HFF:Hid _:=hf1
 have HBB:Hid _:=hB1
 have Hb1:Hid _:=hB1
 have Hb3x:Hid _:=hb3
 clear hbx hb3 hf1 hB1
 go_wp2_with (first
  | (go_at_call 88;have _t:=HT1t;refine(HT1.out _ (hr.below (aF Hb3x.out).2.2)).mono ?_;clear HT1t _t;rintro e w4 ⟨rfl,hw⟩;subst w4)
  | (have _t:=h0;refine wpList_load_row rfl 84 _ rfl (u.heap.size+1+1) rfl 84 (Rc.cells ⟨true,s1,false,⟨#[]⟩,first+Z,(V0:Int)⟩) (0,0) _ HFF.out Tryz.underlying84 rfl Tryz.info84 ?_)
  | (have _t:=h0;refine wpList_store_row rfl 84 _ _ rfl u.heap.size (Rc.cells ⟨true,s1,false,⟨#[]⟩,first+Z,(V0:Int)⟩) rfl rfl 84 rz.cells (aF HBB.out).1 Tryz.info84 rfl (bM _) ?_))
 refine bodyPost_ret (v:=.tuple #[.agg (Rc.cells ⟨true,s1,false,⟨#[]⟩,first+Z,(V0:Int)⟩),.int .i64 j1,.int .i64 0]) ?_ rfl ⟨rfl,?_⟩
 ·exact aN (p:=4) (u:=5) (u2:=6) (by rfl) _ _ u.heap.size ⟨true,s1,false,⟨#[]⟩,first+Z,(V0:Int)⟩ _ _ (by rfl) (by rfl) (by rfl) (setRow_heap _ _ _ _ _ _ (aF HBB.out).1)
 ·exact below_setRow (aF HBB.out).2.2 (Nat.le_refl _) _
theorem aBz (b off cap len:Nat) (first:Int) (u:World) (c:Nat) (hc0:u.cell? ⟨b,off,none⟩=some (.int .u8 (c:Int))) (h0:0 < len) (hl:len<=6000) (hlc:len<=cap) (hcm:cap<=9223372036854775807) (h3:c<=3) (f0:0<=first) (f1:first<=1125899906842624) (hc1:¬cap=1) (V0 n0:Nat) (hn0:((n0:Int) == 0)=false) (hV:¬(100:Int)<=(V0:Int)) (HU0:Hid (Calls Tryz.prog 86 #[.slice (some ⟨b,off+1,none⟩) (len - 1) (cap - 1)] ((u.alloc (.cells #[.bool false,.string ⟨#[]⟩,.bool false,.string ⟨#[]⟩,.int .i64 0,.int .i64 0] 84)).alloc (.cells #[.bool false,.string ⟨#[]⟩,.bool false,.string ⟨#[]⟩,.int .i64 0,.int .i64 0] 84)) fun e w'=>e=.returned (.tuple #[.int .u64 (V0:Int),.int .i64 (n0:Int)])/\w'=((u.alloc (.cells #[.bool false,.string ⟨#[]⟩,.bool false,.string ⟨#[]⟩,.int .i64 0,.int .i64 0] 84)).alloc (.cells #[.bool false,.string ⟨#[]⟩,.bool false,.string ⟨#[]⟩,.int .i64 0,.int .i64 0] 84)))) (hi:1+n0<=len) (hc2:¬cap=1+n0) (V1 n1:Nat) (Z:Int) (hn1:((n1:Int) == 0)=false) (hd0:¬Z < -first) (hd:¬1125899906842624 - first < Z) (HU1:Hid (Calls Tryz.prog 86 #[.slice (some ⟨b,off+(1+n0),none⟩) (len - (1+n0)) (cap - (1+n0))] ((u.alloc (.cells #[.bool false,.string ⟨#[]⟩,.bool false,.string ⟨#[]⟩,.int .i64 0,.int .i64 0] 84)).alloc (.cells #[.bool false,.string ⟨#[]⟩,.bool false,.string ⟨#[]⟩,.int .i64 0,.int .i64 0] 84)) fun e w'=>e=.returned (.tuple #[.int .u64 (V1:Int),.int .i64 (n1:Int)])/\w'=((u.alloc (.cells #[.bool false,.string ⟨#[]⟩,.bool false,.string ⟨#[]⟩,.int .i64 0,.int .i64 0] 84)).alloc (.cells #[.bool false,.string ⟨#[]⟩,.bool false,.string ⟨#[]⟩,.int .i64 0,.int .i64 0] 84)))) (HZ:Hid (Calls Tryz.prog 87 #[.int .u64 (V1:Int)] ((u.alloc (.cells #[.bool false,.string ⟨#[]⟩,.bool false,.string ⟨#[]⟩,.int .i64 0,.int .i64 0] 84)).alloc (.cells #[.bool false,.string ⟨#[]⟩,.bool false,.string ⟨#[]⟩,.int .i64 0,.int .i64 0] 84)) fun e w'=>e=.returned (.int .i64 Z)/\w'=((u.alloc (.cells #[.bool false,.string ⟨#[]⟩,.bool false,.string ⟨#[]⟩,.int .i64 0,.int .i64 0] 84)).alloc (.cells #[.bool false,.string ⟨#[]⟩,.bool false,.string ⟨#[]⟩,.int .i64 0,.int .i64 0] 84)))) (hi2:1+n0+n1<=len) (l:List Nat) (hlen:l.length=len) (hr:Row u (some ⟨b,off,none⟩) l) (hw0:IntKind.i64.wrap (V0:Int)=(V0:Int)) (hwT:IntKind.i64.wrap (first+Z)=first+Z) (hk0:(bits .and .u8 (c:Int) 1 == 1)=true) (hv0:(bits .and .u8 (c:Int) 2 == 2)=false) (s1:ByteArray) (j1:Int) (hj1:j1 < 0) (HT1:Hid (∀w',Row w' (some ⟨b,off,none⟩) l->Calls Tryz.prog 88 #[.slice (some ⟨b,off,none⟩) len cap,.int .i64 (1+(n0:Int)+(n1:Int))] w' fun e w2=>e=.returned (.tuple #[.string s1,.int .i64 j1])/\w2=w')) :
 Calls Tryz.prog 65 #[.slice (some ⟨b,off,none⟩) len cap,.int .i64 first] u fun e w'=>e=.returned (.tuple #[.agg rz.cells,.int .i64 0,.int .i64 10])/\Below u.heap.size u w':=by
 have hbw:b < u.heap.size:=World.block_lt_of_cell? _ _ hc0
 have h0I:((len:Int) == 0)=false:=by rw[beq_eq_false_iff_ne];omega
 have h0J:(0:Int) < (len:Int):=by omega
 have h3I:¬(3:Int) < (c:Int):=by omega
 have g0I:¬first < 0:=by omega
 have g1I:¬1125899906842624 < first:=by omega
 have hlI:(len:Int)<=6000:=by omega
 have hlcI:(len:Int)<=(cap:Int):=by omega
 have hiI:1+(n0:Int)<=(len:Int):=by omega
 have hicI:1+(n0:Int)<=(cap:Int):=by omega
 have hi2I:1+(n0:Int)+(n1:Int)<=(len:Int):=by omega
 have hk1:(bits .and .u8 (c:Int) 1 == 1)=true:=hk0
 have hv1:(bits .and .u8 (c:Int) 2 == 2)=false:=hv0
 have tok1:=trivial
 go_enter Tryz.func65,Tryz.ntmps65
 go_wp2_with (first
  | (go_at_call 86;have _t:=tok1;refine Calls.mono HU0.out ?_;clear tok1 _t;rintro e w1 ⟨rfl,hw⟩;subst w1)
  | (go_at_call 86;refine Calls.mono HU1.out ?_;rintro e w1 ⟨rfl,hw⟩;subst w1)
  | (go_at_call 87;refine Calls.mono HZ.out ?_;rintro e w1 ⟨rfl,hw⟩;subst w1))
 clear HU0 HU1 HZ
 refine aD (fun y=>Below ((u.alloc (.cells #[.bool false,.string ⟨#[]⟩,.bool false,.string ⟨#[]⟩,.int .i64 0,.int .i64 0] 84)).alloc (.cells #[.bool false,.string ⟨#[]⟩,.bool false,.string ⟨#[]⟩,.int .i64 0,.int .i64 0] 84)).heap.size ((u.alloc (.cells #[.bool false,.string ⟨#[]⟩,.bool false,.string ⟨#[]⟩,.int .i64 0,.int .i64 0] 84)).alloc (.cells #[.bool false,.string ⟨#[]⟩,.bool false,.string ⟨#[]⟩,.int .i64 0,.int .i64 0] 84)) y) 17 (by kernel_rfl) ((Below.refl _ _).drew) (fun hHeld=>?_)
 refine lA 0 ?_
 try simp only[Act.put,sP]
 refine lA 1 ?_
 try simp only[Act.put,sP]
 refine lA 2 ?_
 try simp only[Act.put,sP]
 refine lA 3 ?_
 try simp only[Act.put,sP]
 refine lA 4 ?_
 try simp only[Act.put,sP]
 refine lA 5 ?_
 try simp only[Act.put,sP]
 refine lA 6 ?_
 try simp only[Act.put,sP]
 refine lA 7 ?_
 try simp only[Act.put,sP]
 refine lA 8 ?_
 try simp only[Act.put,sP]
 refine lA 9 ?_
 try simp only[Act.put,sP]
 refine lA 10 ?_
 try simp only[Act.put,sP]
 refine lA 11 ?_
 try simp only[Act.put,sP]
 refine lA 12 ?_
 try simp only[Act.put,sP]
 refine lA 13 ?_
 try simp only[Act.put,sP]
 refine lA 14 ?_
 try simp only[Act.put,sP]
 refine lA 15 ?_
 try simp only[Act.put,sP]
 refine lo 16 fun K hK=>?_
 go_simp
 refine hK.out _ _ ?_ (fun hH2=>?_)
 ·first
   | exact((Below.refl _ _).drew).alloc (Nat.le_refl _) _
   | exact((Below.refl _ _).alloc (Nat.le_refl _) _).drew
 clear hK hHeld
 try simp only[Act.put,sP]
 refine ll 17 fun K hK=>?_
 refine wp_store_row 84 _ _ rfl (u.heap.size+1+1) (Rc.cells ⟨true,⟨#[]⟩,false,⟨#[]⟩,first+Z,(V0:Int)⟩) rfl rfl 84 rz.cells (bW u) Tryz.info84 rfl (bM _) ?_
 refine hK.out _ _ ?_
 clear hK
 try simp only[Act.put,sP]
 generalize hw3:World.setRow _ _ _=w3
 have hbx:w3.heap[u.heap.size+1+1]? = some (.cells (Rc.cells ⟨true,⟨#[]⟩,false,⟨#[]⟩,first+Z,(V0:Int)⟩) 84 (0,0)):=by rw[<-hw3];exact setRow_heap _ _ _ _ _ _ (bW u)
 have hb3:Below ((u.alloc (.cells #[.bool false,.string ⟨#[]⟩,.bool false,.string ⟨#[]⟩,.int .i64 0,.int .i64 0] 84)).alloc (.cells #[.bool false,.string ⟨#[]⟩,.bool false,.string ⟨#[]⟩,.int .i64 0,.int .i64 0] 84)).heap.size ((u.alloc (.cells #[.bool false,.string ⟨#[]⟩,.bool false,.string ⟨#[]⟩,.int .i64 0,.int .i64 0] 84)).alloc (.cells #[.bool false,.string ⟨#[]⟩,.bool false,.string ⟨#[]⟩,.int .i64 0,.int .i64 0] 84)) w3:=by rw[<-hw3];exact below_setRow hH2 (by simp) _
 clear hw3 hH2
 obtain⟨e0,e1,e2,e3,e4,e5⟩:=dB hbx
 simp only at e0 e1 e2 e3 e4 e5
 have ef:=iA hbx
 have hz3:=World.block_lt_of_cell? _ _ e0
 simp only at hz3
 have HT1t:=trivial
 have hf1:(w3.setCell ⟨u.heap.size+1+1,1,none⟩ (.string s1)).heap[u.heap.size+1+1]? = some (.cells (Rc.cells ⟨true,s1,false,⟨#[]⟩,first+Z,(V0:Int)⟩) 84 (0,0)):=by rw[aH hbx];rfl
 have hB1:Below ((u.alloc (.cells #[.bool false,.string ⟨#[]⟩,.bool false,.string ⟨#[]⟩,.int .i64 0,.int .i64 0] 84)).alloc (.cells #[.bool false,.string ⟨#[]⟩,.bool false,.string ⟨#[]⟩,.int .i64 0,.int .i64 0] 84)).heap.size ((u.alloc (.cells #[.bool false,.string ⟨#[]⟩,.bool false,.string ⟨#[]⟩,.int .i64 0,.int .i64 0] 84)).alloc (.cells #[.bool false,.string ⟨#[]⟩,.bool false,.string ⟨#[]⟩,.int .i64 0,.int .i64 0] 84)) (w3.setCell ⟨u.heap.size+1+1,1,none⟩ (.string s1)):=hb3.setCell (p:=⟨u.heap.size+1+1,1,none⟩) (by simp) _
 have HFF:Hid _:=hf1
 have HBB:Hid _:=hB1
 have Hb1:Hid _:=hB1
 have Hb3x:Hid _:=hb3
 clear hbx hb3 hf1 hB1
 go_wp2_with (first
  | (go_at_call 88;have _t:=HT1t;refine(HT1.out _ (hr.below (aF Hb3x.out).2.2)).mono ?_;clear HT1t _t;rintro e w4 ⟨rfl,hw⟩;subst w4)
  | (have _t:=h0;refine wpList_load_row rfl 84 _ rfl (u.heap.size+1) rfl 84 rz.cells (0,0) _ (aF HBB.out).2.1 Tryz.underlying84 rfl Tryz.info84 ?_)
  | (have _t:=h0;refine wpList_store_row rfl 84 _ _ rfl u.heap.size rz.cells rfl rfl 84 rz.cells (aF HBB.out).1 Tryz.info84 rfl (bM _) ?_))
 refine bodyPost_ret (v:=.tuple #[.agg rz.cells,.int .i64 0,.int .i64 10]) ?_ rfl ⟨rfl,?_⟩
 ·exact aN (p:=4) (u:=5) (u2:=6) (by rfl) _ _ u.heap.size rz _ _ (by rfl) (by rfl) (by rfl) (setRow_heap _ _ _ _ _ _ (aF HBB.out).1)
 ·exact below_setRow (aF HBB.out).2.2 (Nat.le_refl _) _
theorem aDj (b off cap len:Nat) (first:Int) (u:World) (c:Nat) (hc0:u.cell? ⟨b,off,none⟩=some (.int .u8 (c:Int))) (h0:0 < len) (hl:len<=6000) (hlc:len<=cap) (hcm:cap<=9223372036854775807) (h3:c<=3) (f0:0<=first) (f1:first<=1125899906842624) (hc1:¬cap=1) (V0 n0:Nat) (hn0:((n0:Int) == 0)=false) (hV:¬(100:Int)<=(V0:Int)) (HU0:Hid (Calls Tryz.prog 86 #[.slice (some ⟨b,off+1,none⟩) (len - 1) (cap - 1)] ((u.alloc (.cells #[.bool false,.string ⟨#[]⟩,.bool false,.string ⟨#[]⟩,.int .i64 0,.int .i64 0] 84)).alloc (.cells #[.bool false,.string ⟨#[]⟩,.bool false,.string ⟨#[]⟩,.int .i64 0,.int .i64 0] 84)) fun e w'=>e=.returned (.tuple #[.int .u64 (V0:Int),.int .i64 (n0:Int)])/\w'=((u.alloc (.cells #[.bool false,.string ⟨#[]⟩,.bool false,.string ⟨#[]⟩,.int .i64 0,.int .i64 0] 84)).alloc (.cells #[.bool false,.string ⟨#[]⟩,.bool false,.string ⟨#[]⟩,.int .i64 0,.int .i64 0] 84)))) (hi:1+n0<=len) (hc2:¬cap=1+n0) (V1 n1:Nat) (Z:Int) (hn1:((n1:Int) == 0)=false) (hd0:¬Z < -first) (hd:¬1125899906842624 - first < Z) (HU1:Hid (Calls Tryz.prog 86 #[.slice (some ⟨b,off+(1+n0),none⟩) (len - (1+n0)) (cap - (1+n0))] ((u.alloc (.cells #[.bool false,.string ⟨#[]⟩,.bool false,.string ⟨#[]⟩,.int .i64 0,.int .i64 0] 84)).alloc (.cells #[.bool false,.string ⟨#[]⟩,.bool false,.string ⟨#[]⟩,.int .i64 0,.int .i64 0] 84)) fun e w'=>e=.returned (.tuple #[.int .u64 (V1:Int),.int .i64 (n1:Int)])/\w'=((u.alloc (.cells #[.bool false,.string ⟨#[]⟩,.bool false,.string ⟨#[]⟩,.int .i64 0,.int .i64 0] 84)).alloc (.cells #[.bool false,.string ⟨#[]⟩,.bool false,.string ⟨#[]⟩,.int .i64 0,.int .i64 0] 84)))) (HZ:Hid (Calls Tryz.prog 87 #[.int .u64 (V1:Int)] ((u.alloc (.cells #[.bool false,.string ⟨#[]⟩,.bool false,.string ⟨#[]⟩,.int .i64 0,.int .i64 0] 84)).alloc (.cells #[.bool false,.string ⟨#[]⟩,.bool false,.string ⟨#[]⟩,.int .i64 0,.int .i64 0] 84)) fun e w'=>e=.returned (.int .i64 Z)/\w'=((u.alloc (.cells #[.bool false,.string ⟨#[]⟩,.bool false,.string ⟨#[]⟩,.int .i64 0,.int .i64 0] 84)).alloc (.cells #[.bool false,.string ⟨#[]⟩,.bool false,.string ⟨#[]⟩,.int .i64 0,.int .i64 0] 84)))) (hi2:1+n0+n1<=len) (l:List Nat) (hlen:l.length=len) (hr:Row u (some ⟨b,off,none⟩) l) (hw0:IntKind.i64.wrap (V0:Int)=(V0:Int)) (hwT:IntKind.i64.wrap (first+Z)=first+Z) (hk0:(bits .and .u8 (c:Int) 1 == 1)=false) (hv0:(bits .and .u8 (c:Int) 2 == 2)=true) (s2:ByteArray) (j2:Int) (hj2:0<=j2) (HT2:Hid (∀w',Row w' (some ⟨b,off,none⟩) l->Calls Tryz.prog 88 #[.slice (some ⟨b,off,none⟩) len cap,.int .i64 (1+(n0:Int)+(n1:Int))] w' fun e w2=>e=.returned (.tuple #[.string s2,.int .i64 j2])/\w2=w')) :
 Calls Tryz.prog 65 #[.slice (some ⟨b,off,none⟩) len cap,.int .i64 first] u fun e w'=>e=.returned (.tuple #[.agg (Rc.cells ⟨false,⟨#[]⟩,true,s2,first+Z,(V0:Int)⟩),.int .i64 j2,.int .i64 0])/\Below u.heap.size u w':=by
 have hbw:b < u.heap.size:=World.block_lt_of_cell? _ _ hc0
 have h0I:((len:Int) == 0)=false:=by rw[beq_eq_false_iff_ne];omega
 have h0J:(0:Int) < (len:Int):=by omega
 have h3I:¬(3:Int) < (c:Int):=by omega
 have g0I:¬first < 0:=by omega
 have g1I:¬1125899906842624 < first:=by omega
 have hlI:(len:Int)<=6000:=by omega
 have hlcI:(len:Int)<=(cap:Int):=by omega
 have hiI:1+(n0:Int)<=(len:Int):=by omega
 have hicI:1+(n0:Int)<=(cap:Int):=by omega
 have hi2I:1+(n0:Int)+(n1:Int)<=(len:Int):=by omega
 have hk1:(bits .and .u8 (c:Int) 1 == 1)=false:=hk0
 have hv1:(bits .and .u8 (c:Int) 2 == 2)=true:=hv0
 have tok1:=trivial
 go_enter Tryz.func65,Tryz.ntmps65
 go_wp2_with (first
  | (go_at_call 86;have _t:=tok1;refine Calls.mono HU0.out ?_;clear tok1 _t;rintro e w1 ⟨rfl,hw⟩;subst w1)
  | (go_at_call 86;refine Calls.mono HU1.out ?_;rintro e w1 ⟨rfl,hw⟩;subst w1)
  | (go_at_call 87;refine Calls.mono HZ.out ?_;rintro e w1 ⟨rfl,hw⟩;subst w1))
 clear HU0 HU1 HZ
 refine aD (fun y=>Below ((u.alloc (.cells #[.bool false,.string ⟨#[]⟩,.bool false,.string ⟨#[]⟩,.int .i64 0,.int .i64 0] 84)).alloc (.cells #[.bool false,.string ⟨#[]⟩,.bool false,.string ⟨#[]⟩,.int .i64 0,.int .i64 0] 84)).heap.size ((u.alloc (.cells #[.bool false,.string ⟨#[]⟩,.bool false,.string ⟨#[]⟩,.int .i64 0,.int .i64 0] 84)).alloc (.cells #[.bool false,.string ⟨#[]⟩,.bool false,.string ⟨#[]⟩,.int .i64 0,.int .i64 0] 84)) y) 17 (by kernel_rfl) ((Below.refl _ _).drew) (fun hHeld=>?_)
 refine lA 0 ?_
 try simp only[Act.put,sP]
 refine lA 1 ?_
 try simp only[Act.put,sP]
 refine lA 2 ?_
 try simp only[Act.put,sP]
 refine lA 3 ?_
 try simp only[Act.put,sP]
 refine lA 4 ?_
 try simp only[Act.put,sP]
 refine lA 5 ?_
 try simp only[Act.put,sP]
 refine lA 6 ?_
 try simp only[Act.put,sP]
 refine lA 7 ?_
 try simp only[Act.put,sP]
 refine lA 8 ?_
 try simp only[Act.put,sP]
 refine lA 9 ?_
 try simp only[Act.put,sP]
 refine lA 10 ?_
 try simp only[Act.put,sP]
 refine lA 11 ?_
 try simp only[Act.put,sP]
 refine lA 12 ?_
 try simp only[Act.put,sP]
 refine lA 13 ?_
 try simp only[Act.put,sP]
 refine lA 14 ?_
 try simp only[Act.put,sP]
 refine lA 15 ?_
 try simp only[Act.put,sP]
 refine lo 16 fun K hK=>?_
 go_simp
 refine hK.out _ _ ?_ (fun hH2=>?_)
 ·first
   | exact((Below.refl _ _).drew).alloc (Nat.le_refl _) _
   | exact((Below.refl _ _).alloc (Nat.le_refl _) _).drew
 clear hK hHeld
 try simp only[Act.put,sP]
 refine ll 17 fun K hK=>?_
 refine wp_store_row 84 _ _ rfl (u.heap.size+1+1) (Rc.cells ⟨false,⟨#[]⟩,true,⟨#[]⟩,first+Z,(V0:Int)⟩) rfl rfl 84 rz.cells (bW u) Tryz.info84 rfl (bM _) ?_
 refine hK.out _ _ ?_
 clear hK
 try simp only[Act.put,sP]
 generalize hw3:World.setRow _ _ _=w3
 have hbx:w3.heap[u.heap.size+1+1]? = some (.cells (Rc.cells ⟨false,⟨#[]⟩,true,⟨#[]⟩,first+Z,(V0:Int)⟩) 84 (0,0)):=by rw[<-hw3];exact setRow_heap _ _ _ _ _ _ (bW u)
 have hb3:Below ((u.alloc (.cells #[.bool false,.string ⟨#[]⟩,.bool false,.string ⟨#[]⟩,.int .i64 0,.int .i64 0] 84)).alloc (.cells #[.bool false,.string ⟨#[]⟩,.bool false,.string ⟨#[]⟩,.int .i64 0,.int .i64 0] 84)).heap.size ((u.alloc (.cells #[.bool false,.string ⟨#[]⟩,.bool false,.string ⟨#[]⟩,.int .i64 0,.int .i64 0] 84)).alloc (.cells #[.bool false,.string ⟨#[]⟩,.bool false,.string ⟨#[]⟩,.int .i64 0,.int .i64 0] 84)) w3:=by rw[<-hw3];exact below_setRow hH2 (by simp) _
 clear hw3 hH2
 obtain⟨e0,e1,e2,e3,e4,e5⟩:=dB hbx
 simp only at e0 e1 e2 e3 e4 e5
 have ef:=iA hbx
 have hz3:=World.block_lt_of_cell? _ _ e0
 simp only at hz3
 have HT2t:=trivial
 have hf3:(w3.setCell ⟨u.heap.size+1+1,3,none⟩ (.string s2)).heap[u.heap.size+1+1]? = some (.cells (Rc.cells ⟨false,⟨#[]⟩,true,s2,first+Z,(V0:Int)⟩) 84 (0,0)):=by rw[aH hbx];rfl
 have hB3:Below ((u.alloc (.cells #[.bool false,.string ⟨#[]⟩,.bool false,.string ⟨#[]⟩,.int .i64 0,.int .i64 0] 84)).alloc (.cells #[.bool false,.string ⟨#[]⟩,.bool false,.string ⟨#[]⟩,.int .i64 0,.int .i64 0] 84)).heap.size ((u.alloc (.cells #[.bool false,.string ⟨#[]⟩,.bool false,.string ⟨#[]⟩,.int .i64 0,.int .i64 0] 84)).alloc (.cells #[.bool false,.string ⟨#[]⟩,.bool false,.string ⟨#[]⟩,.int .i64 0,.int .i64 0] 84)) (w3.setCell ⟨u.heap.size+1+1,3,none⟩ (.string s2)):=hb3.setCell (p:=⟨u.heap.size+1+1,3,none⟩) (by simp) _
 have HFF:Hid _:=hf3
 have HBB:Hid _:=hB3
 have Hb3:Hid _:=hB3
 have Hb3x:Hid _:=hb3
 clear hbx hb3 hf3 hB3
 go_wp2_with (first
  | (go_at_call 88;have _t:=HT2t;refine(HT2.out _ (hr.below (aF Hb3x.out).2.2)).mono ?_;clear HT2t _t;rintro e w4 ⟨rfl,hw⟩;subst w4)
  | (have _t:=h0;refine wpList_load_row rfl 84 _ rfl (u.heap.size+1+1) rfl 84 (Rc.cells ⟨false,⟨#[]⟩,true,s2,first+Z,(V0:Int)⟩) (0,0) _ HFF.out Tryz.underlying84 rfl Tryz.info84 ?_)
  | (have _t:=h0;refine wpList_store_row rfl 84 _ _ rfl u.heap.size (Rc.cells ⟨false,⟨#[]⟩,true,s2,first+Z,(V0:Int)⟩) rfl rfl 84 rz.cells (aF HBB.out).1 Tryz.info84 rfl (bM _) ?_))
 refine bodyPost_ret (v:=.tuple #[.agg (Rc.cells ⟨false,⟨#[]⟩,true,s2,first+Z,(V0:Int)⟩),.int .i64 j2,.int .i64 0]) ?_ rfl ⟨rfl,?_⟩
 ·exact aN (p:=4) (u:=5) (u2:=6) (by rfl) _ _ u.heap.size ⟨false,⟨#[]⟩,true,s2,first+Z,(V0:Int)⟩ _ _ (by rfl) (by rfl) (by rfl) (setRow_heap _ _ _ _ _ _ (aF HBB.out).1)
 ·exact below_setRow (aF HBB.out).2.2 (Nat.le_refl _) _
theorem aB9 (b off cap len:Nat) (first:Int) (u:World) (c:Nat) (hc0:u.cell? ⟨b,off,none⟩=some (.int .u8 (c:Int))) (h0:0 < len) (hl:len<=6000) (hlc:len<=cap) (hcm:cap<=9223372036854775807) (h3:c<=3) (f0:0<=first) (f1:first<=1125899906842624) (hc1:¬cap=1) (V0 n0:Nat) (hn0:((n0:Int) == 0)=false) (hV:¬(100:Int)<=(V0:Int)) (HU0:Hid (Calls Tryz.prog 86 #[.slice (some ⟨b,off+1,none⟩) (len - 1) (cap - 1)] ((u.alloc (.cells #[.bool false,.string ⟨#[]⟩,.bool false,.string ⟨#[]⟩,.int .i64 0,.int .i64 0] 84)).alloc (.cells #[.bool false,.string ⟨#[]⟩,.bool false,.string ⟨#[]⟩,.int .i64 0,.int .i64 0] 84)) fun e w'=>e=.returned (.tuple #[.int .u64 (V0:Int),.int .i64 (n0:Int)])/\w'=((u.alloc (.cells #[.bool false,.string ⟨#[]⟩,.bool false,.string ⟨#[]⟩,.int .i64 0,.int .i64 0] 84)).alloc (.cells #[.bool false,.string ⟨#[]⟩,.bool false,.string ⟨#[]⟩,.int .i64 0,.int .i64 0] 84)))) (hi:1+n0<=len) (hc2:¬cap=1+n0) (V1 n1:Nat) (Z:Int) (hn1:((n1:Int) == 0)=false) (hd0:¬Z < -first) (hd:¬1125899906842624 - first < Z) (HU1:Hid (Calls Tryz.prog 86 #[.slice (some ⟨b,off+(1+n0),none⟩) (len - (1+n0)) (cap - (1+n0))] ((u.alloc (.cells #[.bool false,.string ⟨#[]⟩,.bool false,.string ⟨#[]⟩,.int .i64 0,.int .i64 0] 84)).alloc (.cells #[.bool false,.string ⟨#[]⟩,.bool false,.string ⟨#[]⟩,.int .i64 0,.int .i64 0] 84)) fun e w'=>e=.returned (.tuple #[.int .u64 (V1:Int),.int .i64 (n1:Int)])/\w'=((u.alloc (.cells #[.bool false,.string ⟨#[]⟩,.bool false,.string ⟨#[]⟩,.int .i64 0,.int .i64 0] 84)).alloc (.cells #[.bool false,.string ⟨#[]⟩,.bool false,.string ⟨#[]⟩,.int .i64 0,.int .i64 0] 84)))) (HZ:Hid (Calls Tryz.prog 87 #[.int .u64 (V1:Int)] ((u.alloc (.cells #[.bool false,.string ⟨#[]⟩,.bool false,.string ⟨#[]⟩,.int .i64 0,.int .i64 0] 84)).alloc (.cells #[.bool false,.string ⟨#[]⟩,.bool false,.string ⟨#[]⟩,.int .i64 0,.int .i64 0] 84)) fun e w'=>e=.returned (.int .i64 Z)/\w'=((u.alloc (.cells #[.bool false,.string ⟨#[]⟩,.bool false,.string ⟨#[]⟩,.int .i64 0,.int .i64 0] 84)).alloc (.cells #[.bool false,.string ⟨#[]⟩,.bool false,.string ⟨#[]⟩,.int .i64 0,.int .i64 0] 84)))) (hi2:1+n0+n1<=len) (l:List Nat) (hlen:l.length=len) (hr:Row u (some ⟨b,off,none⟩) l) (hw0:IntKind.i64.wrap (V0:Int)=(V0:Int)) (hwT:IntKind.i64.wrap (first+Z)=first+Z) (hk0:(bits .and .u8 (c:Int) 1 == 1)=false) (hv0:(bits .and .u8 (c:Int) 2 == 2)=true) (s2:ByteArray) (j2:Int) (hj2:j2 < 0) (HT2:Hid (∀w',Row w' (some ⟨b,off,none⟩) l->Calls Tryz.prog 88 #[.slice (some ⟨b,off,none⟩) len cap,.int .i64 (1+(n0:Int)+(n1:Int))] w' fun e w2=>e=.returned (.tuple #[.string s2,.int .i64 j2])/\w2=w')) :
 Calls Tryz.prog 65 #[.slice (some ⟨b,off,none⟩) len cap,.int .i64 first] u fun e w'=>e=.returned (.tuple #[.agg rz.cells,.int .i64 0,.int .i64 10])/\Below u.heap.size u w':=by
 have hbw:b < u.heap.size:=World.block_lt_of_cell? _ _ hc0
 have h0I:((len:Int) == 0)=false:=by rw[beq_eq_false_iff_ne];omega
 have h0J:(0:Int) < (len:Int):=by omega
 have h3I:¬(3:Int) < (c:Int):=by omega
 have g0I:¬first < 0:=by omega
 have g1I:¬1125899906842624 < first:=by omega
 have hlI:(len:Int)<=6000:=by omega
 have hlcI:(len:Int)<=(cap:Int):=by omega
 have hiI:1+(n0:Int)<=(len:Int):=by omega
 have hicI:1+(n0:Int)<=(cap:Int):=by omega
 have hi2I:1+(n0:Int)+(n1:Int)<=(len:Int):=by omega
 have hk1:(bits .and .u8 (c:Int) 1 == 1)=false:=hk0
 have hv1:(bits .and .u8 (c:Int) 2 == 2)=true:=hv0
 have tok1:=trivial
 go_enter Tryz.func65,Tryz.ntmps65
 go_wp2_with (first
  | (go_at_call 86;have _t:=tok1;refine Calls.mono HU0.out ?_;clear tok1 _t;rintro e w1 ⟨rfl,hw⟩;subst w1)
  | (go_at_call 86;refine Calls.mono HU1.out ?_;rintro e w1 ⟨rfl,hw⟩;subst w1)
  | (go_at_call 87;refine Calls.mono HZ.out ?_;rintro e w1 ⟨rfl,hw⟩;subst w1))
 clear HU0 HU1 HZ
 refine aD (fun y=>Below ((u.alloc (.cells #[.bool false,.string ⟨#[]⟩,.bool false,.string ⟨#[]⟩,.int .i64 0,.int .i64 0] 84)).alloc (.cells #[.bool false,.string ⟨#[]⟩,.bool false,.string ⟨#[]⟩,.int .i64 0,.int .i64 0] 84)).heap.size ((u.alloc (.cells #[.bool false,.string ⟨#[]⟩,.bool false,.string ⟨#[]⟩,.int .i64 0,.int .i64 0] 84)).alloc (.cells #[.bool false,.string ⟨#[]⟩,.bool false,.string ⟨#[]⟩,.int .i64 0,.int .i64 0] 84)) y) 17 (by kernel_rfl) ((Below.refl _ _).drew) (fun hHeld=>?_)
 refine lA 0 ?_
 try simp only[Act.put,sP]
 refine lA 1 ?_
 try simp only[Act.put,sP]
 refine lA 2 ?_
 try simp only[Act.put,sP]
 refine lA 3 ?_
 try simp only[Act.put,sP]
 refine lA 4 ?_
 try simp only[Act.put,sP]
 refine lA 5 ?_
 try simp only[Act.put,sP]
 refine lA 6 ?_
 try simp only[Act.put,sP]
 refine lA 7 ?_
 try simp only[Act.put,sP]
 refine lA 8 ?_
 try simp only[Act.put,sP]
 refine lA 9 ?_
 try simp only[Act.put,sP]
 refine lA 10 ?_
 try simp only[Act.put,sP]
 refine lA 11 ?_
 try simp only[Act.put,sP]
 refine lA 12 ?_
 try simp only[Act.put,sP]
 refine lA 13 ?_
 try simp only[Act.put,sP]
 refine lA 14 ?_
 try simp only[Act.put,sP]
 refine lA 15 ?_
 try simp only[Act.put,sP]
 refine lo 16 fun K hK=>?_
 go_simp
 refine hK.out _ _ ?_ (fun hH2=>?_)
 ·first
   | exact((Below.refl _ _).drew).alloc (Nat.le_refl _) _
   | exact((Below.refl _ _).alloc (Nat.le_refl _) _).drew
 clear hK hHeld
 try simp only[Act.put,sP]
 refine ll 17 fun K hK=>?_
 refine wp_store_row 84 _ _ rfl (u.heap.size+1+1) (Rc.cells ⟨false,⟨#[]⟩,true,⟨#[]⟩,first+Z,(V0:Int)⟩) rfl rfl 84 rz.cells (bW u) Tryz.info84 rfl (bM _) ?_
 refine hK.out _ _ ?_
 clear hK
 try simp only[Act.put,sP]
 generalize hw3:World.setRow _ _ _=w3
 have hbx:w3.heap[u.heap.size+1+1]? = some (.cells (Rc.cells ⟨false,⟨#[]⟩,true,⟨#[]⟩,first+Z,(V0:Int)⟩) 84 (0,0)):=by rw[<-hw3];exact setRow_heap _ _ _ _ _ _ (bW u)
 have hb3:Below ((u.alloc (.cells #[.bool false,.string ⟨#[]⟩,.bool false,.string ⟨#[]⟩,.int .i64 0,.int .i64 0] 84)).alloc (.cells #[.bool false,.string ⟨#[]⟩,.bool false,.string ⟨#[]⟩,.int .i64 0,.int .i64 0] 84)).heap.size ((u.alloc (.cells #[.bool false,.string ⟨#[]⟩,.bool false,.string ⟨#[]⟩,.int .i64 0,.int .i64 0] 84)).alloc (.cells #[.bool false,.string ⟨#[]⟩,.bool false,.string ⟨#[]⟩,.int .i64 0,.int .i64 0] 84)) w3:=by rw[<-hw3];exact below_setRow hH2 (by simp) _
 clear hw3 hH2
 obtain⟨e0,e1,e2,e3,e4,e5⟩:=dB hbx
 simp only at e0 e1 e2 e3 e4 e5
 have ef:=iA hbx
 have hz3:=World.block_lt_of_cell? _ _ e0
 simp only at hz3
 have HT2t:=trivial
 have hf3:(w3.setCell ⟨u.heap.size+1+1,3,none⟩ (.string s2)).heap[u.heap.size+1+1]? = some (.cells (Rc.cells ⟨false,⟨#[]⟩,true,s2,first+Z,(V0:Int)⟩) 84 (0,0)):=by rw[aH hbx];rfl
 have hB3:Below ((u.alloc (.cells #[.bool false,.string ⟨#[]⟩,.bool false,.string ⟨#[]⟩,.int .i64 0,.int .i64 0] 84)).alloc (.cells #[.bool false,.string ⟨#[]⟩,.bool false,.string ⟨#[]⟩,.int .i64 0,.int .i64 0] 84)).heap.size ((u.alloc (.cells #[.bool false,.string ⟨#[]⟩,.bool false,.string ⟨#[]⟩,.int .i64 0,.int .i64 0] 84)).alloc (.cells #[.bool false,.string ⟨#[]⟩,.bool false,.string ⟨#[]⟩,.int .i64 0,.int .i64 0] 84)) (w3.setCell ⟨u.heap.size+1+1,3,none⟩ (.string s2)):=hb3.setCell (p:=⟨u.heap.size+1+1,3,none⟩) (by simp) _
 have HFF:Hid _:=hf3
 have HBB:Hid _:=hB3
 have Hb3:Hid _:=hB3
 have Hb3x:Hid _:=hb3
 clear hbx hb3 hf3 hB3
 go_wp2_with (first
  | (go_at_call 88;have _t:=HT2t;refine(HT2.out _ (hr.below (aF Hb3x.out).2.2)).mono ?_;clear HT2t _t;rintro e w4 ⟨rfl,hw⟩;subst w4)
  | (have _t:=h0;refine wpList_load_row rfl 84 _ rfl (u.heap.size+1) rfl 84 rz.cells (0,0) _ (aF HBB.out).2.1 Tryz.underlying84 rfl Tryz.info84 ?_)
  | (have _t:=h0;refine wpList_store_row rfl 84 _ _ rfl u.heap.size rz.cells rfl rfl 84 rz.cells (aF HBB.out).1 Tryz.info84 rfl (bM _) ?_))
 refine bodyPost_ret (v:=.tuple #[.agg rz.cells,.int .i64 0,.int .i64 10]) ?_ rfl ⟨rfl,?_⟩
 ·exact aN (p:=4) (u:=5) (u2:=6) (by rfl) _ _ u.heap.size rz _ _ (by rfl) (by rfl) (by rfl) (setRow_heap _ _ _ _ _ _ (aF HBB.out).1)
 ·exact below_setRow (aF HBB.out).2.2 (Nat.le_refl _) _
theorem aEf (b off cap len:Nat) (first:Int) (u:World) (c:Nat) (hc0:u.cell? ⟨b,off,none⟩=some (.int .u8 (c:Int))) (h0:0 < len) (hl:len<=6000) (hlc:len<=cap) (hcm:cap<=9223372036854775807) (h3:c<=3) (f0:0<=first) (f1:first<=1125899906842624) (hc1:¬cap=1) (V0 n0:Nat) (hn0:((n0:Int) == 0)=false) (hV:¬(100:Int)<=(V0:Int)) (HU0:Hid (Calls Tryz.prog 86 #[.slice (some ⟨b,off+1,none⟩) (len - 1) (cap - 1)] ((u.alloc (.cells #[.bool false,.string ⟨#[]⟩,.bool false,.string ⟨#[]⟩,.int .i64 0,.int .i64 0] 84)).alloc (.cells #[.bool false,.string ⟨#[]⟩,.bool false,.string ⟨#[]⟩,.int .i64 0,.int .i64 0] 84)) fun e w'=>e=.returned (.tuple #[.int .u64 (V0:Int),.int .i64 (n0:Int)])/\w'=((u.alloc (.cells #[.bool false,.string ⟨#[]⟩,.bool false,.string ⟨#[]⟩,.int .i64 0,.int .i64 0] 84)).alloc (.cells #[.bool false,.string ⟨#[]⟩,.bool false,.string ⟨#[]⟩,.int .i64 0,.int .i64 0] 84)))) (hi:1+n0<=len) (hc2:¬cap=1+n0) (V1 n1:Nat) (Z:Int) (hn1:((n1:Int) == 0)=false) (hd0:¬Z < -first) (hd:¬1125899906842624 - first < Z) (HU1:Hid (Calls Tryz.prog 86 #[.slice (some ⟨b,off+(1+n0),none⟩) (len - (1+n0)) (cap - (1+n0))] ((u.alloc (.cells #[.bool false,.string ⟨#[]⟩,.bool false,.string ⟨#[]⟩,.int .i64 0,.int .i64 0] 84)).alloc (.cells #[.bool false,.string ⟨#[]⟩,.bool false,.string ⟨#[]⟩,.int .i64 0,.int .i64 0] 84)) fun e w'=>e=.returned (.tuple #[.int .u64 (V1:Int),.int .i64 (n1:Int)])/\w'=((u.alloc (.cells #[.bool false,.string ⟨#[]⟩,.bool false,.string ⟨#[]⟩,.int .i64 0,.int .i64 0] 84)).alloc (.cells #[.bool false,.string ⟨#[]⟩,.bool false,.string ⟨#[]⟩,.int .i64 0,.int .i64 0] 84)))) (HZ:Hid (Calls Tryz.prog 87 #[.int .u64 (V1:Int)] ((u.alloc (.cells #[.bool false,.string ⟨#[]⟩,.bool false,.string ⟨#[]⟩,.int .i64 0,.int .i64 0] 84)).alloc (.cells #[.bool false,.string ⟨#[]⟩,.bool false,.string ⟨#[]⟩,.int .i64 0,.int .i64 0] 84)) fun e w'=>e=.returned (.int .i64 Z)/\w'=((u.alloc (.cells #[.bool false,.string ⟨#[]⟩,.bool false,.string ⟨#[]⟩,.int .i64 0,.int .i64 0] 84)).alloc (.cells #[.bool false,.string ⟨#[]⟩,.bool false,.string ⟨#[]⟩,.int .i64 0,.int .i64 0] 84)))) (hi2:1+n0+n1<=len) (l:List Nat) (hlen:l.length=len) (hr:Row u (some ⟨b,off,none⟩) l) (hw0:IntKind.i64.wrap (V0:Int)=(V0:Int)) (hwT:IntKind.i64.wrap (first+Z)=first+Z) (hk0:(bits .and .u8 (c:Int) 1 == 1)=true) (hv0:(bits .and .u8 (c:Int) 2 == 2)=true) (s1 s2:ByteArray) (j1 j2:Int) (hj1:0<=j1) (hj2:0<=j2) (HT1:Hid (∀w',Row w' (some ⟨b,off,none⟩) l->Calls Tryz.prog 88 #[.slice (some ⟨b,off,none⟩) len cap,.int .i64 (1+(n0:Int)+(n1:Int))] w' fun e w2=>e=.returned (.tuple #[.string s1,.int .i64 j1])/\w2=w')) (HT2:Hid (∀w',Row w' (some ⟨b,off,none⟩) l->Calls Tryz.prog 88 #[.slice (some ⟨b,off,none⟩) len cap,.int .i64 j1] w' fun e w2=>e=.returned (.tuple #[.string s2,.int .i64 j2])/\w2=w')) :
 Calls Tryz.prog 65 #[.slice (some ⟨b,off,none⟩) len cap,.int .i64 first] u fun e w'=>e=.returned (.tuple #[.agg (Rc.cells ⟨true,s1,true,s2,first+Z,(V0:Int)⟩),.int .i64 j2,.int .i64 0])/\Below u.heap.size u w':=by
 have hbw:b < u.heap.size:=World.block_lt_of_cell? _ _ hc0
 have h0I:((len:Int) == 0)=false:=by rw[beq_eq_false_iff_ne];omega
 have h0J:(0:Int) < (len:Int):=by omega
 have h3I:¬(3:Int) < (c:Int):=by omega
 have g0I:¬first < 0:=by omega
 have g1I:¬1125899906842624 < first:=by omega
 have hlI:(len:Int)<=6000:=by omega
 have hlcI:(len:Int)<=(cap:Int):=by omega
 have hiI:1+(n0:Int)<=(len:Int):=by omega
 have hicI:1+(n0:Int)<=(cap:Int):=by omega
 have hi2I:1+(n0:Int)+(n1:Int)<=(len:Int):=by omega
 have hk1:(bits .and .u8 (c:Int) 1 == 1)=true:=hk0
 have hv1:(bits .and .u8 (c:Int) 2 == 2)=true:=hv0
 have tok1:=trivial
 go_enter Tryz.func65,Tryz.ntmps65
 go_wp2_with (first
  | (go_at_call 86;have _t:=tok1;refine Calls.mono HU0.out ?_;clear tok1 _t;rintro e w1 ⟨rfl,hw⟩;subst w1)
  | (go_at_call 86;refine Calls.mono HU1.out ?_;rintro e w1 ⟨rfl,hw⟩;subst w1)
  | (go_at_call 87;refine Calls.mono HZ.out ?_;rintro e w1 ⟨rfl,hw⟩;subst w1))
 clear HU0 HU1 HZ
 refine aD (fun y=>Below ((u.alloc (.cells #[.bool false,.string ⟨#[]⟩,.bool false,.string ⟨#[]⟩,.int .i64 0,.int .i64 0] 84)).alloc (.cells #[.bool false,.string ⟨#[]⟩,.bool false,.string ⟨#[]⟩,.int .i64 0,.int .i64 0] 84)).heap.size ((u.alloc (.cells #[.bool false,.string ⟨#[]⟩,.bool false,.string ⟨#[]⟩,.int .i64 0,.int .i64 0] 84)).alloc (.cells #[.bool false,.string ⟨#[]⟩,.bool false,.string ⟨#[]⟩,.int .i64 0,.int .i64 0] 84)) y) 17 (by kernel_rfl) ((Below.refl _ _).drew) (fun hHeld=>?_)
 refine lA 0 ?_
 try simp only[Act.put,sP]
 refine lA 1 ?_
 try simp only[Act.put,sP]
 refine lA 2 ?_
 try simp only[Act.put,sP]
 refine lA 3 ?_
 try simp only[Act.put,sP]
 refine lA 4 ?_
 try simp only[Act.put,sP]
 refine lA 5 ?_
 try simp only[Act.put,sP]
 refine lA 6 ?_
 try simp only[Act.put,sP]
 refine lA 7 ?_
 try simp only[Act.put,sP]
 refine lA 8 ?_
 try simp only[Act.put,sP]
 refine lA 9 ?_
 try simp only[Act.put,sP]
 refine lA 10 ?_
 try simp only[Act.put,sP]
 refine lA 11 ?_
 try simp only[Act.put,sP]
 refine lA 12 ?_
 try simp only[Act.put,sP]
 refine lA 13 ?_
 try simp only[Act.put,sP]
 refine lA 14 ?_
 try simp only[Act.put,sP]
 refine lA 15 ?_
 try simp only[Act.put,sP]
 refine lo 16 fun K hK=>?_
 go_simp
 refine hK.out _ _ ?_ (fun hH2=>?_)
 ·first
   | exact((Below.refl _ _).drew).alloc (Nat.le_refl _) _
   | exact((Below.refl _ _).alloc (Nat.le_refl _) _).drew
 clear hK hHeld
 try simp only[Act.put,sP]
 refine ll 17 fun K hK=>?_
 refine wp_store_row 84 _ _ rfl (u.heap.size+1+1) (Rc.cells ⟨true,⟨#[]⟩,true,⟨#[]⟩,first+Z,(V0:Int)⟩) rfl rfl 84 rz.cells (bW u) Tryz.info84 rfl (bM _) ?_
 refine hK.out _ _ ?_
 clear hK
 try simp only[Act.put,sP]
 generalize hw3:World.setRow _ _ _=w3
 have hbx:w3.heap[u.heap.size+1+1]? = some (.cells (Rc.cells ⟨true,⟨#[]⟩,true,⟨#[]⟩,first+Z,(V0:Int)⟩) 84 (0,0)):=by rw[<-hw3];exact setRow_heap _ _ _ _ _ _ (bW u)
 have hb3:Below ((u.alloc (.cells #[.bool false,.string ⟨#[]⟩,.bool false,.string ⟨#[]⟩,.int .i64 0,.int .i64 0] 84)).alloc (.cells #[.bool false,.string ⟨#[]⟩,.bool false,.string ⟨#[]⟩,.int .i64 0,.int .i64 0] 84)).heap.size ((u.alloc (.cells #[.bool false,.string ⟨#[]⟩,.bool false,.string ⟨#[]⟩,.int .i64 0,.int .i64 0] 84)).alloc (.cells #[.bool false,.string ⟨#[]⟩,.bool false,.string ⟨#[]⟩,.int .i64 0,.int .i64 0] 84)) w3:=by rw[<-hw3];exact below_setRow hH2 (by simp) _
 clear hw3 hH2
 obtain⟨e0,e1,e2,e3,e4,e5⟩:=dB hbx
 simp only at e0 e1 e2 e3 e4 e5
 have ef:=iA hbx
 have hz3:=World.block_lt_of_cell? _ _ e0
 simp only at hz3
 have HT1t:=trivial
 have hf1:(w3.setCell ⟨u.heap.size+1+1,1,none⟩ (.string s1)).heap[u.heap.size+1+1]? = some (.cells (Rc.cells ⟨true,s1,true,⟨#[]⟩,first+Z,(V0:Int)⟩) 84 (0,0)):=by rw[aH hbx];rfl
 have hB1:Below ((u.alloc (.cells #[.bool false,.string ⟨#[]⟩,.bool false,.string ⟨#[]⟩,.int .i64 0,.int .i64 0] 84)).alloc (.cells #[.bool false,.string ⟨#[]⟩,.bool false,.string ⟨#[]⟩,.int .i64 0,.int .i64 0] 84)).heap.size ((u.alloc (.cells #[.bool false,.string ⟨#[]⟩,.bool false,.string ⟨#[]⟩,.int .i64 0,.int .i64 0] 84)).alloc (.cells #[.bool false,.string ⟨#[]⟩,.bool false,.string ⟨#[]⟩,.int .i64 0,.int .i64 0] 84)) (w3.setCell ⟨u.heap.size+1+1,1,none⟩ (.string s1)):=hb3.setCell (p:=⟨u.heap.size+1+1,1,none⟩) (by simp) _
 have HT2t:=trivial
 have hf3:((w3.setCell ⟨u.heap.size+1+1,1,none⟩ (.string s1)).setCell ⟨u.heap.size+1+1,3,none⟩ (.string s2)).heap[u.heap.size+1+1]? = some (.cells (Rc.cells ⟨true,s1,true,s2,first+Z,(V0:Int)⟩) 84 (0,0)):=by rw[aH hf1];rfl
 have hB3:Below ((u.alloc (.cells #[.bool false,.string ⟨#[]⟩,.bool false,.string ⟨#[]⟩,.int .i64 0,.int .i64 0] 84)).alloc (.cells #[.bool false,.string ⟨#[]⟩,.bool false,.string ⟨#[]⟩,.int .i64 0,.int .i64 0] 84)).heap.size ((u.alloc (.cells #[.bool false,.string ⟨#[]⟩,.bool false,.string ⟨#[]⟩,.int .i64 0,.int .i64 0] 84)).alloc (.cells #[.bool false,.string ⟨#[]⟩,.bool false,.string ⟨#[]⟩,.int .i64 0,.int .i64 0] 84)) ((w3.setCell ⟨u.heap.size+1+1,1,none⟩ (.string s1)).setCell ⟨u.heap.size+1+1,3,none⟩ (.string s2)):=hB1.setCell (p:=⟨u.heap.size+1+1,3,none⟩) (by simp) _
 have HFF:Hid _:=hf3
 have HBB:Hid _:=hB3
 have Hb1:Hid _:=hB1
 have Hb3:Hid _:=hB3
 have Hb3x:Hid _:=hb3
 clear hbx hb3 hf1 hB1 hf3 hB3
 go_wp2_with (first
  | (go_at_call 88;have _t:=HT1t;refine(HT1.out _ (hr.below (aF Hb3x.out).2.2)).mono ?_;clear HT1t _t;rintro e w4 ⟨rfl,hw⟩;subst w4)
  | (go_at_call 88;have _t:=HT2t;refine(HT2.out _ (hr.below (aF Hb1.out).2.2)).mono ?_;clear HT2t _t;rintro e w4 ⟨rfl,hw⟩;subst w4)
  | (have _t:=h0;refine wpList_load_row rfl 84 _ rfl (u.heap.size+1+1) rfl 84 (Rc.cells ⟨true,s1,true,s2,first+Z,(V0:Int)⟩) (0,0) _ HFF.out Tryz.underlying84 rfl Tryz.info84 ?_)
  | (have _t:=h0;refine wpList_store_row rfl 84 _ _ rfl u.heap.size (Rc.cells ⟨true,s1,true,s2,first+Z,(V0:Int)⟩) rfl rfl 84 rz.cells (aF HBB.out).1 Tryz.info84 rfl (bM _) ?_))
 refine bodyPost_ret (v:=.tuple #[.agg (Rc.cells ⟨true,s1,true,s2,first+Z,(V0:Int)⟩),.int .i64 j2,.int .i64 0]) ?_ rfl ⟨rfl,?_⟩
 ·exact aN (p:=4) (u:=5) (u2:=6) (by rfl) _ _ u.heap.size ⟨true,s1,true,s2,first+Z,(V0:Int)⟩ _ _ (by rfl) (by rfl) (by rfl) (setRow_heap _ _ _ _ _ _ (aF HBB.out).1)
 ·exact below_setRow (aF HBB.out).2.2 (Nat.le_refl _) _
theorem aAv (b off cap len:Nat) (first:Int) (u:World) (c:Nat) (hc0:u.cell? ⟨b,off,none⟩=some (.int .u8 (c:Int))) (h0:0 < len) (hl:len<=6000) (hlc:len<=cap) (hcm:cap<=9223372036854775807) (h3:c<=3) (f0:0<=first) (f1:first<=1125899906842624) (hc1:¬cap=1) (V0 n0:Nat) (hn0:((n0:Int) == 0)=false) (hV:¬(100:Int)<=(V0:Int)) (HU0:Hid (Calls Tryz.prog 86 #[.slice (some ⟨b,off+1,none⟩) (len - 1) (cap - 1)] ((u.alloc (.cells #[.bool false,.string ⟨#[]⟩,.bool false,.string ⟨#[]⟩,.int .i64 0,.int .i64 0] 84)).alloc (.cells #[.bool false,.string ⟨#[]⟩,.bool false,.string ⟨#[]⟩,.int .i64 0,.int .i64 0] 84)) fun e w'=>e=.returned (.tuple #[.int .u64 (V0:Int),.int .i64 (n0:Int)])/\w'=((u.alloc (.cells #[.bool false,.string ⟨#[]⟩,.bool false,.string ⟨#[]⟩,.int .i64 0,.int .i64 0] 84)).alloc (.cells #[.bool false,.string ⟨#[]⟩,.bool false,.string ⟨#[]⟩,.int .i64 0,.int .i64 0] 84)))) (hi:1+n0<=len) (hc2:¬cap=1+n0) (V1 n1:Nat) (Z:Int) (hn1:((n1:Int) == 0)=false) (hd0:¬Z < -first) (hd:¬1125899906842624 - first < Z) (HU1:Hid (Calls Tryz.prog 86 #[.slice (some ⟨b,off+(1+n0),none⟩) (len - (1+n0)) (cap - (1+n0))] ((u.alloc (.cells #[.bool false,.string ⟨#[]⟩,.bool false,.string ⟨#[]⟩,.int .i64 0,.int .i64 0] 84)).alloc (.cells #[.bool false,.string ⟨#[]⟩,.bool false,.string ⟨#[]⟩,.int .i64 0,.int .i64 0] 84)) fun e w'=>e=.returned (.tuple #[.int .u64 (V1:Int),.int .i64 (n1:Int)])/\w'=((u.alloc (.cells #[.bool false,.string ⟨#[]⟩,.bool false,.string ⟨#[]⟩,.int .i64 0,.int .i64 0] 84)).alloc (.cells #[.bool false,.string ⟨#[]⟩,.bool false,.string ⟨#[]⟩,.int .i64 0,.int .i64 0] 84)))) (HZ:Hid (Calls Tryz.prog 87 #[.int .u64 (V1:Int)] ((u.alloc (.cells #[.bool false,.string ⟨#[]⟩,.bool false,.string ⟨#[]⟩,.int .i64 0,.int .i64 0] 84)).alloc (.cells #[.bool false,.string ⟨#[]⟩,.bool false,.string ⟨#[]⟩,.int .i64 0,.int .i64 0] 84)) fun e w'=>e=.returned (.int .i64 Z)/\w'=((u.alloc (.cells #[.bool false,.string ⟨#[]⟩,.bool false,.string ⟨#[]⟩,.int .i64 0,.int .i64 0] 84)).alloc (.cells #[.bool false,.string ⟨#[]⟩,.bool false,.string ⟨#[]⟩,.int .i64 0,.int .i64 0] 84)))) (hi2:1+n0+n1<=len) (l:List Nat) (hlen:l.length=len) (hr:Row u (some ⟨b,off,none⟩) l) (hw0:IntKind.i64.wrap (V0:Int)=(V0:Int)) (hwT:IntKind.i64.wrap (first+Z)=first+Z) (hk0:(bits .and .u8 (c:Int) 1 == 1)=true) (hv0:(bits .and .u8 (c:Int) 2 == 2)=true) (s1 s2:ByteArray) (j1 j2:Int) (hj1:0<=j1) (hj2:j2 < 0) (HT1:Hid (∀w',Row w' (some ⟨b,off,none⟩) l->Calls Tryz.prog 88 #[.slice (some ⟨b,off,none⟩) len cap,.int .i64 (1+(n0:Int)+(n1:Int))] w' fun e w2=>e=.returned (.tuple #[.string s1,.int .i64 j1])/\w2=w')) (HT2:Hid (∀w',Row w' (some ⟨b,off,none⟩) l->Calls Tryz.prog 88 #[.slice (some ⟨b,off,none⟩) len cap,.int .i64 j1] w' fun e w2=>e=.returned (.tuple #[.string s2,.int .i64 j2])/\w2=w')) :
 Calls Tryz.prog 65 #[.slice (some ⟨b,off,none⟩) len cap,.int .i64 first] u fun e w'=>e=.returned (.tuple #[.agg rz.cells,.int .i64 0,.int .i64 10])/\Below u.heap.size u w':=by
 have hbw:b < u.heap.size:=World.block_lt_of_cell? _ _ hc0
 have h0I:((len:Int) == 0)=false:=by rw[beq_eq_false_iff_ne];omega
 have h0J:(0:Int) < (len:Int):=by omega
 have h3I:¬(3:Int) < (c:Int):=by omega
 have g0I:¬first < 0:=by omega
 have g1I:¬1125899906842624 < first:=by omega
 have hlI:(len:Int)<=6000:=by omega
 have hlcI:(len:Int)<=(cap:Int):=by omega
 have hiI:1+(n0:Int)<=(len:Int):=by omega
 have hicI:1+(n0:Int)<=(cap:Int):=by omega
 have hi2I:1+(n0:Int)+(n1:Int)<=(len:Int):=by omega
 have hk1:(bits .and .u8 (c:Int) 1 == 1)=true:=hk0
 have hv1:(bits .and .u8 (c:Int) 2 == 2)=true:=hv0
 have tok1:=trivial
 go_enter Tryz.func65,Tryz.ntmps65
 go_wp2_with (first
  | (go_at_call 86;have _t:=tok1;refine Calls.mono HU0.out ?_;clear tok1 _t;rintro e w1 ⟨rfl,hw⟩;subst w1)
  | (go_at_call 86;refine Calls.mono HU1.out ?_;rintro e w1 ⟨rfl,hw⟩;subst w1)
  | (go_at_call 87;refine Calls.mono HZ.out ?_;rintro e w1 ⟨rfl,hw⟩;subst w1))
 clear HU0 HU1 HZ
 refine aD (fun y=>Below ((u.alloc (.cells #[.bool false,.string ⟨#[]⟩,.bool false,.string ⟨#[]⟩,.int .i64 0,.int .i64 0] 84)).alloc (.cells #[.bool false,.string ⟨#[]⟩,.bool false,.string ⟨#[]⟩,.int .i64 0,.int .i64 0] 84)).heap.size ((u.alloc (.cells #[.bool false,.string ⟨#[]⟩,.bool false,.string ⟨#[]⟩,.int .i64 0,.int .i64 0] 84)).alloc (.cells #[.bool false,.string ⟨#[]⟩,.bool false,.string ⟨#[]⟩,.int .i64 0,.int .i64 0] 84)) y) 17 (by kernel_rfl) ((Below.refl _ _).drew) (fun hHeld=>?_)
 refine lA 0 ?_
 try simp only[Act.put,sP]
 refine lA 1 ?_
 try simp only[Act.put,sP]
 refine lA 2 ?_
 try simp only[Act.put,sP]
 refine lA 3 ?_
 try simp only[Act.put,sP]
 refine lA 4 ?_
 try simp only[Act.put,sP]
 refine lA 5 ?_
 try simp only[Act.put,sP]
 refine lA 6 ?_
 try simp only[Act.put,sP]
 refine lA 7 ?_
 try simp only[Act.put,sP]
 refine lA 8 ?_
 try simp only[Act.put,sP]
 refine lA 9 ?_
 try simp only[Act.put,sP]
 refine lA 10 ?_
 try simp only[Act.put,sP]
 refine lA 11 ?_
 try simp only[Act.put,sP]
 refine lA 12 ?_
 try simp only[Act.put,sP]
 refine lA 13 ?_
 try simp only[Act.put,sP]
 refine lA 14 ?_
 try simp only[Act.put,sP]
 refine lA 15 ?_
 try simp only[Act.put,sP]
 refine lo 16 fun K hK=>?_
 go_simp
 refine hK.out _ _ ?_ (fun hH2=>?_)
 ·first
   | exact((Below.refl _ _).drew).alloc (Nat.le_refl _) _
   | exact((Below.refl _ _).alloc (Nat.le_refl _) _).drew
 clear hK hHeld
 try simp only[Act.put,sP]
 refine ll 17 fun K hK=>?_
 refine wp_store_row 84 _ _ rfl (u.heap.size+1+1) (Rc.cells ⟨true,⟨#[]⟩,true,⟨#[]⟩,first+Z,(V0:Int)⟩) rfl rfl 84 rz.cells (bW u) Tryz.info84 rfl (bM _) ?_
 refine hK.out _ _ ?_
 clear hK
 try simp only[Act.put,sP]
 generalize hw3:World.setRow _ _ _=w3
 have hbx:w3.heap[u.heap.size+1+1]? = some (.cells (Rc.cells ⟨true,⟨#[]⟩,true,⟨#[]⟩,first+Z,(V0:Int)⟩) 84 (0,0)):=by rw[<-hw3];exact setRow_heap _ _ _ _ _ _ (bW u)
 have hb3:Below ((u.alloc (.cells #[.bool false,.string ⟨#[]⟩,.bool false,.string ⟨#[]⟩,.int .i64 0,.int .i64 0] 84)).alloc (.cells #[.bool false,.string ⟨#[]⟩,.bool false,.string ⟨#[]⟩,.int .i64 0,.int .i64 0] 84)).heap.size ((u.alloc (.cells #[.bool false,.string ⟨#[]⟩,.bool false,.string ⟨#[]⟩,.int .i64 0,.int .i64 0] 84)).alloc (.cells #[.bool false,.string ⟨#[]⟩,.bool false,.string ⟨#[]⟩,.int .i64 0,.int .i64 0] 84)) w3:=by rw[<-hw3];exact below_setRow hH2 (by simp) _
 clear hw3 hH2
 obtain⟨e0,e1,e2,e3,e4,e5⟩:=dB hbx
 simp only at e0 e1 e2 e3 e4 e5
 have ef:=iA hbx
 have hz3:=World.block_lt_of_cell? _ _ e0
 simp only at hz3
 have HT1t:=trivial
 have hf1:(w3.setCell ⟨u.heap.size+1+1,1,none⟩ (.string s1)).heap[u.heap.size+1+1]? = some (.cells (Rc.cells ⟨true,s1,true,⟨#[]⟩,first+Z,(V0:Int)⟩) 84 (0,0)):=by rw[aH hbx];rfl
 have hB1:Below ((u.alloc (.cells #[.bool false,.string ⟨#[]⟩,.bool false,.string ⟨#[]⟩,.int .i64 0,.int .i64 0] 84)).alloc (.cells #[.bool false,.string ⟨#[]⟩,.bool false,.string ⟨#[]⟩,.int .i64 0,.int .i64 0] 84)).heap.size ((u.alloc (.cells #[.bool false,.string ⟨#[]⟩,.bool false,.string ⟨#[]⟩,.int .i64 0,.int .i64 0] 84)).alloc (.cells #[.bool false,.string ⟨#[]⟩,.bool false,.string ⟨#[]⟩,.int .i64 0,.int .i64 0] 84)) (w3.setCell ⟨u.heap.size+1+1,1,none⟩ (.string s1)):=hb3.setCell (p:=⟨u.heap.size+1+1,1,none⟩) (by simp) _
 have HT2t:=trivial
 have hf3:((w3.setCell ⟨u.heap.size+1+1,1,none⟩ (.string s1)).setCell ⟨u.heap.size+1+1,3,none⟩ (.string s2)).heap[u.heap.size+1+1]? = some (.cells (Rc.cells ⟨true,s1,true,s2,first+Z,(V0:Int)⟩) 84 (0,0)):=by rw[aH hf1];rfl
 have hB3:Below ((u.alloc (.cells #[.bool false,.string ⟨#[]⟩,.bool false,.string ⟨#[]⟩,.int .i64 0,.int .i64 0] 84)).alloc (.cells #[.bool false,.string ⟨#[]⟩,.bool false,.string ⟨#[]⟩,.int .i64 0,.int .i64 0] 84)).heap.size ((u.alloc (.cells #[.bool false,.string ⟨#[]⟩,.bool false,.string ⟨#[]⟩,.int .i64 0,.int .i64 0] 84)).alloc (.cells #[.bool false,.string ⟨#[]⟩,.bool false,.string ⟨#[]⟩,.int .i64 0,.int .i64 0] 84)) ((w3.setCell ⟨u.heap.size+1+1,1,none⟩ (.string s1)).setCell ⟨u.heap.size+1+1,3,none⟩ (.string s2)):=hB1.setCell (p:=⟨u.heap.size+1+1,3,none⟩) (by simp) _
 have HFF:Hid _:=hf3
 have HBB:Hid _:=hB3
 have Hb1:Hid _:=hB1
 have Hb3:Hid _:=hB3
 have Hb3x:Hid _:=hb3
 clear hbx hb3 hf1 hB1 hf3 hB3
 go_wp2_with (first
  | (go_at_call 88;have _t:=HT1t;refine(HT1.out _ (hr.below (aF Hb3x.out).2.2)).mono ?_;clear HT1t _t;rintro e w4 ⟨rfl,hw⟩;subst w4)
  | (go_at_call 88;have _t:=HT2t;refine(HT2.out _ (hr.below (aF Hb1.out).2.2)).mono ?_;clear HT2t _t;rintro e w4 ⟨rfl,hw⟩;subst w4)
  | (have _t:=h0;refine wpList_load_row rfl 84 _ rfl (u.heap.size+1) rfl 84 rz.cells (0,0) _ (aF HBB.out).2.1 Tryz.underlying84 rfl Tryz.info84 ?_)
  | (have _t:=h0;refine wpList_store_row rfl 84 _ _ rfl u.heap.size rz.cells rfl rfl 84 rz.cells (aF HBB.out).1 Tryz.info84 rfl (bM _) ?_))
 refine bodyPost_ret (v:=.tuple #[.agg rz.cells,.int .i64 0,.int .i64 10]) ?_ rfl ⟨rfl,?_⟩
 ·exact aN (p:=4) (u:=5) (u2:=6) (by rfl) _ _ u.heap.size rz _ _ (by rfl) (by rfl) (by rfl) (setRow_heap _ _ _ _ _ _ (aF HBB.out).1)
 ·exact below_setRow (aF HBB.out).2.2 (Nat.le_refl _) _
theorem aAq (b off cap len:Nat) (first:Int) (u:World) (c:Nat) (hc0:u.cell? ⟨b,off,none⟩=some (.int .u8 (c:Int))) (h0:0 < len) (hl:len<=6000) (hlc:len<=cap) (hcm:cap<=9223372036854775807) (h3:c<=3) (f0:0<=first) (f1:first<=1125899906842624) (hc1:¬cap=1) (V0 n0:Nat) (hn0:((n0:Int) == 0)=false) (hV:¬(100:Int)<=(V0:Int)) (HU0:Hid (Calls Tryz.prog 86 #[.slice (some ⟨b,off+1,none⟩) (len - 1) (cap - 1)] ((u.alloc (.cells #[.bool false,.string ⟨#[]⟩,.bool false,.string ⟨#[]⟩,.int .i64 0,.int .i64 0] 84)).alloc (.cells #[.bool false,.string ⟨#[]⟩,.bool false,.string ⟨#[]⟩,.int .i64 0,.int .i64 0] 84)) fun e w'=>e=.returned (.tuple #[.int .u64 (V0:Int),.int .i64 (n0:Int)])/\w'=((u.alloc (.cells #[.bool false,.string ⟨#[]⟩,.bool false,.string ⟨#[]⟩,.int .i64 0,.int .i64 0] 84)).alloc (.cells #[.bool false,.string ⟨#[]⟩,.bool false,.string ⟨#[]⟩,.int .i64 0,.int .i64 0] 84)))) (hi:1+n0<=len) (hc2:¬cap=1+n0) (V1 n1:Nat) (Z:Int) (hn1:((n1:Int) == 0)=false) (hd0:¬Z < -first) (hd:¬1125899906842624 - first < Z) (HU1:Hid (Calls Tryz.prog 86 #[.slice (some ⟨b,off+(1+n0),none⟩) (len - (1+n0)) (cap - (1+n0))] ((u.alloc (.cells #[.bool false,.string ⟨#[]⟩,.bool false,.string ⟨#[]⟩,.int .i64 0,.int .i64 0] 84)).alloc (.cells #[.bool false,.string ⟨#[]⟩,.bool false,.string ⟨#[]⟩,.int .i64 0,.int .i64 0] 84)) fun e w'=>e=.returned (.tuple #[.int .u64 (V1:Int),.int .i64 (n1:Int)])/\w'=((u.alloc (.cells #[.bool false,.string ⟨#[]⟩,.bool false,.string ⟨#[]⟩,.int .i64 0,.int .i64 0] 84)).alloc (.cells #[.bool false,.string ⟨#[]⟩,.bool false,.string ⟨#[]⟩,.int .i64 0,.int .i64 0] 84)))) (HZ:Hid (Calls Tryz.prog 87 #[.int .u64 (V1:Int)] ((u.alloc (.cells #[.bool false,.string ⟨#[]⟩,.bool false,.string ⟨#[]⟩,.int .i64 0,.int .i64 0] 84)).alloc (.cells #[.bool false,.string ⟨#[]⟩,.bool false,.string ⟨#[]⟩,.int .i64 0,.int .i64 0] 84)) fun e w'=>e=.returned (.int .i64 Z)/\w'=((u.alloc (.cells #[.bool false,.string ⟨#[]⟩,.bool false,.string ⟨#[]⟩,.int .i64 0,.int .i64 0] 84)).alloc (.cells #[.bool false,.string ⟨#[]⟩,.bool false,.string ⟨#[]⟩,.int .i64 0,.int .i64 0] 84)))) (hi2:1+n0+n1<=len) (l:List Nat) (hlen:l.length=len) (hr:Row u (some ⟨b,off,none⟩) l) (hw0:IntKind.i64.wrap (V0:Int)=(V0:Int)) (hwT:IntKind.i64.wrap (first+Z)=first+Z) (hk0:(bits .and .u8 (c:Int) 1 == 1)=true) (hv0:(bits .and .u8 (c:Int) 2 == 2)=true) (s1:ByteArray) (j1:Int) (hj1:j1 < 0) (HT1:Hid (∀w',Row w' (some ⟨b,off,none⟩) l->Calls Tryz.prog 88 #[.slice (some ⟨b,off,none⟩) len cap,.int .i64 (1+(n0:Int)+(n1:Int))] w' fun e w2=>e=.returned (.tuple #[.string s1,.int .i64 j1])/\w2=w')) :
 Calls Tryz.prog 65 #[.slice (some ⟨b,off,none⟩) len cap,.int .i64 first] u fun e w'=>e=.returned (.tuple #[.agg rz.cells,.int .i64 0,.int .i64 10])/\Below u.heap.size u w':=by
 have hbw:b < u.heap.size:=World.block_lt_of_cell? _ _ hc0
 have h0I:((len:Int) == 0)=false:=by rw[beq_eq_false_iff_ne];omega
 have h0J:(0:Int) < (len:Int):=by omega
 have h3I:¬(3:Int) < (c:Int):=by omega
 have g0I:¬first < 0:=by omega
 have g1I:¬1125899906842624 < first:=by omega
 have hlI:(len:Int)<=6000:=by omega
 have hlcI:(len:Int)<=(cap:Int):=by omega
 have hiI:1+(n0:Int)<=(len:Int):=by omega
 have hicI:1+(n0:Int)<=(cap:Int):=by omega
 have hi2I:1+(n0:Int)+(n1:Int)<=(len:Int):=by omega
 have hk1:(bits .and .u8 (c:Int) 1 == 1)=true:=hk0
 have hv1:(bits .and .u8 (c:Int) 2 == 2)=true:=hv0
 have tok1:=trivial
 go_enter Tryz.func65,Tryz.ntmps65
 go_wp2_with (first
  | (go_at_call 86;have _t:=tok1;refine Calls.mono HU0.out ?_;clear tok1 _t;rintro e w1 ⟨rfl,hw⟩;subst w1)
  | (go_at_call 86;refine Calls.mono HU1.out ?_;rintro e w1 ⟨rfl,hw⟩;subst w1)
  | (go_at_call 87;refine Calls.mono HZ.out ?_;rintro e w1 ⟨rfl,hw⟩;subst w1))
 clear HU0 HU1 HZ
 refine aD (fun y=>Below ((u.alloc (.cells #[.bool false,.string ⟨#[]⟩,.bool false,.string ⟨#[]⟩,.int .i64 0,.int .i64 0] 84)).alloc (.cells #[.bool false,.string ⟨#[]⟩,.bool false,.string ⟨#[]⟩,.int .i64 0,.int .i64 0] 84)).heap.size ((u.alloc (.cells #[.bool false,.string ⟨#[]⟩,.bool false,.string ⟨#[]⟩,.int .i64 0,.int .i64 0] 84)).alloc (.cells #[.bool false,.string ⟨#[]⟩,.bool false,.string ⟨#[]⟩,.int .i64 0,.int .i64 0] 84)) y) 17 (by kernel_rfl) ((Below.refl _ _).drew) (fun hHeld=>?_)
 refine lA 0 ?_
 try simp only[Act.put,sP]
 refine lA 1 ?_
 try simp only[Act.put,sP]
 refine lA 2 ?_
 try simp only[Act.put,sP]
 refine lA 3 ?_
 try simp only[Act.put,sP]
 refine lA 4 ?_
 try simp only[Act.put,sP]
 refine lA 5 ?_
 try simp only[Act.put,sP]
 refine lA 6 ?_
 try simp only[Act.put,sP]
 refine lA 7 ?_
 try simp only[Act.put,sP]
 refine lA 8 ?_
 try simp only[Act.put,sP]
 refine lA 9 ?_
 try simp only[Act.put,sP]
 refine lA 10 ?_
 try simp only[Act.put,sP]
 refine lA 11 ?_
 try simp only[Act.put,sP]
 refine lA 12 ?_
 try simp only[Act.put,sP]
 refine lA 13 ?_
 try simp only[Act.put,sP]
 refine lA 14 ?_
 try simp only[Act.put,sP]
 refine lA 15 ?_
 try simp only[Act.put,sP]
 refine lo 16 fun K hK=>?_
 go_simp
 refine hK.out _ _ ?_ (fun hH2=>?_)
 ·first
   | exact((Below.refl _ _).drew).alloc (Nat.le_refl _) _
   | exact((Below.refl _ _).alloc (Nat.le_refl _) _).drew
 clear hK hHeld
 try simp only[Act.put,sP]
 refine ll 17 fun K hK=>?_
 refine wp_store_row 84 _ _ rfl (u.heap.size+1+1) (Rc.cells ⟨true,⟨#[]⟩,true,⟨#[]⟩,first+Z,(V0:Int)⟩) rfl rfl 84 rz.cells (bW u) Tryz.info84 rfl (bM _) ?_
 refine hK.out _ _ ?_
 clear hK
 try simp only[Act.put,sP]
 generalize hw3:World.setRow _ _ _=w3
 have hbx:w3.heap[u.heap.size+1+1]? = some (.cells (Rc.cells ⟨true,⟨#[]⟩,true,⟨#[]⟩,first+Z,(V0:Int)⟩) 84 (0,0)):=by rw[<-hw3];exact setRow_heap _ _ _ _ _ _ (bW u)
 have hb3:Below ((u.alloc (.cells #[.bool false,.string ⟨#[]⟩,.bool false,.string ⟨#[]⟩,.int .i64 0,.int .i64 0] 84)).alloc (.cells #[.bool false,.string ⟨#[]⟩,.bool false,.string ⟨#[]⟩,.int .i64 0,.int .i64 0] 84)).heap.size ((u.alloc (.cells #[.bool false,.string ⟨#[]⟩,.bool false,.string ⟨#[]⟩,.int .i64 0,.int .i64 0] 84)).alloc (.cells #[.bool false,.string ⟨#[]⟩,.bool false,.string ⟨#[]⟩,.int .i64 0,.int .i64 0] 84)) w3:=by rw[<-hw3];exact below_setRow hH2 (by simp) _
 clear hw3 hH2
 obtain⟨e0,e1,e2,e3,e4,e5⟩:=dB hbx
 simp only at e0 e1 e2 e3 e4 e5
 have ef:=iA hbx
 have hz3:=World.block_lt_of_cell? _ _ e0
 simp only at hz3
 have HT1t:=trivial
 have hf1:(w3.setCell ⟨u.heap.size+1+1,1,none⟩ (.string s1)).heap[u.heap.size+1+1]? = some (.cells (Rc.cells ⟨true,s1,true,⟨#[]⟩,first+Z,(V0:Int)⟩) 84 (0,0)):=by rw[aH hbx];rfl
 have hB1:Below ((u.alloc (.cells #[.bool false,.string ⟨#[]⟩,.bool false,.string ⟨#[]⟩,.int .i64 0,.int .i64 0] 84)).alloc (.cells #[.bool false,.string ⟨#[]⟩,.bool false,.string ⟨#[]⟩,.int .i64 0,.int .i64 0] 84)).heap.size ((u.alloc (.cells #[.bool false,.string ⟨#[]⟩,.bool false,.string ⟨#[]⟩,.int .i64 0,.int .i64 0] 84)).alloc (.cells #[.bool false,.string ⟨#[]⟩,.bool false,.string ⟨#[]⟩,.int .i64 0,.int .i64 0] 84)) (w3.setCell ⟨u.heap.size+1+1,1,none⟩ (.string s1)):=hb3.setCell (p:=⟨u.heap.size+1+1,1,none⟩) (by simp) _
 have HFF:Hid _:=hf1
 have HBB:Hid _:=hB1
 have Hb1:Hid _:=hB1
 have Hb3x:Hid _:=hb3
 clear hbx hb3 hf1 hB1
 go_wp2_with (first
  | (go_at_call 88;have _t:=HT1t;refine(HT1.out _ (hr.below (aF Hb3x.out).2.2)).mono ?_;clear HT1t _t;rintro e w4 ⟨rfl,hw⟩;subst w4)
  | (have _t:=h0;refine wpList_load_row rfl 84 _ rfl (u.heap.size+1) rfl 84 rz.cells (0,0) _ (aF HBB.out).2.1 Tryz.underlying84 rfl Tryz.info84 ?_)
  | (have _t:=h0;refine wpList_store_row rfl 84 _ _ rfl u.heap.size rz.cells rfl rfl 84 rz.cells (aF HBB.out).1 Tryz.info84 rfl (bM _) ?_))
 refine bodyPost_ret (v:=.tuple #[.agg rz.cells,.int .i64 0,.int .i64 10]) ?_ rfl ⟨rfl,?_⟩
 ·exact aN (p:=4) (u:=5) (u2:=6) (by rfl) _ _ u.heap.size rz _ _ (by rfl) (by rfl) (by rfl) (setRow_heap _ _ _ _ _ _ (aF HBB.out).1)
 ·exact below_setRow (aF HBB.out).2.2 (Nat.le_refl _) _
theorem aCn (a:Option Addr) (cap:Nat) (l:List Nat) (first:Int) (u:World) (hr:Row u a l) (hl:l.length<=cap) (hc:cap<=maxLen) (hg:gate l first=false) :
 Calls Tryz.prog 65 #[.slice a l.length cap,.int .i64 first] u fun e w'=>e=.returned (.tuple #[.agg rz.cells,.int .i64 0,.int .i64 10])/\Below u.heap.size u w':=by
 unfold maxLen at hc
 have h0:=trivial
 by_cases ht:timeB first=true
 ·obtain⟨f0,f1⟩:=(bZ first).1 ht
  have g0I:¬first < 0:=by omega
  have g1I:¬1125899906842624 < first:=by omega
  by_cases h1:0 < l.length
  ·have h3:3 < l.getD 0 0:=by
    simp only[gate,ht,Bool.true_and,Bool.and_eq_false_iff,decide_eq_false_iff_not] at hg
    omega
   obtain⟨b,off,rfl,hc0,hlt⟩:=hr 0 h1
   rw[Nat.add_zero] at hc0
   clear hr hg
   generalize l.getD 0 0=c at *
   have hbw:b < u.heap.size:=World.block_lt_of_cell? _ _ hc0
   have h0I:((l.length:Int) == 0)=false:=by rw[beq_eq_false_iff_ne];omega
   have h0J:(0:Int) < (l.length:Int):=by omega
   have h3I:(3:Int) < (c:Int):=by omega
   go_enter Tryz.func65,Tryz.ntmps65
   go_wp2_with (first
    | (refine wpList_load_row rfl 84 _ rfl (u.heap.size+1) rfl 84 rz.cells (0,0) _ (aF (Below.refl _ _)).2.1 Tryz.underlying84 rfl Tryz.info84 ?_)
    | (refine wpList_store_row rfl 84 _ _ rfl u.heap.size rz.cells rfl rfl 84 rz.cells (aF (Below.refl _ _)).1 Tryz.info84 rfl (bM _) ?_))
   refine bodyPost_ret (v:=.tuple #[.agg rz.cells,.int .i64 0,.int .i64 10]) ?_ rfl ⟨rfl,?_⟩
   ·exact aN (p:=4) (u:=5) (u2:=6) (by rfl) _ _ u.heap.size rz _ _ (by rfl) (by rfl) (by rfl) (setRow_heap _ _ _ _ _ _ (aF (Below.refl _ _)).1)
   ·exact below_setRow (aF (Below.refl _ _)).2.2 (Nat.le_refl _) _
  ·have h0I:l.length=0:=by omega
   rw[h0I]
   clear hr hg ht
   go_enter Tryz.func65,Tryz.ntmps65
   go_wp2_with (first
    | (refine wpList_load_row rfl 84 _ rfl (u.heap.size+1) rfl 84 rz.cells (0,0) _ (aF (Below.refl _ _)).2.1 Tryz.underlying84 rfl Tryz.info84 ?_)
    | (refine wpList_store_row rfl 84 _ _ rfl u.heap.size rz.cells rfl rfl 84 rz.cells (aF (Below.refl _ _)).1 Tryz.info84 rfl (bM _) ?_))
   refine bodyPost_ret (v:=.tuple #[.agg rz.cells,.int .i64 0,.int .i64 10]) ?_ rfl ⟨rfl,?_⟩
   ·exact aN (p:=4) (u:=5) (u2:=6) (by rfl) _ _ u.heap.size rz _ _ (by rfl) (by rfl) (by rfl) (setRow_heap _ _ _ _ _ _ (aF (Below.refl _ _)).1)
   ·exact below_setRow (aF (Below.refl _ _)).2.2 (Nat.le_refl _) _
 ·have hq:first < 0∨1125899906842624 < first:=by
   have:¬(0<=first/\first<=1125899906842624):=fun c=>ht ((bZ first).2 c)
   omega
  clear hr hg ht
  rcases hq with hq | hq
  ·go_enter Tryz.func65,Tryz.ntmps65
   go_wp2_with (first
    | (refine wpList_load_row rfl 84 _ rfl (u.heap.size+1) rfl 84 rz.cells (0,0) _ (aF (Below.refl _ _)).2.1 Tryz.underlying84 rfl Tryz.info84 ?_)
    | (refine wpList_store_row rfl 84 _ _ rfl u.heap.size rz.cells rfl rfl 84 rz.cells (aF (Below.refl _ _)).1 Tryz.info84 rfl (bM _) ?_))
   refine bodyPost_ret (v:=.tuple #[.agg rz.cells,.int .i64 0,.int .i64 10]) ?_ rfl ⟨rfl,?_⟩
   ·exact aN (p:=4) (u:=5) (u2:=6) (by rfl) _ _ u.heap.size rz _ _ (by rfl) (by rfl) (by rfl) (setRow_heap _ _ _ _ _ _ (aF (Below.refl _ _)).1)
   ·exact below_setRow (aF (Below.refl _ _)).2.2 (Nat.le_refl _) _
  ·have hq2:¬first < 0:=by omega
   go_enter Tryz.func65,Tryz.ntmps65
   go_wp2_with (first
    | (refine wpList_load_row rfl 84 _ rfl (u.heap.size+1) rfl 84 rz.cells (0,0) _ (aF (Below.refl _ _)).2.1 Tryz.underlying84 rfl Tryz.info84 ?_)
    | (refine wpList_store_row rfl 84 _ _ rfl u.heap.size rz.cells rfl rfl 84 rz.cells (aF (Below.refl _ _)).1 Tryz.info84 rfl (bM _) ?_))
   refine bodyPost_ret (v:=.tuple #[.agg rz.cells,.int .i64 0,.int .i64 10]) ?_ rfl ⟨rfl,?_⟩
   ·exact aN (p:=4) (u:=5) (u2:=6) (by rfl) _ _ u.heap.size rz _ _ (by rfl) (by rfl) (by rfl) (setRow_heap _ _ _ _ _ _ (aF (Below.refl _ _)).1)
   ·exact below_setRow (aF (Below.refl _ _)).2.2 (Nat.le_refl _) _
theorem pU (b off cap i:Nat) (h:¬cap=i):cutA (some ⟨b,off,none⟩) cap i=some ⟨b,off+i,none⟩:=by
 unfold cutA
 rw[if_neg h,Option.map_some,Addr.add_lit]
theorem uJ (b off cap:Nat):cutA (some ⟨b,off,none⟩) cap cap=some ⟨b,off,none⟩:=by
 unfold cutA
 rw[if_pos rfl]
theorem lR (l:List Nat):p1 l=l.drop (1+numN (p0 l)):=by
 unfold p1 p0
 rw[List.drop_drop]
theorem aCi (l:List Nat):p2 l=l.drop (1+numN (p0 l)+numN (p1 l)):=by
 show(p1 l).drop (numN (p1 l))=_
 conv=>lhs;rw[lR,List.drop_drop]
 rw[<-lR]
theorem gV {b off cap:Nat} {l q:List Nat} {i:Nat} {ii:Int} (hl6:l.length<=6000) (hl:l.length<=cap) (hc:cap<=maxLen) (hq:q=l.drop i) (hii:ii=((i:Nat):Int)) (hi:i<=l.length) {x:ByteArray} {j:Int}
 (hx:(if okT q=true then strN ((q.drop (numN q)).take (numV q)) else ⟨#[]⟩)=x) (hj:(if okT q=true then ((i+numN q+numV q:Nat):Int) else -1)=j) :
 ∀w',Row w' (some ⟨b,off,none⟩) l->Calls Tryz.prog 88 #[.slice (some ⟨b,off,none⟩) l.length cap,.int .i64 ii] w' fun e w2=>e=.returned (.tuple #[.string x,.int .i64 j])/\w2=w':=by
 intro w' h
 subst hx hj hii hq
 exact xD b off cap l i w' h hl6 hl hc hi
theorem rM (a:Option Addr) (cap:Nat) (l:List Nat) (first:Int) (u:World) (hr:Row u a l) (hl6:l.length<=6000) (hl:l.length<=cap) (hc:cap<=maxLen) :
 Calls Tryz.prog 65 #[.slice a l.length cap,.int .i64 first] u fun e w'=>e=.returned (.tuple #[.agg (decR l first).cells,.int .i64 ((decN l first:Nat):Int),.int .i64 (decE l first)])/\Below u.heap.size u w':=by
 have hbad:okD l first=false->Value.tuple #[.agg (decR l first).cells,.int .i64 ((decN l first:Nat):Int),.int .i64 (decE l first)]=.tuple #[.agg rz.cells,.int .i64 0,.int .i64 10]:=by
  intro h
  unfold decR decN decE
  rw[h]
  rfl
 by_cases hg:gate l first=true
 ·obtain⟨ht,h0,h3⟩:=mV hg
  obtain⟨f0,f1⟩:=(bZ first).1 ht
  have hlt:=hr.lt 0
  obtain⟨b,off,rfl,hc0,_⟩:=hr 0 h0
  rw[Nat.add_zero] at hc0
  have hcm:cap<=9223372036854775807:=by unfold maxLen at hc;exact hc
  have hBW:Below u.heap.size u ((u.alloc (.cells rz.cells 84)).alloc (.cells rz.cells 84)):=(aF (Below.refl _ _)).2.2
  have hrW:=hr.below hBW
  have U0:=lJ (some ⟨b,off,none⟩) cap l 1 _ hrW hl hc
  have hn0le:=kL (p0 l)
  have hp0:(p0 l).length=l.length - 1:=by simp[p0]
  have V0le:=fD (p0 l)
  have V1le:=fD (p1 l)
  change Calls Tryz.prog 86 #[.slice (cutA (some ⟨b,off,none⟩) cap 1) (l.length - 1) (cap - 1)] _ fun e w'=>e=.returned (.tuple #[.int .u64 ((numV (p0 l):Nat):Int),.int .i64 ((numN (p0 l):Nat):Int)])/\w'=_ at U0
  have hno:¬Reads l first->okD l first=false:=by
   intro hR
   cases h:okD l first
   ·rfl
   ·exact absurd (rL f0 f1 h) hR
  by_cases hn0:numN (p0 l)=0
  ·rw[hbad (hno fun h=>h.n0 hn0)]
   rw[hn0] at U0
   by_cases hc1:cap=1
   ·obtain rfl:cap=l.length:=by omega
    rw[hc1,uJ,Nat.sub_self] at U0
    rw[hc1]
    exact aDq b off first u _ hc0 h3 f0 f1 _ U0
   ·rw[pU b off cap 1 hc1] at U0
    exact aCs b off cap l.length first u _ hc0 h0 hl6 hl hcm h3 f0 f1 hc1 _ U0
  ·have hc1:¬cap=1:=by omega
   have hn0':(((numN (p0 l):Nat):Int) == 0)=false:=by rw[beq_eq_false_iff_ne];omega
   rw[pU b off cap 1 hc1] at U0
   by_cases hV:100<=numV (p0 l)
   ·rw[hbad (hno fun h=>by have:=h.v0;omega)]
    exact aBw b off cap l.length first u _ hc0 h0 hl6 hl hcm h3 f0 f1 hc1 _ _ hn0' (by omega) U0
   ·have hV':¬(100:Int)<=((numV (p0 l):Nat):Int):=by omega
    have hi:1+numN (p0 l)<=l.length:=by omega
    have U1:=lJ (some ⟨b,off,none⟩) cap l (1+numN (p0 l)) _ hrW hl hc
    rw[<-lR] at U1
    have hn1le:=kL (p1 l)
    have hp1:(p1 l).length=l.length - (1+numN (p0 l)):=by rw[lR,List.length_drop]
    have HZ:=zR ((numV (p1 l):Nat):Int) ((u.alloc (.cells rz.cells 84)).alloc (.cells rz.cells 84)) (by omega) (by omega)
    by_cases hc2:cap=1+numN (p0 l)
    ·obtain hll:l.length=1+numN (p0 l):=by omega
     have hn1:numN (p1 l)=0:=by omega
     rw[hbad (hno fun h=>h.n1 hn1)]
     rw[hn1,hc2,uJ,Nat.sub_self,hll,Nat.sub_self] at U1
     rw[hc2,hll,Nat.add_sub_cancel_left] at U0
     rw[hc2,hll]
     exact aEr b off _ first u _ hc0 (by omega) (by omega) h3 f0 f1 _ _ (by omega) hn0' hV' rfl U0 _ _ U1 HZ
    ·rw[pU b off cap _ hc2] at U1
     by_cases hn1:numN (p1 l)=0
     ·rw[hbad (hno fun h=>h.n1 hn1)]
      exact aD5 b off cap l.length first u _ hc0 h0 hl6 hl hcm h3 f0 f1 hc1 _ _ hn0' hV' U0 hi hc2 _ _ _ hn1 U1 HZ
     ·have hn1':(((numN (p1 l):Nat):Int) == 0)=false:=by rw[beq_eq_false_iff_ne];omega
      by_cases hd:zag (numV (p1 l)) < -first
      ·rw[hbad (hno fun h=>by have:=h.t0;omega)]
       exact aEb b off cap l.length first u _ hc0 h0 hl6 hl hcm h3 f0 f1 hc1 _ _ hn0' hV' U0 hi hc2 _ _ _ hn1' hd U1 HZ
      ·by_cases hd2:1125899906842624 - first < zag (numV (p1 l))
       ·rw[hbad (hno fun h=>by have:=h.t1;omega)]
        exact aD2 b off cap l.length first u _ hc0 h0 hl6 hl hcm h3 f0 f1 hc1 _ _ hn0' hV' U0 hi hc2 _ _ _ hn1' hd hd2 U1 HZ
       ·have hi2:1+numN (p0 l)+numN (p1 l)<=l.length:=by omega
        have hw0:IntKind.i64.wrap ((numV (p0 l):Nat):Int)=((numV (p0 l):Nat):Int):=by rw[IntKind.wrap_i64];omega
        have hwT:IntKind.i64.wrap (first+zag (numV (p1 l)))=first+zag (numV (p1 l)):=by rw[IntKind.wrap_i64];omega
        have hkb:(bits .and .u8 ((l.getD 0 0:Nat):Int) 1 == 1)=hkOf l:=by
         rw[tV _ (by omega)]
         unfold hkOf
         generalize l.getD 0 0=c at *
         rw[Bool.eq_iff_iff]
         simp
         omega
        have hvb:(bits .and .u8 ((l.getD 0 0:Nat):Int) 2 == 2)=hvOf l:=by
         rw[uR _ (by omega)]
         unfold hvOf
         generalize l.getD 0 0=c at *
         rw[Bool.eq_iff_iff]
         simp
         omega
        have eI:(1:Int)+((numN (p0 l):Nat):Int)+((numN (p1 l):Nat):Int)=((1+numN (p0 l)+numN (p1 l):Nat):Int):=by omega
        have hp2:=aCi l
        have hp2l:(p2 l).length=l.length - (1+numN (p0 l)+numN (p1 l)):=by rw[hp2,List.length_drop]
        have RD:(hkOf l=true->okT (p2 l)=true)->(hvOf l=true->okT (p3 l)=true)->Reads l first:=fun k v=>⟨hn0,by omega,hn1,by omega,by omega,k,v⟩
        cases hk:hkOf l with
        | false=>
         rw[hk] at hkb
         have hp3:p3 l=p2 l:=by unfold p3;rw[hk];rfl
         cases hv:hvOf l with
         | false=>
          rw[hv] at hvb
          obtain⟨ok,er⟩:=kH hg (RD (fun c=>by rw[hk] at c;cases c) (fun c=>by rw[hv] at c;cases c))
          rw[hk,hv,if_neg (by simp),if_neg (by simp)] at er
          have hp4:p4 l=p2 l:=by unfold p4;rw[hv,hp3];rfl
          have:=aBl b off cap l.length first u _ hc0 h0 hl6 hl hcm h3 f0 f1 hc1 _ _ hn0' hV' U0 hi hc2 _ _ _ hn1' hd hd2 U1 HZ hi2 l rfl hr hw0 hwT hkb hvb
          unfold decR decN decE
          rw[if_pos ok,if_pos ok,if_pos ok,er,hp4,hp2l]
          rw[eI] at this
          rw[show l.length - (l.length - (1+numN (p0 l)+numN (p1 l)))=1+numN (p0 l)+numN (p1 l) by omega]
          exact this
         | true=>
          rw[hv] at hvb
          by_cases hT:okT (p2 l)=true
          ·obtain⟨ok,er⟩:=kH hg (RD (fun c=>by rw[hk] at c;cases c) (fun _=>by rw[hp3];exact hT))
           rw[hk,hv,if_neg (by simp),if_pos rfl,hp3] at er
           obtain⟨_,_,a3,_,a5⟩:=oK hT false
           have hp4:(p4 l).length=l.length - (1+numN (p0 l)+numN (p1 l)+numN (p2 l)+numV (p2 l)):=by
            unfold p4;rw[hv,hp3,a3,List.length_drop,hp2l];omega
           have:=aDj b off cap l.length first u _ hc0 h0 hl6 hl hcm h3 f0 f1 hc1 _ _ hn0' hV' U0 hi hc2 _ _ _ hn1' hd hd2 U1 HZ hi2 l rfl hr hw0 hwT hkb hvb _ _ (by omega) (gV hl6 hl hc hp2 eI hi2 (if_pos hT) (if_pos hT))
           unfold decR decN decE
           rw[if_pos ok,if_pos ok,if_pos ok,er,hp4]
           rw[show l.length - (l.length - (1+numN (p0 l)+numN (p1 l)+numN (p2 l)+numV (p2 l)))=1+numN (p0 l)+numN (p1 l)+numN (p2 l)+numV (p2 l) by omega]
           exact this
          ·rw[hbad (hno fun h=>hT (by rw[<-hp3];exact h.v hv))]
           exact aB9 b off cap l.length first u _ hc0 h0 hl6 hl hcm h3 f0 f1 hc1 _ _ hn0' hV' U0 hi hc2 _ _ _ hn1' hd hd2 U1 HZ hi2 l rfl hr hw0 hwT hkb hvb _ (-1) (by omega) (gV hl6 hl hc hp2 eI hi2 (if_neg hT) (if_neg hT))
        | true=>
         rw[hk] at hkb
         by_cases hT:okT (p2 l)=true
         ·obtain⟨_,_,a3,_,a5⟩:=oK hT false
          have hj1:1+numN (p0 l)+numN (p1 l)+numN (p2 l)+numV (p2 l)<=l.length:=by omega
          have hp3:p3 l=l.drop (1+numN (p0 l)+numN (p1 l)+numN (p2 l)+numV (p2 l)):=by
           unfold p3;rw[hk,a3]
           conv=>lhs;rw[hp2,List.drop_drop]
           rw[<-hp2,Nat.add_assoc (1+numN (p0 l)+numN (p1 l))]
          have hp3l:(p3 l).length=l.length - (1+numN (p0 l)+numN (p1 l)+numN (p2 l)+numV (p2 l)):=by rw[hp3,List.length_drop]
          cases hv:hvOf l with
          | false=>
           rw[hv] at hvb
           obtain⟨ok,er⟩:=kH hg (RD (fun _=>hT) (fun c=>by rw[hv] at c;cases c))
           rw[hk,hv,if_pos rfl,if_neg (by simp)] at er
           have hp4:p4 l=p3 l:=by unfold p4;rw[hv];rfl
           have:=aEm b off cap l.length first u _ hc0 h0 hl6 hl hcm h3 f0 f1 hc1 _ _ hn0' hV' U0 hi hc2 _ _ _ hn1' hd hd2 U1 HZ hi2 l rfl hr hw0 hwT hkb hvb _ _ (by omega) (gV hl6 hl hc hp2 eI hi2 (if_pos hT) (if_pos hT))
           unfold decR decN decE
           rw[if_pos ok,if_pos ok,if_pos ok,er,hp4,hp3l]
           rw[show l.length - (l.length - (1+numN (p0 l)+numN (p1 l)+numN (p2 l)+numV (p2 l)))=1+numN (p0 l)+numN (p1 l)+numN (p2 l)+numV (p2 l) by omega]
           exact this
          | true=>
           rw[hv] at hvb
           by_cases hT2:okT (p3 l)=true
           ·obtain⟨ok,er⟩:=kH hg (RD (fun _=>hT) (fun _=>hT2))
            rw[hk,hv,if_pos rfl,if_pos rfl] at er
            obtain⟨_,_,d3,_,d5⟩:=oK hT2 false
            have hp4:(p4 l).length=l.length - (1+numN (p0 l)+numN (p1 l)+numN (p2 l)+numV (p2 l)+numN (p3 l)+numV (p3 l)):=by
             unfold p4;rw[hv,d3,List.length_drop,hp3l];omega
            have:=aEf b off cap l.length first u _ hc0 h0 hl6 hl hcm h3 f0 f1 hc1 _ _ hn0' hV' U0 hi hc2 _ _ _ hn1' hd hd2 U1 HZ hi2 l rfl hr hw0 hwT hkb hvb _ _ _ _ (by omega) (by omega) (gV hl6 hl hc hp2 eI hi2 (if_pos hT) (if_pos hT)) (gV hl6 hl hc hp3 rfl hj1 (if_pos hT2) (if_pos hT2))
            unfold decR decN decE
            rw[if_pos ok,if_pos ok,if_pos ok,er,hp4]
            rw[show l.length - (l.length - (1+numN (p0 l)+numN (p1 l)+numN (p2 l)+numV (p2 l)+numN (p3 l)+numV (p3 l)))=1+numN (p0 l)+numN (p1 l)+numN (p2 l)+numV (p2 l)+numN (p3 l)+numV (p3 l) by omega]
            exact this
           ·rw[hbad (hno fun h=>hT2 (h.v hv))]
            exact aAv b off cap l.length first u _ hc0 h0 hl6 hl hcm h3 f0 f1 hc1 _ _ hn0' hV' U0 hi hc2 _ _ _ hn1' hd hd2 U1 HZ hi2 l rfl hr hw0 hwT hkb hvb _ _ _ (-1) (by omega) (by omega) (gV hl6 hl hc hp2 eI hi2 (if_pos hT) (if_pos hT)) (gV hl6 hl hc hp3 rfl hj1 (if_neg hT2) (if_neg hT2))
         ·rw[hbad (hno fun h=>hT (h.k hk))]
          cases hv:hvOf l with
          | false=>
           rw[hv] at hvb
           exact aBz b off cap l.length first u _ hc0 h0 hl6 hl hcm h3 f0 f1 hc1 _ _ hn0' hV' U0 hi hc2 _ _ _ hn1' hd hd2 U1 HZ hi2 l rfl hr hw0 hwT hkb hvb _ (-1) (by omega) (gV hl6 hl hc hp2 eI hi2 (if_neg hT) (if_neg hT))
          | true=>
           rw[hv] at hvb
           exact aAq b off cap l.length first u _ hc0 h0 hl6 hl hcm h3 f0 f1 hc1 _ _ hn0' hV' U0 hi hc2 _ _ _ hn1' hd hd2 U1 HZ hi2 l rfl hr hw0 hwT hkb hvb _ (-1) (by omega) (gV hl6 hl hc hp2 eI hi2 (if_neg hT) (if_neg hT))
 ·have hg':gate l first=false:=by simpa using hg
  have e:okD l first=false:=by unfold okD;rw[hg'];rfl
  rw[hbad e]
  exact aCn a cap l first u hr hl hc hg'
def NwA (w:World) (a:Option Addr) (c:Nat):Prop:=(a=none->c=0)/\∀g,a=some g->w.heap.size<=g.block
def DecQ (ok:Prop) (c0 c1 c2 c3:Int) (RS:List Rc) (n:Nat) (w:World) (e:Ending) (w':World):Prop:=
 (ok->∃a' c',e=.returned (.tuple #[.agg #[.int .i64 c0,.int .i64 c1,.int .i64 c2,.int .i64 c3,.slice a' RS.length c'],.int .i64 (n:Int),.int .i64 0])/\RRow w' a' RS/\NwA w a' c')/\(¬ok->e=.returned (.tuple #[.agg #[.int .i64 0,.int .i64 0,.int .i64 0,.int .i64 0,.slice none 0 0],.int .i64 0,.int .i64 10]))/\Below w.heap.size w w'
structure DBS (w:World) (base sp prod seq:Int) (v:Value) (L:List Rc) (x:World):Prop where
 own:x.ownsRow (w.heap.size+3) 84 6 v L.length (rcv L)
 box:x.heap[w.heap.size+2]? = some (.cells #[.int .i64 base,.int .i64 sp,.int .i64 prod,.int .i64 seq,v] 88 (0,0))
 non:x.heap[w.heap.size+1]? = some (.cells #[.int .i64 0,.int .i64 0,.int .i64 0,.int .i64 0,.slice none 0 0] 88 (0,0))
 res:x.heap[w.heap.size]? = some (.cells #[.int .i64 0,.int .i64 0,.int .i64 0,.int .i64 0,.slice none 0 0] 88 (0,0))
 bel:Below w.heap.size w x
theorem wY (w:World) (o1 o2 o3:Obj):Below w.heap.size w (((w.alloc o1).alloc o2).alloc o3)/\(((w.alloc o1).alloc o2).alloc o3).heap[w.heap.size]? = some o1/\(((w.alloc o1).alloc o2).alloc o3).heap[w.heap.size+1]? = some o2/\(((w.alloc o1).alloc o2).alloc o3).heap[w.heap.size+2]? = some o3:=by
 have b1:Below w.heap.size w (w.alloc o1):=aA _
 have b2:Below w.heap.size w ((w.alloc o1).alloc o2):=b1.alloc (by simp) _
 have b3:Below w.heap.size w (((w.alloc o1).alloc o2).alloc o3):=b2.alloc (by simp;omega) _
 refine⟨b3,?_,?_,?_⟩
 ·rw[(aA (w:=(w.alloc o1).alloc o2) o3).block w.heap.size (by simp;omega),(aA (w:=w.alloc o1) o2).block w.heap.size (by simp)]
  exact heap_alloc_new w o1
 ·rw[(aA (w:=(w.alloc o1).alloc o2) o3).block (w.heap.size+1) (by simp)]
  have:=heap_alloc_new (w.alloc o1) o2
  simpa using this
 ·have:=heap_alloc_new ((w.alloc o1).alloc o2) o3
  simpa using this
theorem DBS.new (w:World) (base sp prod seq:Int):DBS w base sp prod seq (.slice none 0 0) [] (((w.alloc (.cells #[.int .i64 0,.int .i64 0,.int .i64 0,.int .i64 0,.slice none 0 0] 88)).alloc (.cells #[.int .i64 0,.int .i64 0,.int .i64 0,.int .i64 0,.slice none 0 0] 88)).alloc (.cells #[.int .i64 base,.int .i64 sp,.int .i64 prod,.int .i64 seq,.slice none 0 0] 88)):=by
 obtain⟨b,h1,h2,h3⟩:=wY w (.cells #[.int .i64 0,.int .i64 0,.int .i64 0,.int .i64 0,.slice none 0 0] 88) (.cells #[.int .i64 0,.int .i64 0,.int .i64 0,.int .i64 0,.slice none 0 0] 88) (.cells #[.int .i64 base,.int .i64 sp,.int .i64 prod,.int .i64 seq,.slice none 0 0] 88)
 exact⟨World.ownsRow_nil _ _ _ _,h3,h2,h1,b⟩
theorem DBS.below {w x y:World} {base sp prod seq:Int} {v:Value} {L:List Rc} (h:DBS w base sp prod seq v L x) (hb:Below x.heap.size x y):DBS w base sp prod seq v L y:=
 ⟨fQ h.own hb,(hb.block _ (Array.getElem?_eq_some_iff.1 h.box).1).trans h.box,(hb.block _ (Array.getElem?_eq_some_iff.1 h.non).1).trans h.non,(hb.block _ (Array.getElem?_eq_some_iff.1 h.res).1).trans h.res,h.bel.trans (hb.mono h.bel.size)⟩
theorem DBS.cells {w x:World} {base sp prod seq:Int} {v:Value} {L:List Rc} (h:DBS w base sp prod seq v L x) :
 x.cell? ⟨w.heap.size+2,0,none⟩=some (.int .i64 base)/\x.cell? ⟨w.heap.size+2,1,none⟩=some (.int .i64 sp)/\x.cell? ⟨w.heap.size+2,2,none⟩=some (.int .i64 prod)/\x.cell? ⟨w.heap.size+2,3,none⟩=some (.int .i64 seq)/\x.cell? ⟨w.heap.size+2,4,none⟩=some v/\w.heap.size+2 < x.heap.size/\∀i,x.frozen? ⟨w.heap.size+2,i,none⟩=false:=by
 have hc:∀j,x.cell? ⟨w.heap.size+2,j,none⟩=_:=fun j=>cell_of_row _ (w.heap.size+2) j _ 88 (0,0) h.box
 exact⟨by rw[hc];rfl,by rw[hc];rfl,by rw[hc];rfl,by rw[hc];rfl,by rw[hc];rfl,(Array.getElem?_eq_some_iff.1 h.box).1,fun i=>by simp[World.frozen?,h.box]⟩
theorem DBS.grow {w x y:World} {base sp prod seq:Int} {v v':Value} {L:List Rc} {r:Rc} (h:DBS w base sp prod seq v L x) (hb:Below (w.heap.size+3) x y) (hown:y.ownsRow (w.heap.size+3) 84 6 v' (L.length+1) (rcv L++rcv [r])):DBS w base sp prod seq v' (L++[r]) (y.setCell ⟨w.heap.size+2,4,none⟩ v'):=by
 have hbx:y.heap[w.heap.size+2]? = _:=(hb.block (w.heap.size+2) (by omega)).trans h.box
 have ho:∀j,j≠w.heap.size+2->(y.setCell ⟨w.heap.size+2,4,none⟩ v').heap[j]? = y.heap[j]?:=by
  intro j hj
  unfold World.setCell
  simp[Array.getElem?_modify,Ne.symm hj]
 refine⟨?_,by rw[aH hbx];rfl,by rw[ho _ (by omega),hb.block (w.heap.size+1) (by omega)];exact h.non,by rw[ho _ (by omega),hb.block w.heap.size (by omega)];exact h.res,(h.bel.trans (hb.mono (by omega))).setCell (p:=⟨w.heap.size+2,4,none⟩) (by show _<=w.heap.size+2;omega) _⟩
 rw[lU,List.length_append]
 rcases hown.2 with⟨e,e0⟩ | ⟨g,cap,cur,e,hB,hg,r⟩
 ·omega
 ·exact⟨hown.1,.inr ⟨g,cap,cur,e,hB,by rw[ho _ (by omega)];exact hg,r⟩⟩
theorem vQ {w x y:World} {base sp prod seq:Int} {v:Value} {L:List Rc} (h:DBS w base sp prod seq v L x) (hb:Below (w.heap.size+3) x y):y.cell? ⟨w.heap.size+2,4,none⟩=some v/\y.frozen? ⟨w.heap.size+2,4,none⟩=false/\w.heap.size+2 < y.heap.size:=by
 obtain⟨_,_,_,_,c4,cz,cf⟩:=DBS.cells h
 exact⟨(hb.cell (p:=⟨w.heap.size+2,4,none⟩) (by show w.heap.size+2 < _;omega)).trans c4,(hb.frozen (p:=⟨w.heap.size+2,4,none⟩) (by show w.heap.size+2 < _;omega)).trans (cf 4),Nat.lt_of_lt_of_le cz hb.size⟩
theorem DBS.apart {w x:World} {base sp prod seq:Int} {a:Option Addr} {n c:Nat} {L:List Rc} (h:DBS w base sp prod seq (.slice a n c) L x):∀g,a=some g->g.block≠w.heap.size:=by
 intro g hg
 subst hg
 rcases h.own.2 with⟨e,_⟩ | ⟨g',cap',cur,e,hB,_⟩
 ·cases e
 ·injection e with e1
  injection e1 with e1
  rw[e1]
  show g'≠_
  omega
theorem aFh (pb poff cap:Nat) (l:List Nat) (w:World) (hr:Row w (some ⟨pb,poff,none⟩) l) (hl:l.length<=cap) (hc:cap<=maxLen) (hl2:l.length<=40000) (h48:48<=l.length)
 (OK:Prop) (V0 V1 V2 V3 V4 V5 V6 Nn:Nat) (RS:Nat->List Rc) (I:Nat->Nat) (D:Nat->List Nat) (R:Nat->Rc) (nk:Nat->Nat) (EL:List Nat) (ck:Int)
 (HG0:Hid (∀y,Row y (some ⟨pb,poff,none⟩) l->Calls Tryz.prog 40 #[.slice (some ⟨pb,poff,none⟩) l.length cap,.int .i64 0,.int .i64 8,.bool true] y fun e w'=>e=.returned (.tuple #[.int .u64 (V0:Int),.bool true])/\w'=y))
 (HG1:Hid (∀y,Row y (some ⟨pb,poff,none⟩) l->Calls Tryz.prog 40 #[.slice (some ⟨pb,poff,none⟩) l.length cap,.int .i64 8,.int .i64 4,.bool true] y fun e w'=>e=.returned (.tuple #[.int .u64 (V1:Int),.bool true])/\w'=y))
 (HG2:Hid (∀y,Row y (some ⟨pb,poff,none⟩) l->Calls Tryz.prog 40 #[.slice (some ⟨pb,poff,none⟩) l.length cap,.int .i64 16,.int .i64 8,.bool true] y fun e w'=>e=.returned (.tuple #[.int .u64 (V2:Int),.bool true])/\w'=y))
 (HG3:Hid (∀y,Row y (some ⟨pb,poff,none⟩) l->Calls Tryz.prog 40 #[.slice (some ⟨pb,poff,none⟩) l.length cap,.int .i64 24,.int .i64 8,.bool true] y fun e w'=>e=.returned (.tuple #[.int .u64 (V3:Int),.bool true])/\w'=y))
 (HG4:Hid (∀y,Row y (some ⟨pb,poff,none⟩) l->Calls Tryz.prog 40 #[.slice (some ⟨pb,poff,none⟩) l.length cap,.int .i64 32,.int .i64 4,.bool true] y fun e w'=>e=.returned (.tuple #[.int .u64 (V4:Int),.bool true])/\w'=y))
 (HG5:Hid (∀y,Row y (some ⟨pb,poff,none⟩) l->Calls Tryz.prog 40 #[.slice (some ⟨pb,poff,none⟩) l.length cap,.int .i64 36,.int .i64 4,.bool true] y fun e w'=>e=.returned (.tuple #[.int .u64 (V5:Int),.bool true])/\w'=y))
 (HG6:Hid (∀y,Row y (some ⟨pb,poff,none⟩) l->Calls Tryz.prog 40 #[.slice (some ⟨pb,poff,none⟩) l.length cap,.int .i64 40,.int .i64 8,.bool true] y fun e w'=>e=.returned (.tuple #[.int .u64 (V6:Int),.bool true])/\w'=y))
 (s1:36<=V1) (s2:V1<=l.length - 12) (s3:V1<=6000) (bs:V0<=1125899906842624) (pr:V2<=4611686018427387904) (sq:V3<=4611686018427387904) (sp:V4<=100) (k1:1<=V5) (k2:V5<=100) (fi:V6<=1125899906842624) (hN:Nn=12+V1)
 (HI0:Hid (I 0=48)) (HR0:Hid (RS 0=[])) (HRL:Hid (∀k,(RS k).length=k))
 (okk:Nat->Prop) (al:Nat->Prop) (HA0:Hid (al 0)) (hIb:∀k,k<=V5->al k->I k<=Nn)
 (HYs:Hid (∀k,k < V5->al k->okk k->al (k+1)/\I (k+1)=I k+nk k/\RS (k+1)=RS k++[R k]/\∀y,Row y (some ⟨pb,poff,none⟩) l->Calls Tryz.prog 65 #[.slice (cutA (some ⟨pb,poff,none⟩) cap (I k)) (Nn - I k) (cap - I k),.int .i64 (V6:Int)] y fun e w'=>e=.returned (.tuple #[.agg (R k).cells,.int .i64 (nk k:Int),.int .i64 0])/\Below y.heap.size y w'))
 (HNs:Hid (∀k,k < V5->al k->¬okk k->¬OK/\∀y,Row y (some ⟨pb,poff,none⟩) l->Calls Tryz.prog 65 #[.slice (cutA (some ⟨pb,poff,none⟩) cap (I k)) (Nn - I k) (cap - I k),.int .i64 (V6:Int)] y fun e w'=>e=.returned (.tuple #[.agg rz.cells,.int .i64 0,.int .i64 10])/\Below y.heap.size y w'))
 (HEN:Hid (∀x a' c',Tab x->RRow x a' (RS V5)->Calls Tryz.prog 51 #[.agg #[.int .i64 (V0:Int),.int .i64 (V4:Int),.int .i64 (V2:Int),.int .i64 (V3:Int),.slice a' V5 c']] x fun e w'=>∃v,e=.returned (.tuple #[v,.int .i64 ck])/\w'.ownsRow x.heap.size 5 1 v EL.length (cv EL)/\Below x.heap.size x w'))
 (HEL:Hid (∀i,EL.getD i 0 < 256)) (HF1:Hid (ck≠0->¬OK)) (HF2:Hid (al V5->I V5≠Nn->¬OK)) (HF3:Hid (¬EL=l.take Nn->¬OK)) (HF4:Hid (EL=l.take Nn->ck=0->OK)) (ht:Tab w) :
 Calls Tryz.prog 43 #[.slice (some ⟨pb,poff,none⟩) l.length cap] w fun e w'=>DecQ OK (V0:Int) (V4:Int) (V2:Int) (V3:Int) (RS V5) Nn w e w':=by
 have HROW:Hid (Row w (some ⟨pb,poff,none⟩) l):=hr
 have HT:Hid (Tab w):=ht
 have hlt:=hr.lt
 have HW2:Hid (∀o1 o2,Below w.heap.size w ((w.alloc o1).alloc o2)):=fun o1 o2=>(aA o1).trans ((aA o2).mono (by simp))
 have hpb:pb < w.heap.size:=by
  obtain⟨b,off,e,hc0,_⟩:=hr 0 (by omega)
  have:=World.block_lt_of_cell? _ _ hc0
  injection e with e
  injection e with e1 e2
  subst e1
  simpa using this
 have HSQ:Hid ((¬EL=l.take Nn->((strN EL).toList == (strN (l.take Nn)).toList)=false)/\(EL=l.take Nn->((strN EL).toList == (strN (l.take Nn)).toList)=true)):=by
  have h1:=str_eq EL (l.take Nn) (bF HEL.out) (fun x hx=>bF hlt x (List.mem_of_mem_take hx))
  exact⟨fun h=>by rw[h1,decide_eq_false h],fun h=>by rw[h1,decide_eq_true h]⟩
 obtain⟨Zn,HZ⟩:∃Zn:Nat,Hid (l.length - 12=Zn):=⟨_,rfl⟩
 rw[HZ.out] at s2
 have z1:IntKind.i64.wrap ((l.length:Int) - 12)=(Zn:Int):=by have:=HZ.out;rw[IntKind.wrap_i64];omega
 have z2:IntKind.u64.wrap (Zn:Int)=(Zn:Int):=by have:=HZ.out;rw[IntKind.wrap_u64];omega
 have hl48:¬(l.length:Int) < 48:=by omega
 have hl48d:decide ((l.length:Int) < 48)=false:=decide_eq_false hl48
 have e1:¬(V1:Int) < 36:=by omega
 have e1d:decide ((V1:Int) < 36)=false:=decide_eq_false e1
 have e2:¬Zn < V1:=by omega
 have e2d:decide (Zn < V1)=false:=decide_eq_false e2
 have e3:¬(6000:Int) < (V1:Int):=by omega
 have e3d:decide ((6000:Int) < (V1:Int))=false:=decide_eq_false e3
 have e4:¬(1125899906842624:Int) < (V0:Int):=by omega
 have e4d:decide ((1125899906842624:Int) < (V0:Int))=false:=decide_eq_false e4
 have e5:¬(4611686018427387904:Int) < (V2:Int):=by omega
 have e5d:decide ((4611686018427387904:Int) < (V2:Int))=false:=decide_eq_false e5
 have e6:¬(4611686018427387904:Int) < (V3:Int):=by omega
 have e6d:decide ((4611686018427387904:Int) < (V3:Int))=false:=decide_eq_false e6
 have e7:¬(100:Int) < (V4:Int):=by omega
 have e7d:decide ((100:Int) < (V4:Int))=false:=decide_eq_false e7
 have e8:¬(V5:Int) < 1:=by omega
 have e8d:decide ((V5:Int) < 1)=false:=decide_eq_false e8
 have e9:¬(100:Int) < (V5:Int):=by omega
 have e9d:decide ((100:Int) < (V5:Int))=false:=decide_eq_false e9
 have ea:¬(1125899906842624:Int) < (V6:Int):=by omega
 have ead:decide ((1125899906842624:Int) < (V6:Int))=false:=decide_eq_false ea
 have m0:IntKind.i64.wrap (V0:Int)=(V0:Int):=by rw[IntKind.wrap_i64];omega
 have m1:IntKind.i64.wrap (V1:Int)=(V1:Int):=by rw[IntKind.wrap_i64];omega
 have m2:IntKind.i64.wrap (V2:Int)=(V2:Int):=by rw[IntKind.wrap_i64];omega
 have m3:IntKind.i64.wrap (V3:Int)=(V3:Int):=by rw[IntKind.wrap_i64];omega
 have m4:IntKind.i64.wrap (V4:Int)=(V4:Int):=by rw[IntKind.wrap_i64];omega
 have m5:IntKind.i64.wrap (V5:Int)=(V5:Int):=by rw[IntKind.wrap_i64];omega
 have m6:IntKind.i64.wrap (V6:Int)=(V6:Int):=by rw[IntKind.wrap_i64];omega
 have m7:IntKind.i64.wrap (12+(V1:Int))=(Nn:Int):=by rw[IntKind.wrap_i64];omega
 have hNl:Nn<=l.length:=by have:=HZ.out;omega
 have hN6:Nn<=6012:=by omega
 have HNL:Hid (Nn<=cap/\cap<=maxLen/\l.length<=cap):=⟨by omega,hc,hl⟩
 clear hr ht hlt hc hl s1 s2 s3 bs pr sq sp k1 fi hN h48
 have tok0:=trivial
 have tok1:=trivial
 have tok2:=trivial
 have tok3:=trivial
 have tok4:=trivial
 have tok5:=trivial
 have tok6:=trivial
 go_enter Tryz.func43,Tryz.ntmps43
 go_wp2_with (first
  | (go_at_call 40;have _t:=tok0;refine(HG0.out _ (Row.below HROW.out (HW2.out _ _))).mono ?_;clear tok0 _t;rintro e wg ⟨rfl,hw⟩;subst wg)
  | (go_at_call 40;have _t:=tok1;refine(HG1.out _ (Row.below HROW.out (HW2.out _ _))).mono ?_;clear tok1 _t;rintro e wg ⟨rfl,hw⟩;subst wg)
  | (go_at_call 40;have _t:=tok2;refine(HG2.out _ (Row.below HROW.out (HW2.out _ _))).mono ?_;clear tok2 _t;rintro e wg ⟨rfl,hw⟩;subst wg)
  | (go_at_call 40;have _t:=tok3;refine(HG3.out _ (Row.below HROW.out (HW2.out _ _))).mono ?_;clear tok3 _t;rintro e wg ⟨rfl,hw⟩;subst wg)
  | (go_at_call 40;have _t:=tok4;refine(HG4.out _ (Row.below HROW.out (HW2.out _ _))).mono ?_;clear tok4 _t;rintro e wg ⟨rfl,hw⟩;subst wg)
  | (go_at_call 40;have _t:=tok5;refine(HG5.out _ (Row.below HROW.out (HW2.out _ _))).mono ?_;clear tok5 _t;rintro e wg ⟨rfl,hw⟩;subst wg)
  | (go_at_call 40;have _t:=tok6;refine(HG6.out _ (Row.below HROW.out (HW2.out _ _))).mono ?_;clear tok6 _t;rintro e wg ⟨rfl,hw⟩;subst wg))
 go_loopw [22,23] (fun i kk x=>∃(k:Nat) (v:Value),k<=V5/\kk=.int .i64 k/\i=.int .i64 ((I k:Nat):Int)/\al k/\DBS w (V0:Int) (V4:Int) (V2:Int) (V3:Int) v (RS k) x) (fun _ kk _=>V5 - (intOf kk).toNat)
 case atStart=>exact⟨0,_,by omega,rfl,by rw[HI0.out];rfl,HA0.out,by rw[HR0.out];exact DBS.new w _ _ _ _⟩
 case round=>
  obtain⟨k,v,hk,rfl,rfl,hal,hS⟩:=hrel
  have hrl:=HRL.out k
  obtain⟨av',cv',rfl,hrv,hnv,hlv,hmv⟩:=fH hS.own
  have HNWD:Hid (∀g,av'=some g->w.heap.size<=g.block):=fun g hg=>by
   rcases hS.own.2 with⟨e,_⟩ | ⟨g',cap',cur',e,hb',_⟩
   ·injection e with e1;rw[e1] at hg;cases hg
   ·injection e with e1;rw[e1] at hg;injection hg with hg;rw[<-hg];show w.heap.size<=g';omega
  rw[hrl] at hS hlv
  have hIk:=hIb k hk hal
  have ks:∀y,(Instr.slice 22 (.slice (some ⟨pb,poff,none⟩) l.length cap) (some (.int .i64 ((I k:Nat):Int))) (some (.int .i64 (Nn:Int))) none).run Tryz.prog y=.ok (.slice (cutA (some ⟨pb,poff,none⟩) cap (I k)) (Nn - I k) (cap - I k)) y:=fun y=>bK y _ l.length cap (I k) Nn hIk (by have:=HNL.out.1;omega)
  have HS:Hid (DBS w (V0:Int) (V4:Int) (V2:Int) (V3:Int) (.slice av' k cv') (RS k) wr):=hS
  by_cases hlt:k < V5
  ·have hltI:(k:Int) < (V5:Int):=by omega
   by_cases hok:okk k
   ·obtain⟨hal2,hI2,hR2,hD⟩:=HYs.out k hlt hal hok
    have HD:Hid (∀y,Row y (some ⟨pb,poff,none⟩) l->Calls Tryz.prog 65 #[.slice (cutA (some ⟨pb,poff,none⟩) cap (I k)) (Nn - I k) (cap - I k),.int .i64 (V6:Int)] y fun e w'=>e=.returned (.tuple #[.agg (R k).cells,.int .i64 (nk k:Int),.int .i64 0])/\Below y.heap.size y w'):=hD
    have HAL:Hid (al (k+1)):=hal2
    have HI2:Hid (I (k+1)=I k+nk k):=hI2
    have HR2:Hid (RS (k+1)=RS k++[R k]):=hR2
    have hI2b:=hIb (k+1) (by omega) hal2
    clear hal2 hR2 hD HYs HNs hS hrv HA0 HI0 HR0 HEN HEL HF1 HF2 HF3 HF4 HSQ hIb
    rw[hI2] at hI2b
    clear hI2
    have hwi:IntKind.i64.wrap (((I k:Nat):Int)+((nk k:Nat):Int))=((I k:Nat):Int)+((nk k:Nat):Int):=by rw[IntKind.wrap_i64];omega
    generalize R k=r at *
    obtain⟨hk',kk,hv,vv,t,o⟩:=r
    simp only[Rc.cells] at HD
    generalize nk k=n1 at *
    have hzz:w.heap.size+3<=wr.heap.size:=by obtain⟨_,_,_,_,_,cz,_⟩:=DBS.cells HS.out;omega
    go_wp2_with (first
     | (go_at_call 65;refine(HD.out _ (Row.below HROW.out HS.out.bel)).mono ?_;rintro e w3 ⟨rfl,hb3⟩;have HS3:Hid (DBS w (V0:Int) (V4:Int) (V2:Int) (V3:Int) (.slice av' k cv') (RS k) w3):=DBS.below HS.out hb3;obtain⟨c0,c1,c2,c3,c4,cz,cf⟩:=DBS.cells HS3.out;have hz3:w.heap.size+3<=w3.heap.size:=(by omega);have HRN:Hid (∀o1:Obj,RRow ((w3.alloc o1).alloc (.cells #[.bool hk',.string kk,.bool hv,.string vv,.int .i64 t,.int .i64 o] 84)) (some ⟨w3.heap.size+1,0,none⟩) [⟨hk',kk,hv,vv,t,o⟩]):=(fun o1=>by have h2:=yA (w3.alloc o1) ⟨hk',kk,hv,vv,t,o⟩;rw[show(w3.alloc o1).heap.size=w3.heap.size+1 by simp] at h2;exact h2);have HT2:Hid (∀o1 o2,Below w3.heap.size w3 ((w3.alloc o1).alloc o2)):=(fun o1 o2=>(aA o1).trans ((aA o2).mono (by simp)));clear hb3 HS)
     | (at_builtin;have _t:=HRN;refine jE (by rfl) _ _ rfl (w.heap.size+3) _ _ _ _ rfl (DBS.below HS3.out (HT2.out _ _)).own (Below.refl _ _) (by simp;omega) _ 1 [⟨hk',kk,hv,vv,t,o⟩] rfl (HRN.out _) (fun c=>by cases c) (by rw[hrl];simp;omega) ?_;intro v5 w5 hown5 hb5;have HG:Hid (DBS w (V0:Int) (V4:Int) (V2:Int) (V3:Int) v5 (RS k++[⟨hk',kk,hv,vv,t,o⟩]) (w5.setCell ⟨w.heap.size+2,4,none⟩ v5)):=DBS.grow (DBS.below HS3.out (HT2.out _ _)) hb5 hown5;clear c0 c1 c2 c3 c4 cz cf;obtain⟨y4,yf,yz⟩:=vQ (DBS.below HS3.out (HT2.out _ _)) hb5;obtain⟨a5,k5,rfl,-⟩:=fH (rs:=RS k++[⟨hk',kk,hv,vv,t,o⟩]) (by rw[lU,List.length_append];exact hown5);clear hown5 hb5 _t HRN))
    refine⟨⟨k+1,_,by omega,by go_num,?_,HAL.out,by rw[HR2.out];have h2:=HG.out;rw[show(RS k++[(⟨hk',kk,hv,vv,t,o⟩:Rc)]).length=k+1 by simp[hrl]] at h2;exact h2⟩,by simp[intOf];omega⟩
    rw[HI2.out]
    first | rfl | simp
   ·obtain⟨hno,hD⟩:=HNs.out k hlt hal hok
    have HD:Hid (∀y,Row y (some ⟨pb,poff,none⟩) l->Calls Tryz.prog 65 #[.slice (cutA (some ⟨pb,poff,none⟩) cap (I k)) (Nn - I k) (cap - I k),.int .i64 (V6:Int)] y fun e w'=>e=.returned (.tuple #[.agg rz.cells,.int .i64 0,.int .i64 10])/\Below y.heap.size y w'):=hD
    have HNO:Hid (¬OK):=hno
    clear hno hD HYs HNs hS hrv HA0 HI0 HR0 HEN HEL HF1 HF2 HF3 HF4 HSQ hIb
    simp only[Rc.cells,rz] at HD
    go_wp2_with (first
     | (go_at_call 65;refine(HD.out _ (Row.below HROW.out HS.out.bel)).mono ?_;rintro e w3 ⟨rfl,hb3⟩;have HS3:Hid (DBS w (V0:Int) (V4:Int) (V2:Int) (V3:Int) (.slice av' k cv') (RS k) (w3.alloc (.cells #[.bool false,.string ⟨#[]⟩,.bool false,.string ⟨#[]⟩,.int .i64 0,.int .i64 0] 84))):=DBS.below (DBS.below HS.out hb3) (aA _);obtain⟨n0,n1,n2,n3,n4,nz⟩:=aW (DBS.below HS.out hb3).non;clear hb3 HS)
     | (have _t:=HS3;refine wpList_store_row rfl 88 _ _ rfl w.heap.size #[.int .i64 0,.int .i64 0,.int .i64 0,.int .i64 0,.slice none 0 0] rfl rfl 88 _ HS3.out.res Tryz.info88 rfl (aO _ _ _ _ _ _ _) ?_))
    refine bodyPost_ret (v:=.tuple #[.agg #[.int .i64 0,.int .i64 0,.int .i64 0,.int .i64 0,.slice none 0 0],.int .i64 0,.int .i64 10]) ?_ rfl ⟨fun h=>absurd h HNO.out,fun _=>rfl,?_⟩
    ·exact aE (p:=2) (u:=3) (u2:=4) (by rfl) _ _ w.heap.size _ _ _ (by rfl) (by rfl) (by rfl) rfl (setRow_heap _ _ _ _ _ _ HS3.out.res)
    ·exact below_setRow HS3.out.bel (Nat.le_refl _) _
  ·obtain rfl:V5=k:=by omega
   have HRV:Hid (RRow wr av' (RS V5)):=hrv
   have HAV:Hid _:=hS.apart
   obtain⟨c0,c1,c2,c3,c4,cz,cf⟩:=DBS.cells HS.out
   have HF2':Hid (I V5≠Nn->¬OK):=HF2.out hal
   have kt:∀y,(Instr.slice 22 (.slice (some ⟨pb,poff,none⟩) l.length cap) none (some (.int .i64 (Nn:Int))) none).run Tryz.prog y=.ok (.slice (some ⟨pb,poff,none⟩) Nn cap) y:=fun y=>fY y ⟨pb,poff,none⟩ l.length cap Nn (by have:=HNL.out.1;omega) hNl
   have HCV:Hid (∀y,Row y (some ⟨pb,poff,none⟩) l->(convert 22 9 (.slice (some ⟨pb,poff,none⟩) Nn cap)).run Tryz.prog y=.ok (.string (strN (l.take Nn))) y):=fun y h=>gO cap h (by omega)
   have HCW:Hid (∀y a2 k2,Row y a2 EL->(convert 22 9 (.slice a2 EL.length k2)).run Tryz.prog y=.ok (.string (strN EL)) y):=fun y a2 k2 h=>jN k2 h
   clear HYs HNs hS hrv HA0 HI0 HR0 HF2 hIb hal hlt hk ks
   by_cases hck:ck=0
   ·subst hck
    by_cases hIe:I V5=Nn
    ·by_cases hE:EL=l.take Nn
     ·have HOK:Hid OK:=HF4.out hE rfl
      have hst:=HSQ.out.2 hE
      clear HF1 HF2' HF3 HF4 HSQ hE
      generalize strN (l.take Nn)=S2 at *
      generalize strN EL=S1 at *
      rw[hIe]
      clear hIe hIk
      have hNe:((Nn:Int) != (Nn:Int))=false:=by simp
      go_wp2_with (go_at_call 51;refine(HEN.out _ _ _ (Tab.below HT.out HS.out.bel) HRV.out).mono ?_;rintro e w4 ⟨v4,rfl,ho4,hb4⟩;obtain⟨a4,q4,rfl,hr4,_⟩:=bQ ho4 HEL.out;have HS4:Hid (DBS w (V0:Int) (V4:Int) (V2:Int) (V3:Int) (.slice av' V5 cv') (RS V5) w4):=DBS.below HS.out hb4;have HRV4:Hid (RRow w4 av' (RS V5)):=RRow.below HRV.out hb4;have kc1:∀n,(convert 22 9 (.slice a4 EL.length q4)).run Tryz.prog (w4.drewN n)=.ok (.string S1) (w4.drewN n):=(fun n=>HCW.out _ _ _ (Row.drewN hr4 n));have kc2:∀n,(convert 22 9 (.slice (some ⟨pb,poff,none⟩) Nn cap)).run Tryz.prog (w4.drewN n)=.ok (.string S2) (w4.drewN n):=(fun n=>HCV.out _ (Row.drewN (Row.below HROW.out HS4.out.bel) n));clear c0 c1 c2 c3 c4 cz cf ho4 hb4 hr4 HS HRV;obtain⟨c0,c1,c2,c3,c4,cz,cf⟩:=DBS.cells HS4.out;obtain⟨n0,n1,n2,n3,n4,nz⟩:=aW HS4.out.non)
      go_quiet (fail)
      have HS5:Hid (DBS w (V0:Int) (V4:Int) (V2:Int) (V3:Int) (.slice av' V5 cv') (RS V5) (w4.drewN nq)):=DBS.below HS4.out (below_drewN (Below.refl _ _) _)
      go_wp2_with (have _t:=HS5;refine wpList_store_row rfl 88 _ _ rfl w.heap.size #[.int .i64 (V0:Int),.int .i64 (V4:Int),.int .i64 (V2:Int),.int .i64 (V3:Int),.slice av' V5 cv'] rfl rfl 88 _ HS5.out.res Tryz.info88 rfl (aO _ _ _ _ _ _ _) ?_)
      refine bodyPost_ret (v:=.tuple #[.agg #[.int .i64 (V0:Int),.int .i64 (V4:Int),.int .i64 (V2:Int),.int .i64 (V3:Int),.slice av' V5 cv'],.int .i64 (Nn:Int),.int .i64 0]) ?_ rfl ⟨fun _=>⟨av',cv',by rw[hrl],?_,⟨hnv,HNWD.out⟩⟩,fun h=>absurd HOK.out h,?_⟩
      ·exact aE (p:=2) (u:=3) (u2:=4) (by rfl) _ _ w.heap.size _ _ _ (by rfl) (by rfl) (by rfl) rfl (setRow_heap _ _ _ _ _ _ HS5.out.res)
      ·exact RRow.keep' (RRow.below HRV4.out (below_drewN (Below.refl _ _) _)) HAV.out
      ·exact below_setRow HS5.out.bel (Nat.le_refl _) _
     ·have HNO:Hid (¬OK):=HF3.out hE
      have hst:=HSQ.out.1 hE
      clear HF1 HF2' HF3 HF4 HSQ hE
      generalize strN (l.take Nn)=S2 at *
      generalize strN EL=S1 at *
      rw[hIe]
      clear hIe hIk
      have hNe:((Nn:Int) != (Nn:Int))=false:=by simp
      go_wp2_with (go_at_call 51;refine(HEN.out _ _ _ (Tab.below HT.out HS.out.bel) HRV.out).mono ?_;rintro e w4 ⟨v4,rfl,ho4,hb4⟩;obtain⟨a4,q4,rfl,hr4,_⟩:=bQ ho4 HEL.out;have HS4:Hid (DBS w (V0:Int) (V4:Int) (V2:Int) (V3:Int) (.slice av' V5 cv') (RS V5) w4):=DBS.below HS.out hb4;have kc1:∀n,(convert 22 9 (.slice a4 EL.length q4)).run Tryz.prog (w4.drewN n)=.ok (.string S1) (w4.drewN n):=(fun n=>HCW.out _ _ _ (Row.drewN hr4 n));have kc2:∀n,(convert 22 9 (.slice (some ⟨pb,poff,none⟩) Nn cap)).run Tryz.prog (w4.drewN n)=.ok (.string S2) (w4.drewN n):=(fun n=>HCV.out _ (Row.drewN (Row.below HROW.out HS4.out.bel) n));clear c0 c1 c2 c3 c4 cz cf ho4 hb4 hr4 HS HRV;obtain⟨n0,n1,n2,n3,n4,nz⟩:=aW HS4.out.non)
      go_quiet (fail)
      have HS5:Hid (DBS w (V0:Int) (V4:Int) (V2:Int) (V3:Int) (.slice av' V5 cv') (RS V5) (w4.drewN nq)):=DBS.below HS4.out (below_drewN (Below.refl _ _) _)
      go_wp2_with (have _t:=HS5;refine wpList_store_row rfl 88 _ _ rfl w.heap.size #[.int .i64 0,.int .i64 0,.int .i64 0,.int .i64 0,.slice none 0 0] rfl rfl 88 _ HS5.out.res Tryz.info88 rfl (aO _ _ _ _ _ _ _) ?_)
      refine bodyPost_ret (v:=.tuple #[.agg #[.int .i64 0,.int .i64 0,.int .i64 0,.int .i64 0,.slice none 0 0],.int .i64 0,.int .i64 10]) ?_ rfl ⟨fun h=>absurd h HNO.out,fun _=>rfl,?_⟩
      ·exact aE (p:=2) (u:=3) (u2:=4) (by rfl) _ _ w.heap.size _ _ _ (by rfl) (by rfl) (by rfl) rfl (setRow_heap _ _ _ _ _ _ HS5.out.res)
      ·exact below_setRow HS5.out.bel (Nat.le_refl _) _
    ·have HNO:Hid (¬OK):=HF2'.out hIe
     have hNe:(((I V5:Nat):Int) != (Nn:Int))=true:=by rw[bne_iff_ne];omega
     have hNe2:(I V5 != Nn)=true:=by rw[bne_iff_ne];exact hIe
     clear HF1 HF2' HF3 HF4 HSQ hIe HCV HCW kt
     go_wp2_with (go_at_call 51;refine(HEN.out _ _ _ (Tab.below HT.out HS.out.bel) HRV.out).mono ?_;rintro e w4 ⟨v4,rfl,ho4,hb4⟩;obtain⟨a4,q4,rfl,hr4,_⟩:=bQ ho4 HEL.out;have HS4:Hid (DBS w (V0:Int) (V4:Int) (V2:Int) (V3:Int) (.slice av' V5 cv') (RS V5) w4):=DBS.below HS.out hb4;clear c0 c1 c2 c3 c4 cz cf ho4 hb4 hr4 HS HRV;obtain⟨n0,n1,n2,n3,n4,nz⟩:=aW HS4.out.non)
     go_quiet (fail)
     have HS5:Hid (DBS w (V0:Int) (V4:Int) (V2:Int) (V3:Int) (.slice av' V5 cv') (RS V5) (w4.drewN nq)):=DBS.below HS4.out (below_drewN (Below.refl _ _) _)
     go_wp2_with (have _t:=HS5;refine wpList_store_row rfl 88 _ _ rfl w.heap.size #[.int .i64 0,.int .i64 0,.int .i64 0,.int .i64 0,.slice none 0 0] rfl rfl 88 _ HS5.out.res Tryz.info88 rfl (aO _ _ _ _ _ _ _) ?_)
     refine bodyPost_ret (v:=.tuple #[.agg #[.int .i64 0,.int .i64 0,.int .i64 0,.int .i64 0,.slice none 0 0],.int .i64 0,.int .i64 10]) ?_ rfl ⟨fun h=>absurd h HNO.out,fun _=>rfl,?_⟩
     ·exact aE (p:=2) (u:=3) (u2:=4) (by rfl) _ _ w.heap.size _ _ _ (by rfl) (by rfl) (by rfl) rfl (setRow_heap _ _ _ _ _ _ HS5.out.res)
     ·exact below_setRow HS5.out.bel (Nat.le_refl _) _
   ·have HNO:Hid (¬OK):=HF1.out hck
    have hcn:(ck != 0)=true:=by rw[bne_iff_ne];exact hck
    clear HF1 HF2' HF3 HF4 HSQ hck HCV HCW kt
    go_wp2_with (go_at_call 51;refine(HEN.out _ _ _ (Tab.below HT.out HS.out.bel) HRV.out).mono ?_;rintro e w4 ⟨v4,rfl,ho4,hb4⟩;obtain⟨a4,q4,rfl,hr4,_⟩:=bQ ho4 HEL.out;have HS4:Hid (DBS w (V0:Int) (V4:Int) (V2:Int) (V3:Int) (.slice av' V5 cv') (RS V5) w4):=DBS.below HS.out hb4;clear c0 c1 c2 c3 c4 cz cf ho4 hb4 hr4 HS HRV;obtain⟨n0,n1,n2,n3,n4,nz⟩:=aW HS4.out.non)
    go_quiet (fail)
    have HS5:Hid (DBS w (V0:Int) (V4:Int) (V2:Int) (V3:Int) (.slice av' V5 cv') (RS V5) (w4.drewN nq)):=DBS.below HS4.out (below_drewN (Below.refl _ _) _)
    go_wp2_with (have _t:=HS5;refine wpList_store_row rfl 88 _ _ rfl w.heap.size #[.int .i64 0,.int .i64 0,.int .i64 0,.int .i64 0,.slice none 0 0] rfl rfl 88 _ HS5.out.res Tryz.info88 rfl (aO _ _ _ _ _ _ _) ?_)
    refine bodyPost_ret (v:=.tuple #[.agg #[.int .i64 0,.int .i64 0,.int .i64 0,.int .i64 0,.slice none 0 0],.int .i64 0,.int .i64 10]) ?_ rfl ⟨fun h=>absurd h HNO.out,fun _=>rfl,?_⟩
    ·exact aE (p:=2) (u:=3) (u2:=4) (by rfl) _ _ w.heap.size _ _ _ (by rfl) (by rfl) (by rfl) rfl (setRow_heap _ _ _ _ _ _ HS5.out.res)
    ·exact below_setRow HS5.out.bel (Nat.le_refl _) _
end Go.Proofs.YtaooidckmepdeaaGreatDoor
