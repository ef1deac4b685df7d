/- Kn Ko Kr Kt Kf Kg Ku -/
import Derived.Test.YtaooidckmepdeaaGreatDoorSkd
import Derived.Laws.Rows
namespace Go.Proofs.YtaooidckmepdeaaGreatDoor
set_option linter.unusedSimpArgs false
set_option linter.unusedVariables false
set_option maxRecDepth 100000
set_option maxHeartbeats 6400000
open Go.RowKit
theorem nS (w0 w:World) (st:Ls) (h:RdR w0 w st):Calls Tryz.prog 20 #[.pointer (some ⟨w0.heap.size,0,none⟩)] w fun e w'=>e=.returned (.bool (decide (st=some [])))/\w'=w:=by
 obtain⟨a,cap,hx,_⟩:=h.box
 have c0:=(aB hx 0).1
 have c1:=(aB hx 1).1
 simp only[List.getElem?_toArray,List.getElem?_cons_zero,List.getElem?_cons_succ] at c0 c1
 clear hx h
 cases st with
 | none=>
  simp only[Option.isNone_none] at c1
  go_enter Tryz.func20,Tryz.ntmps20
  go_wp2_with fail
  go_ret
  exact⟨rfl,rfl⟩
 | some l=>
  simp only[Option.isNone_some,lft,Option.getD_some] at c0 c1
  cases l with
  | nil=>
   simp only[List.length_nil] at c0
   go_enter Tryz.func20,Tryz.ntmps20
   go_wp2_with fail
   go_ret
   exact⟨rfl,rfl⟩
  | cons x r=>
   have HD:Hid (decide (some (x::r)=some [])=false):=by show _=_;simp
   obtain⟨n,hn,h0⟩:∃n,(x::r).length=n/\n≠0:=⟨_,rfl,by simp⟩
   rw[hn] at c0
   have h0I:((n:Int) == 0)=false:=by simp;omega
   have h0J:¬(n:Int)=0:=by omega
   clear hn h0
   rw[HD.out]
   go_enter Tryz.func20,Tryz.ntmps20
   go_wp2_with fail
   go_ret
   exact⟨rfl,rfl⟩
theorem RdR.off' {w0 w:World} {st:Ls} {x i:Nat} {v:Value} (h:RdR w0 w st) (hx:w0.heap.size < x):RdR w0 (w.setCell ⟨x,i,none⟩ v) st:=by
 obtain⟨a,cap,hb,r⟩:=h.box
 exact⟨⟨a,cap,(heap_setCell_other w ⟨x,i,none⟩ _ v (show w0.heap.size≠x by omega)).trans hb,r⟩,h.bel.setCell (p:=⟨x,i,none⟩) (show w0.heap.size<=x by omega) _⟩
theorem bG {w:World} {x:Nat} {cs:Array Value} {t:TypeId} (h:w.heap[x]? = some (.cells cs t (0,0))) (i:Nat) (v:Value):(w.setCell ⟨x,i,none⟩ v).heap[x]? = some (.cells (cs.setIfInBounds i v) t (0,0)):=by
 rw[aH h]
theorem eR {w:World} {x:Nat} {cs:Array Value} {t:TypeId} {i j:Nat} {u v:Value} (h:w.heap[x]? = some (.cells cs t (0,0))):((w.setCell ⟨x,i,none⟩ u).setCell ⟨x,j,none⟩ v).heap[x]? = some (.cells ((cs.setIfInBounds i u).setIfInBounds j v) t (0,0)):=bG (bG h i u) j v
theorem bJ {B:Nat} {w w':World} {x i:Nat} {v:Value} (h:KeepB B w w') (hx:w.heap.size<=x):KeepB B w (w'.setCell ⟨x,i,none⟩ v):=
 ⟨by simpa [World.setCell] using h.size,fun y hy hl=>(heap_setCell_other w' ⟨x,i,none⟩ y v (show y≠x by omega)).trans (h.blk y hy hl)⟩
theorem jZ {B:Nat} {w w':World} {x i j:Nat} {u v:Value} (h:KeepB B w w') (hx:w.heap.size<=x):KeepB B w ((w'.setCell ⟨x,i,none⟩ u).setCell ⟨x,j,none⟩ v):=bJ (bJ h hx) hx
theorem aG5 (w0 w:World) (st s1 s2 s3 s4:Ls) (k v:ByteArray) (t:Int) (h:RdR w0 w st)
 (HU:Hid (∀x,RdR w0 x st->Calls Tryz.prog 56 #[.pointer (some ⟨w0.heap.size,0,none⟩),.int .i64 1,.int .i64 3] x (RP w0 x (.int .i64 0) s1)))
 (HK:Hid (∀x,RdR w0 x s1->Calls Tryz.prog 57 #[.pointer (some ⟨w0.heap.size,0,none⟩)] x (RP w0 x (.string k) s2)))
 (HV:Hid (∀x,RdR w0 x s1->Calls Tryz.prog 57 #[.pointer (some ⟨w0.heap.size,0,none⟩)] x (RP w0 x (.string v) s3)))
 (HT:Hid (∀x,RdR w0 x s1->Calls Tryz.prog 55 #[.pointer (some ⟨w0.heap.size,0,none⟩)] x (RP w0 x (.int .i64 t) s4))) :
 Calls Tryz.prog 59 #[.pointer (some ⟨w0.heap.size,0,none⟩)] w (RP w0 w (.agg #[.bool false,.string ⟨#[]⟩,.bool false,.string ⟨#[]⟩,.int .i64 t,.int .i64 0]) s4):=by
 have hz:w0.heap.size < w.heap.size:=by obtain⟨a,cap,hx,_⟩:=h.box;exact(Array.getElem?_eq_some_iff.1 hx).1
 have HNE:Hid (w.heap.size≠w0.heap.size):=by show _≠_;omega
 have HR:Hid (RdR w0 (w.alloc (.cells #[.bool false,.string ⟨#[]⟩,.bool false,.string ⟨#[]⟩,.int .i64 0,.int .i64 0] 84)) st):=h.below (aA _)
 have HX0:Hid ((w.alloc (.cells #[.bool false,.string ⟨#[]⟩,.bool false,.string ⟨#[]⟩,.int .i64 0,.int .i64 0] 84)).heap[w.heap.size]? = some (.cells #[.bool false,.string ⟨#[]⟩,.bool false,.string ⟨#[]⟩,.int .i64 0,.int .i64 0] 84 (0,0))):=heap_alloc_new w _
 have HK0:Hid (KeepB w0.heap.size w (w.alloc (.cells #[.bool false,.string ⟨#[]⟩,.bool false,.string ⟨#[]⟩,.int .i64 0,.int .i64 0] 84))):=KeepB.of_below (aA _)
 have b1:bits .and .i64 0 1=0:=by decide
 have b2:bits .and .i64 0 2=0:=by decide
 clear h
 have tok:=trivial
 go_enter Tryz.func59,Tryz.ntmps59
 go_wp2_with (first
  | (go_at_call 56;refine(HU.out _ HR.out).mono ?_;have HY0:=HX0;have HKK0:=HK0;rintro e w1 ⟨rfl,hw1,hk1⟩;have HW1:Hid (RdR w0 w1 s1):=hw1;have HX1:Hid (w1.heap[w.heap.size]? = some (.cells #[.bool false,.string ⟨#[]⟩,.bool false,.string ⟨#[]⟩,.int .i64 0,.int .i64 0] 84 (0,0))):=hk1.box HY0.out HNE.out;have HK1:Hid (KeepB w0.heap.size w w1):=HKK0.out.trans hk1;have g10:=(aB HX1.out 0).1;have g11:=(aB HX1.out 1).1;have g12:=(aB HX1.out 2).1;have g13:=(aB HX1.out 3).1;have g14:=(aB HX1.out 4).1;have g15:=(aB HX1.out 5).1;have fr1:=fun j=>(aB HX1.out j).2;simp only[List.getElem?_toArray,List.getElem?_cons_zero,List.getElem?_cons_succ] at g10 g11 g12 g13 g14 g15;have HY1:Hid (((w1.setCell ⟨w.heap.size,0,none⟩ (.bool false)).setCell ⟨w.heap.size,2,none⟩ (.bool false)).heap[w.heap.size]? = some (.cells #[.bool false,.string ⟨#[]⟩,.bool false,.string ⟨#[]⟩,.int .i64 0,.int .i64 0] 84 (0,0))):=eR HX1.out;have HS1:Hid (RdR w0 ((w1.setCell ⟨w.heap.size,0,none⟩ (.bool false)).setCell ⟨w.heap.size,2,none⟩ (.bool false)) s1):=(hw1.off' hz).off' hz;have HKK1:Hid (KeepB w0.heap.size w ((w1.setCell ⟨w.heap.size,0,none⟩ (.bool false)).setCell ⟨w.heap.size,2,none⟩ (.bool false))):=jZ HK1.out (Nat.le_refl _);clear hw1 hk1 HX0 HR HK0 tok)
  | (go_at_call 55;refine(HT.out _ HS1.out).mono ?_;rintro e w2 ⟨rfl,hw2,hk2⟩;have HW2:Hid (RdR w0 w2 s4):=hw2;have HX2:Hid (w2.heap[w.heap.size]? = some (.cells #[.bool false,.string ⟨#[]⟩,.bool false,.string ⟨#[]⟩,.int .i64 0,.int .i64 0] 84 (0,0))):=hk2.box HY1.out HNE.out;have HK2:Hid (KeepB w0.heap.size w w2):=HKK1.out.trans hk2;have g20:=(aB HX2.out 0).1;have g21:=(aB HX2.out 1).1;have g22:=(aB HX2.out 2).1;have g23:=(aB HX2.out 3).1;have g24:=(aB HX2.out 4).1;have g25:=(aB HX2.out 5).1;have fr2:=fun j=>(aB HX2.out j).2;simp only[List.getElem?_toArray,List.getElem?_cons_zero,List.getElem?_cons_succ] at g20 g21 g22 g23 g24 g25;have HY2:Hid ((w2.setCell ⟨w.heap.size,4,none⟩ (.int .i64 t)).heap[w.heap.size]? = some (.cells #[.bool false,.string ⟨#[]⟩,.bool false,.string ⟨#[]⟩,.int .i64 t,.int .i64 0] 84 (0,0))):=bG HX2.out 4 _;have HS2:Hid (RdR w0 (w2.setCell ⟨w.heap.size,4,none⟩ (.int .i64 t)) s4):=hw2.off' hz;have HKK2:Hid (KeepB w0.heap.size w (w2.setCell ⟨w.heap.size,4,none⟩ (.int .i64 t))):=bJ HK2.out (Nat.le_refl _);have tok9:=trivial;clear hw2 hk2 HS1)
  | (have _t:=tok9;refine wpList_load_row rfl 84 _ rfl w.heap.size rfl 84 #[.bool false,.string ⟨#[]⟩,.bool false,.string ⟨#[]⟩,.int .i64 t,.int .i64 0] (0,0) _ HY2.out Tryz.underlying84 rfl Tryz.info84 ?_;clear _t)
  | (have _t:=tok9;refine wpList_store_row rfl 84 _ _ rfl w.heap.size #[.bool false,.string ⟨#[]⟩,.bool false,.string ⟨#[]⟩,.int .i64 t,.int .i64 0] rfl rfl 84 _ HY2.out Tryz.info84 rfl (by simp[Value.oneCell']) ?_;clear _t tok9))
 refine bodyPost_ret (results_cell_row rfl _ _ w.heap.size 84 #[.bool false,.string ⟨#[]⟩,.bool false,.string ⟨#[]⟩,.int .i64 t,.int .i64 0] (0,0) _ rfl (setRow_heap _ _ _ _ _ _ HY2.out) Tryz.underlying84 rfl Tryz.info84) rfl ?_
 rw[setRow_self _ _ _ _ _ HY2.out]
 exact⟨rfl,HS2.out,HKK2.out⟩
theorem aFq (w0 w:World) (st s1 s2 s3 s4:Ls) (k v:ByteArray) (t:Int) (h:RdR w0 w st)
 (HU:Hid (∀x,RdR w0 x st->Calls Tryz.prog 56 #[.pointer (some ⟨w0.heap.size,0,none⟩),.int .i64 1,.int .i64 3] x (RP w0 x (.int .i64 1) s1)))
 (HK:Hid (∀x,RdR w0 x s1->Calls Tryz.prog 57 #[.pointer (some ⟨w0.heap.size,0,none⟩)] x (RP w0 x (.string k) s2)))
 (HV:Hid (∀x,RdR w0 x s2->Calls Tryz.prog 57 #[.pointer (some ⟨w0.heap.size,0,none⟩)] x (RP w0 x (.string v) s3)))
 (HT:Hid (∀x,RdR w0 x s2->Calls Tryz.prog 55 #[.pointer (some ⟨w0.heap.size,0,none⟩)] x (RP w0 x (.int .i64 t) s4))) :
 Calls Tryz.prog 59 #[.pointer (some ⟨w0.heap.size,0,none⟩)] w (RP w0 w (.agg #[.bool true,.string k,.bool false,.string ⟨#[]⟩,.int .i64 t,.int .i64 0]) s4):=by
 have hz:w0.heap.size < w.heap.size:=by obtain⟨a,cap,hx,_⟩:=h.box;exact(Array.getElem?_eq_some_iff.1 hx).1
 have HNE:Hid (w.heap.size≠w0.heap.size):=by show _≠_;omega
 have HR:Hid (RdR w0 (w.alloc (.cells #[.bool false,.string ⟨#[]⟩,.bool false,.string ⟨#[]⟩,.int .i64 0,.int .i64 0] 84)) st):=h.below (aA _)
 have HX0:Hid ((w.alloc (.cells #[.bool false,.string ⟨#[]⟩,.bool false,.string ⟨#[]⟩,.int .i64 0,.int .i64 0] 84)).heap[w.heap.size]? = some (.cells #[.bool false,.string ⟨#[]⟩,.bool false,.string ⟨#[]⟩,.int .i64 0,.int .i64 0] 84 (0,0))):=heap_alloc_new w _
 have HK0:Hid (KeepB w0.heap.size w (w.alloc (.cells #[.bool false,.string ⟨#[]⟩,.bool false,.string ⟨#[]⟩,.int .i64 0,.int .i64 0] 84))):=KeepB.of_below (aA _)
 have b1:bits .and .i64 1 1=1:=by decide
 have b2:bits .and .i64 1 2=0:=by decide
 clear h
 have tok:=trivial
 go_enter Tryz.func59,Tryz.ntmps59
 go_wp2_with (first
  | (go_at_call 56;refine(HU.out _ HR.out).mono ?_;have HY0:=HX0;have HKK0:=HK0;rintro e w1 ⟨rfl,hw1,hk1⟩;have HW1:Hid (RdR w0 w1 s1):=hw1;have HX1:Hid (w1.heap[w.heap.size]? = some (.cells #[.bool false,.string ⟨#[]⟩,.bool false,.string ⟨#[]⟩,.int .i64 0,.int .i64 0] 84 (0,0))):=hk1.box HY0.out HNE.out;have HK1:Hid (KeepB w0.heap.size w w1):=HKK0.out.trans hk1;have g10:=(aB HX1.out 0).1;have g11:=(aB HX1.out 1).1;have g12:=(aB HX1.out 2).1;have g13:=(aB HX1.out 3).1;have g14:=(aB HX1.out 4).1;have g15:=(aB HX1.out 5).1;have fr1:=fun j=>(aB HX1.out j).2;simp only[List.getElem?_toArray,List.getElem?_cons_zero,List.getElem?_cons_succ] at g10 g11 g12 g13 g14 g15;have HY1:Hid (((w1.setCell ⟨w.heap.size,0,none⟩ (.bool true)).setCell ⟨w.heap.size,2,none⟩ (.bool false)).heap[w.heap.size]? = some (.cells #[.bool true,.string ⟨#[]⟩,.bool false,.string ⟨#[]⟩,.int .i64 0,.int .i64 0] 84 (0,0))):=eR HX1.out;have HS1:Hid (RdR w0 ((w1.setCell ⟨w.heap.size,0,none⟩ (.bool true)).setCell ⟨w.heap.size,2,none⟩ (.bool false)) s1):=(hw1.off' hz).off' hz;have HKK1:Hid (KeepB w0.heap.size w ((w1.setCell ⟨w.heap.size,0,none⟩ (.bool true)).setCell ⟨w.heap.size,2,none⟩ (.bool false))):=jZ HK1.out (Nat.le_refl _);clear hw1 hk1 HX0 HR HK0 tok)
  | (have _t:=HS1;go_at_call 57;refine(HK.out _ HS1.out).mono ?_;rintro e w2 ⟨rfl,hw2,hk2⟩;have HW2:Hid (RdR w0 w2 s2):=hw2;have HX2:Hid (w2.heap[w.heap.size]? = some (.cells #[.bool true,.string ⟨#[]⟩,.bool false,.string ⟨#[]⟩,.int .i64 0,.int .i64 0] 84 (0,0))):=hk2.box HY1.out HNE.out;have HK2:Hid (KeepB w0.heap.size w w2):=HKK1.out.trans hk2;have g20:=(aB HX2.out 0).1;have g21:=(aB HX2.out 1).1;have g22:=(aB HX2.out 2).1;have g23:=(aB HX2.out 3).1;have g24:=(aB HX2.out 4).1;have g25:=(aB HX2.out 5).1;have fr2:=fun j=>(aB HX2.out j).2;simp only[List.getElem?_toArray,List.getElem?_cons_zero,List.getElem?_cons_succ] at g20 g21 g22 g23 g24 g25;have HY2:Hid ((w2.setCell ⟨w.heap.size,1,none⟩ (.string k)).heap[w.heap.size]? = some (.cells #[.bool true,.string k,.bool false,.string ⟨#[]⟩,.int .i64 0,.int .i64 0] 84 (0,0))):=bG HX2.out 1 _;have HS2:Hid (RdR w0 (w2.setCell ⟨w.heap.size,1,none⟩ (.string k)) s2):=hw2.off' hz;have HKK2:Hid (KeepB w0.heap.size w (w2.setCell ⟨w.heap.size,1,none⟩ (.string k))):=bJ HK2.out (Nat.le_refl _);clear hw2 hk2 HS1 _t)
  | (go_at_call 55;refine(HT.out _ HS2.out).mono ?_;rintro e w3 ⟨rfl,hw3,hk3⟩;have HW3:Hid (RdR w0 w3 s4):=hw3;have HX3:Hid (w3.heap[w.heap.size]? = some (.cells #[.bool true,.string k,.bool false,.string ⟨#[]⟩,.int .i64 0,.int .i64 0] 84 (0,0))):=hk3.box HY2.out HNE.out;have HK3:Hid (KeepB w0.heap.size w w3):=HKK2.out.trans hk3;have g30:=(aB HX3.out 0).1;have g31:=(aB HX3.out 1).1;have g32:=(aB HX3.out 2).1;have g33:=(aB HX3.out 3).1;have g34:=(aB HX3.out 4).1;have g35:=(aB HX3.out 5).1;have fr3:=fun j=>(aB HX3.out j).2;simp only[List.getElem?_toArray,List.getElem?_cons_zero,List.getElem?_cons_succ] at g30 g31 g32 g33 g34 g35;have HY3:Hid ((w3.setCell ⟨w.heap.size,4,none⟩ (.int .i64 t)).heap[w.heap.size]? = some (.cells #[.bool true,.string k,.bool false,.string ⟨#[]⟩,.int .i64 t,.int .i64 0] 84 (0,0))):=bG HX3.out 4 _;have HS3:Hid (RdR w0 (w3.setCell ⟨w.heap.size,4,none⟩ (.int .i64 t)) s4):=hw3.off' hz;have HKK3:Hid (KeepB w0.heap.size w (w3.setCell ⟨w.heap.size,4,none⟩ (.int .i64 t))):=bJ HK3.out (Nat.le_refl _);have tok9:=trivial;clear hw3 hk3 HS2)
  | (have _t:=tok9;refine wpList_load_row rfl 84 _ rfl w.heap.size rfl 84 #[.bool true,.string k,.bool false,.string ⟨#[]⟩,.int .i64 t,.int .i64 0] (0,0) _ HY3.out Tryz.underlying84 rfl Tryz.info84 ?_;clear _t)
  | (have _t:=tok9;refine wpList_store_row rfl 84 _ _ rfl w.heap.size #[.bool true,.string k,.bool false,.string ⟨#[]⟩,.int .i64 t,.int .i64 0] rfl rfl 84 _ HY3.out Tryz.info84 rfl (by simp[Value.oneCell']) ?_;clear _t tok9))
 refine bodyPost_ret (results_cell_row rfl _ _ w.heap.size 84 #[.bool true,.string k,.bool false,.string ⟨#[]⟩,.int .i64 t,.int .i64 0] (0,0) _ rfl (setRow_heap _ _ _ _ _ _ HY3.out) Tryz.underlying84 rfl Tryz.info84) rfl ?_
 rw[setRow_self _ _ _ _ _ HY3.out]
 exact⟨rfl,HS3.out,HKK3.out⟩
theorem aGy (w0 w:World) (st s1 s2 s3 s4:Ls) (k v:ByteArray) (t:Int) (h:RdR w0 w st)
 (HU:Hid (∀x,RdR w0 x st->Calls Tryz.prog 56 #[.pointer (some ⟨w0.heap.size,0,none⟩),.int .i64 1,.int .i64 3] x (RP w0 x (.int .i64 2) s1)))
 (HK:Hid (∀x,RdR w0 x s1->Calls Tryz.prog 57 #[.pointer (some ⟨w0.heap.size,0,none⟩)] x (RP w0 x (.string k) s2)))
 (HV:Hid (∀x,RdR w0 x s1->Calls Tryz.prog 57 #[.pointer (some ⟨w0.heap.size,0,none⟩)] x (RP w0 x (.string v) s3)))
 (HT:Hid (∀x,RdR w0 x s3->Calls Tryz.prog 55 #[.pointer (some ⟨w0.heap.size,0,none⟩)] x (RP w0 x (.int .i64 t) s4))) :
 Calls Tryz.prog 59 #[.pointer (some ⟨w0.heap.size,0,none⟩)] w (RP w0 w (.agg #[.bool false,.string ⟨#[]⟩,.bool true,.string v,.int .i64 t,.int .i64 0]) s4):=by
 have hz:w0.heap.size < w.heap.size:=by obtain⟨a,cap,hx,_⟩:=h.box;exact(Array.getElem?_eq_some_iff.1 hx).1
 have HNE:Hid (w.heap.size≠w0.heap.size):=by show _≠_;omega
 have HR:Hid (RdR w0 (w.alloc (.cells #[.bool false,.string ⟨#[]⟩,.bool false,.string ⟨#[]⟩,.int .i64 0,.int .i64 0] 84)) st):=h.below (aA _)
 have HX0:Hid ((w.alloc (.cells #[.bool false,.string ⟨#[]⟩,.bool false,.string ⟨#[]⟩,.int .i64 0,.int .i64 0] 84)).heap[w.heap.size]? = some (.cells #[.bool false,.string ⟨#[]⟩,.bool false,.string ⟨#[]⟩,.int .i64 0,.int .i64 0] 84 (0,0))):=heap_alloc_new w _
 have HK0:Hid (KeepB w0.heap.size w (w.alloc (.cells #[.bool false,.string ⟨#[]⟩,.bool false,.string ⟨#[]⟩,.int .i64 0,.int .i64 0] 84))):=KeepB.of_below (aA _)
 have b1:bits .and .i64 2 1=0:=by decide
 have b2:bits .and .i64 2 2=2:=by decide
 clear h
 have tok:=trivial
 go_enter Tryz.func59,Tryz.ntmps59
 go_wp2_with (first
  | (go_at_call 56;refine(HU.out _ HR.out).mono ?_;have HY0:=HX0;have HKK0:=HK0;rintro e w1 ⟨rfl,hw1,hk1⟩;have HW1:Hid (RdR w0 w1 s1):=hw1;have HX1:Hid (w1.heap[w.heap.size]? = some (.cells #[.bool false,.string ⟨#[]⟩,.bool false,.string ⟨#[]⟩,.int .i64 0,.int .i64 0] 84 (0,0))):=hk1.box HY0.out HNE.out;have HK1:Hid (KeepB w0.heap.size w w1):=HKK0.out.trans hk1;have g10:=(aB HX1.out 0).1;have g11:=(aB HX1.out 1).1;have g12:=(aB HX1.out 2).1;have g13:=(aB HX1.out 3).1;have g14:=(aB HX1.out 4).1;have g15:=(aB HX1.out 5).1;have fr1:=fun j=>(aB HX1.out j).2;simp only[List.getElem?_toArray,List.getElem?_cons_zero,List.getElem?_cons_succ] at g10 g11 g12 g13 g14 g15;have HY1:Hid (((w1.setCell ⟨w.heap.size,0,none⟩ (.bool false)).setCell ⟨w.heap.size,2,none⟩ (.bool true)).heap[w.heap.size]? = some (.cells #[.bool false,.string ⟨#[]⟩,.bool true,.string ⟨#[]⟩,.int .i64 0,.int .i64 0] 84 (0,0))):=eR HX1.out;have HS1:Hid (RdR w0 ((w1.setCell ⟨w.heap.size,0,none⟩ (.bool false)).setCell ⟨w.heap.size,2,none⟩ (.bool true)) s1):=(hw1.off' hz).off' hz;have HKK1:Hid (KeepB w0.heap.size w ((w1.setCell ⟨w.heap.size,0,none⟩ (.bool false)).setCell ⟨w.heap.size,2,none⟩ (.bool true))):=jZ HK1.out (Nat.le_refl _);clear hw1 hk1 HX0 HR HK0 tok)
  | (have _t:=HS1;go_at_call 57;refine(HV.out _ HS1.out).mono ?_;rintro e w2 ⟨rfl,hw2,hk2⟩;have HW2:Hid (RdR w0 w2 s3):=hw2;have HX2:Hid (w2.heap[w.heap.size]? = some (.cells #[.bool false,.string ⟨#[]⟩,.bool true,.string ⟨#[]⟩,.int .i64 0,.int .i64 0] 84 (0,0))):=hk2.box HY1.out HNE.out;have HK2:Hid (KeepB w0.heap.size w w2):=HKK1.out.trans hk2;have g20:=(aB HX2.out 0).1;have g21:=(aB HX2.out 1).1;have g22:=(aB HX2.out 2).1;have g23:=(aB HX2.out 3).1;have g24:=(aB HX2.out 4).1;have g25:=(aB HX2.out 5).1;have fr2:=fun j=>(aB HX2.out j).2;simp only[List.getElem?_toArray,List.getElem?_cons_zero,List.getElem?_cons_succ] at g20 g21 g22 g23 g24 g25;have HY2:Hid ((w2.setCell ⟨w.heap.size,3,none⟩ (.string v)).heap[w.heap.size]? = some (.cells #[.bool false,.string ⟨#[]⟩,.bool true,.string v,.int .i64 0,.int .i64 0] 84 (0,0))):=bG HX2.out 3 _;have HS2:Hid (RdR w0 (w2.setCell ⟨w.heap.size,3,none⟩ (.string v)) s3):=hw2.off' hz;have HKK2:Hid (KeepB w0.heap.size w (w2.setCell ⟨w.heap.size,3,none⟩ (.string v))):=bJ HK2.out (Nat.le_refl _);clear hw2 hk2 HS1 _t)
  | (go_at_call 55;refine(HT.out _ HS2.out).mono ?_;rintro e w3 ⟨rfl,hw3,hk3⟩;have HW3:Hid (RdR w0 w3 s4):=hw3;have HX3:Hid (w3.heap[w.heap.size]? = some (.cells #[.bool false,.string ⟨#[]⟩,.bool true,.string v,.int .i64 0,.int .i64 0] 84 (0,0))):=hk3.box HY2.out HNE.out;have HK3:Hid (KeepB w0.heap.size w w3):=HKK2.out.trans hk3;have g30:=(aB HX3.out 0).1;have g31:=(aB HX3.out 1).1;have g32:=(aB HX3.out 2).1;have g33:=(aB HX3.out 3).1;have g34:=(aB HX3.out 4).1;have g35:=(aB HX3.out 5).1;have fr3:=fun j=>(aB HX3.out j).2;simp only[List.getElem?_toArray,List.getElem?_cons_zero,List.getElem?_cons_succ] at g30 g31 g32 g33 g34 g35;have HY3:Hid ((w3.setCell ⟨w.heap.size,4,none⟩ (.int .i64 t)).heap[w.heap.size]? = some (.cells #[.bool false,.string ⟨#[]⟩,.bool true,.string v,.int .i64 t,.int .i64 0] 84 (0,0))):=bG HX3.out 4 _;have HS3:Hid (RdR w0 (w3.setCell ⟨w.heap.size,4,none⟩ (.int .i64 t)) s4):=hw3.off' hz;have HKK3:Hid (KeepB w0.heap.size w (w3.setCell ⟨w.heap.size,4,none⟩ (.int .i64 t))):=bJ HK3.out (Nat.le_refl _);have tok9:=trivial;clear hw3 hk3 HS2)
  | (have _t:=tok9;refine wpList_load_row rfl 84 _ rfl w.heap.size rfl 84 #[.bool false,.string ⟨#[]⟩,.bool true,.string v,.int .i64 t,.int .i64 0] (0,0) _ HY3.out Tryz.underlying84 rfl Tryz.info84 ?_;clear _t)
  | (have _t:=tok9;refine wpList_store_row rfl 84 _ _ rfl w.heap.size #[.bool false,.string ⟨#[]⟩,.bool true,.string v,.int .i64 t,.int .i64 0] rfl rfl 84 _ HY3.out Tryz.info84 rfl (by simp[Value.oneCell']) ?_;clear _t tok9))
 refine bodyPost_ret (results_cell_row rfl _ _ w.heap.size 84 #[.bool false,.string ⟨#[]⟩,.bool true,.string v,.int .i64 t,.int .i64 0] (0,0) _ rfl (setRow_heap _ _ _ _ _ _ HY3.out) Tryz.underlying84 rfl Tryz.info84) rfl ?_
 rw[setRow_self _ _ _ _ _ HY3.out]
 exact⟨rfl,HS3.out,HKK3.out⟩
theorem aFz (w0 w:World) (st s1 s2 s3 s4:Ls) (k v:ByteArray) (t:Int) (h:RdR w0 w st)
 (HU:Hid (∀x,RdR w0 x st->Calls Tryz.prog 56 #[.pointer (some ⟨w0.heap.size,0,none⟩),.int .i64 1,.int .i64 3] x (RP w0 x (.int .i64 3) s1)))
 (HK:Hid (∀x,RdR w0 x s1->Calls Tryz.prog 57 #[.pointer (some ⟨w0.heap.size,0,none⟩)] x (RP w0 x (.string k) s2)))
 (HV:Hid (∀x,RdR w0 x s2->Calls Tryz.prog 57 #[.pointer (some ⟨w0.heap.size,0,none⟩)] x (RP w0 x (.string v) s3)))
 (HT:Hid (∀x,RdR w0 x s3->Calls Tryz.prog 55 #[.pointer (some ⟨w0.heap.size,0,none⟩)] x (RP w0 x (.int .i64 t) s4))) :
 Calls Tryz.prog 59 #[.pointer (some ⟨w0.heap.size,0,none⟩)] w (RP w0 w (.agg #[.bool true,.string k,.bool true,.string v,.int .i64 t,.int .i64 0]) s4):=by
 have hz:w0.heap.size < w.heap.size:=by obtain⟨a,cap,hx,_⟩:=h.box;exact(Array.getElem?_eq_some_iff.1 hx).1
 have HNE:Hid (w.heap.size≠w0.heap.size):=by show _≠_;omega
 have HR:Hid (RdR w0 (w.alloc (.cells #[.bool false,.string ⟨#[]⟩,.bool false,.string ⟨#[]⟩,.int .i64 0,.int .i64 0] 84)) st):=h.below (aA _)
 have HX0:Hid ((w.alloc (.cells #[.bool false,.string ⟨#[]⟩,.bool false,.string ⟨#[]⟩,.int .i64 0,.int .i64 0] 84)).heap[w.heap.size]? = some (.cells #[.bool false,.string ⟨#[]⟩,.bool false,.string ⟨#[]⟩,.int .i64 0,.int .i64 0] 84 (0,0))):=heap_alloc_new w _
 have HK0:Hid (KeepB w0.heap.size w (w.alloc (.cells #[.bool false,.string ⟨#[]⟩,.bool false,.string ⟨#[]⟩,.int .i64 0,.int .i64 0] 84))):=KeepB.of_below (aA _)
 have b1:bits .and .i64 3 1=1:=by decide
 have b2:bits .and .i64 3 2=2:=by decide
 clear h
 have tok:=trivial
 go_enter Tryz.func59,Tryz.ntmps59
 go_wp2_with (first
  | (go_at_call 56;refine(HU.out _ HR.out).mono ?_;have HY0:=HX0;have HKK0:=HK0;rintro e w1 ⟨rfl,hw1,hk1⟩;have HW1:Hid (RdR w0 w1 s1):=hw1;have HX1:Hid (w1.heap[w.heap.size]? = some (.cells #[.bool false,.string ⟨#[]⟩,.bool false,.string ⟨#[]⟩,.int .i64 0,.int .i64 0] 84 (0,0))):=hk1.box HY0.out HNE.out;have HK1:Hid (KeepB w0.heap.size w w1):=HKK0.out.trans hk1;have g10:=(aB HX1.out 0).1;have g11:=(aB HX1.out 1).1;have g12:=(aB HX1.out 2).1;have g13:=(aB HX1.out 3).1;have g14:=(aB HX1.out 4).1;have g15:=(aB HX1.out 5).1;have fr1:=fun j=>(aB HX1.out j).2;simp only[List.getElem?_toArray,List.getElem?_cons_zero,List.getElem?_cons_succ] at g10 g11 g12 g13 g14 g15;have HY1:Hid (((w1.setCell ⟨w.heap.size,0,none⟩ (.bool true)).setCell ⟨w.heap.size,2,none⟩ (.bool true)).heap[w.heap.size]? = some (.cells #[.bool true,.string ⟨#[]⟩,.bool true,.string ⟨#[]⟩,.int .i64 0,.int .i64 0] 84 (0,0))):=eR HX1.out;have HS1:Hid (RdR w0 ((w1.setCell ⟨w.heap.size,0,none⟩ (.bool true)).setCell ⟨w.heap.size,2,none⟩ (.bool true)) s1):=(hw1.off' hz).off' hz;have HKK1:Hid (KeepB w0.heap.size w ((w1.setCell ⟨w.heap.size,0,none⟩ (.bool true)).setCell ⟨w.heap.size,2,none⟩ (.bool true))):=jZ HK1.out (Nat.le_refl _);clear hw1 hk1 HX0 HR HK0 tok)
  | (have _t:=HS1;go_at_call 57;refine(HK.out _ HS1.out).mono ?_;rintro e w2 ⟨rfl,hw2,hk2⟩;have HW2:Hid (RdR w0 w2 s2):=hw2;have HX2:Hid (w2.heap[w.heap.size]? = some (.cells #[.bool true,.string ⟨#[]⟩,.bool true,.string ⟨#[]⟩,.int .i64 0,.int .i64 0] 84 (0,0))):=hk2.box HY1.out HNE.out;have HK2:Hid (KeepB w0.heap.size w w2):=HKK1.out.trans hk2;have g20:=(aB HX2.out 0).1;have g21:=(aB HX2.out 1).1;have g22:=(aB HX2.out 2).1;have g23:=(aB HX2.out 3).1;have g24:=(aB HX2.out 4).1;have g25:=(aB HX2.out 5).1;have fr2:=fun j=>(aB HX2.out j).2;simp only[List.getElem?_toArray,List.getElem?_cons_zero,List.getElem?_cons_succ] at g20 g21 g22 g23 g24 g25;have HY2:Hid ((w2.setCell ⟨w.heap.size,1,none⟩ (.string k)).heap[w.heap.size]? = some (.cells #[.bool true,.string k,.bool true,.string ⟨#[]⟩,.int .i64 0,.int .i64 0] 84 (0,0))):=bG HX2.out 1 _;have HS2:Hid (RdR w0 (w2.setCell ⟨w.heap.size,1,none⟩ (.string k)) s2):=hw2.off' hz;have HKK2:Hid (KeepB w0.heap.size w (w2.setCell ⟨w.heap.size,1,none⟩ (.string k))):=bJ HK2.out (Nat.le_refl _);clear hw2 hk2 HS1 _t)
  | (have _t:=HS2;go_at_call 57;refine(HV.out _ HS2.out).mono ?_;rintro e w3 ⟨rfl,hw3,hk3⟩;have HW3:Hid (RdR w0 w3 s3):=hw3;have HX3:Hid (w3.heap[w.heap.size]? = some (.cells #[.bool true,.string k,.bool true,.string ⟨#[]⟩,.int .i64 0,.int .i64 0] 84 (0,0))):=hk3.box HY2.out HNE.out;have HK3:Hid (KeepB w0.heap.size w w3):=HKK2.out.trans hk3;have g30:=(aB HX3.out 0).1;have g31:=(aB HX3.out 1).1;have g32:=(aB HX3.out 2).1;have g33:=(aB HX3.out 3).1;have g34:=(aB HX3.out 4).1;have g35:=(aB HX3.out 5).1;have fr3:=fun j=>(aB HX3.out j).2;simp only[List.getElem?_toArray,List.getElem?_cons_zero,List.getElem?_cons_succ] at g30 g31 g32 g33 g34 g35;have HY3:Hid ((w3.setCell ⟨w.heap.size,3,none⟩ (.string v)).heap[w.heap.size]? = some (.cells #[.bool true,.string k,.bool true,.string v,.int .i64 0,.int .i64 0] 84 (0,0))):=bG HX3.out 3 _;have HS3:Hid (RdR w0 (w3.setCell ⟨w.heap.size,3,none⟩ (.string v)) s3):=hw3.off' hz;have HKK3:Hid (KeepB w0.heap.size w (w3.setCell ⟨w.heap.size,3,none⟩ (.string v))):=bJ HK3.out (Nat.le_refl _);clear hw3 hk3 HS2 _t)
  | (go_at_call 55;refine(HT.out _ HS3.out).mono ?_;rintro e w4 ⟨rfl,hw4,hk4⟩;have HW4:Hid (RdR w0 w4 s4):=hw4;have HX4:Hid (w4.heap[w.heap.size]? = some (.cells #[.bool true,.string k,.bool true,.string v,.int .i64 0,.int .i64 0] 84 (0,0))):=hk4.box HY3.out HNE.out;have HK4:Hid (KeepB w0.heap.size w w4):=HKK3.out.trans hk4;have g40:=(aB HX4.out 0).1;have g41:=(aB HX4.out 1).1;have g42:=(aB HX4.out 2).1;have g43:=(aB HX4.out 3).1;have g44:=(aB HX4.out 4).1;have g45:=(aB HX4.out 5).1;have fr4:=fun j=>(aB HX4.out j).2;simp only[List.getElem?_toArray,List.getElem?_cons_zero,List.getElem?_cons_succ] at g40 g41 g42 g43 g44 g45;have HY4:Hid ((w4.setCell ⟨w.heap.size,4,none⟩ (.int .i64 t)).heap[w.heap.size]? = some (.cells #[.bool true,.string k,.bool true,.string v,.int .i64 t,.int .i64 0] 84 (0,0))):=bG HX4.out 4 _;have HS4:Hid (RdR w0 (w4.setCell ⟨w.heap.size,4,none⟩ (.int .i64 t)) s4):=hw4.off' hz;have HKK4:Hid (KeepB w0.heap.size w (w4.setCell ⟨w.heap.size,4,none⟩ (.int .i64 t))):=bJ HK4.out (Nat.le_refl _);have tok9:=trivial;clear hw4 hk4 HS3)
  | (have _t:=tok9;refine wpList_load_row rfl 84 _ rfl w.heap.size rfl 84 #[.bool true,.string k,.bool true,.string v,.int .i64 t,.int .i64 0] (0,0) _ HY4.out Tryz.underlying84 rfl Tryz.info84 ?_;clear _t)
  | (have _t:=tok9;refine wpList_store_row rfl 84 _ _ rfl w.heap.size #[.bool true,.string k,.bool true,.string v,.int .i64 t,.int .i64 0] rfl rfl 84 _ HY4.out Tryz.info84 rfl (by simp[Value.oneCell']) ?_;clear _t tok9))
 refine bodyPost_ret (results_cell_row rfl _ _ w.heap.size 84 #[.bool true,.string k,.bool true,.string v,.int .i64 t,.int .i64 0] (0,0) _ rfl (setRow_heap _ _ _ _ _ _ HY4.out) Tryz.underlying84 rfl Tryz.info84) rfl ?_
 rw[setRow_self _ _ _ _ _ HY4.out]
 exact⟨rfl,HS4.out,HKK4.out⟩
theorem aGr (n most:Nat) (st:Ls):(gUp n most st).1<=most:=by
 unfold gUp
 split
 ·exact Nat.zero_le _
 ·omega
theorem yL (w0 w:World) (st:Ls) (h:RdR w0 w st):Calls Tryz.prog 59 #[.pointer (some ⟨w0.heap.size,0,none⟩)] w (RP w0 w (.agg (gRec st).1.cells) (gRec st).2):=by
 have hm:=aGr 1 3 st
 have HU:∀x,RdR w0 x st->Calls Tryz.prog 56 #[.pointer (some ⟨w0.heap.size,0,none⟩),.int .i64 1,.int .i64 3] x (RP w0 x (.int .i64 ((gUp 1 3 st).1:Nat)) (gUp 1 3 st).2):=fun x hx=>uA w0 x st 3 1 3 rfl rfl (by decide) hx
 have HT:∀s x,RdR w0 x s->Calls Tryz.prog 57 #[.pointer (some ⟨w0.heap.size,0,none⟩)] x (RP w0 x (.string (gT s).1) (gT s).2):=fun s x hx=>kT w0 x s hx
 have HI:∀s x,RdR w0 x s->Calls Tryz.prog 55 #[.pointer (some ⟨w0.heap.size,0,none⟩)] x (RP w0 x (.int .i64 (gI s).1) (gI s).2):=fun s x hx=>mC w0 x s hx
 unfold gRec
 simp only[Rc.cells]
 generalize (gUp 1 3 st).1=m at *
 generalize (gUp 1 3 st).2=s1 at *
 have hc:m=0∨m=1∨m=2∨m=3:=by omega
 rcases hc with rfl | rfl | rfl | rfl
 ·exact aG5 w0 w st s1 _ _ _ _ _ _ h HU (HT s1) (HT s1) (HI s1)
 ·exact aFq w0 w st s1 _ _ _ _ _ _ h HU (HT s1) (HT _) (HI _)
 ·exact aGy w0 w st s1 _ _ _ _ _ _ h HU (HT s1) (HT s1) (HI _)
 ·exact aFz w0 w st s1 _ _ _ _ _ _ h HU (HT s1) (HT _) (HI _)
theorem pD {w:World} {a:Option Addr} {rs:List Rc} {B:Nat} {cs:Array Value} {t:TypeId} {fr:Nat × Nat} (h:RRow w a rs) (hb:w.heap[B]? = some (.cells cs t fr)) (hs:cs.size < 6):∀i,i < rs.length->∀b off,a=some ⟨b,off,none⟩->b≠B:=by
 intro i hi b off e
 rintro rfl
 obtain⟨b',off',e',_,_,_,_,_,h5⟩:=h i hi
 rw[e] at e'
 simp only[Option.some.injEq,Addr.mk.injEq,and_true] at e'
 obtain⟨rfl,rfl⟩:=e'
 have:w.cell? ⟨b,off+i * 6+5,none⟩=cs[off+i * 6+5]?:=cell_of_row _ b _ cs t fr hb
 rw[this,Array.getElem?_eq_none (by omega)] at h5
 cases h5
theorem bV {w w':World} {a:Option Addr} {rs:List Rc} (h:RRow w a rs) (hk:∀i,i < rs.length->∀b off,a=some ⟨b,off,none⟩->w'.heap[b]? = w.heap[b]?):RRow w' a rs:=by
 intro i hi
 obtain⟨b,off,e,h0,h1,h2,h3,h4,h5⟩:=h i hi
 have hb:=hk i hi b off e
 have c:∀j,w'.cell? ⟨b,j,none⟩=w.cell? ⟨b,j,none⟩:=fun j=>World.cell?_of_block (a:=⟨b,j,none⟩) hb
 exact⟨b,off,e,(c _).trans h0,(c _).trans h1,(c _).trans h2,(c _).trans h3,(c _).trans h4,(c _).trans h5⟩
theorem RRow.lt {w:World} {a:Option Addr} {rs:List Rc} (h:RRow w a rs) {i:Nat} (hi:i < rs.length) {b off:Nat} (e:a=some ⟨b,off,none⟩):b < w.heap.size:=by
 obtain⟨b',off',e',h0,_⟩:=h i hi
 rw[e] at e'
 simp only[Option.some.injEq,Addr.mk.injEq,and_true] at e'
 obtain⟨rfl,rfl⟩:=e'
 exact World.block_lt_of_cell? _ _ h0
theorem RdR.blk {w0 w:World} {st:Ls} (h:RdR w0 w st):∃cs,w.heap[w0.heap.size]? = some (.cells cs 54 (0,0))/\cs.size < 6:=by
 obtain⟨a,cap,hx,_⟩:=h.box
 exact⟨_,hx,by simp⟩
theorem RRow.keepB {w0 w w':World} {st:Ls} {a:Option Addr} {rs:List Rc} (h:RRow w a rs) (hr:RdR w0 w st) (k:KeepB w0.heap.size w w'):RRow w' a rs:=by
 obtain⟨cs,hx,hs⟩:=hr.blk
 exact bV h (fun i hi b off e=>k.blk b (pD h hx hs i hi b off e) (h.lt hi e))
theorem RdR.offRow {w0 w:World} {st:Ls} {x:Nat} {cs:Array Value} (h:RdR w0 w st) (hx:w0.heap.size < x):RdR w0 (w.setRow x cs) st:=by
 obtain⟨a,cap,hb,r⟩:=h.box
 exact⟨⟨a,cap,(setRow_other w x _ cs (by omega)).trans hb,r⟩,below_setRow h.bel (by omega) cs⟩
theorem KeepB.offRow {B:Nat} {w w':World} {x:Nat} {cs:Array Value} (h:KeepB B w w') (hx:w.heap.size<=x):KeepB B w (w'.setRow x cs):=
 ⟨by simpa using h.size,fun y hy hl=>(setRow_other w' x y cs (by omega)).trans (h.blk y hy hl)⟩
def BatP (w0 w:World) (b:Ba) (st:Ls) (e:Ending) (w':World):Prop:=∃a c,e=.returned (bav b a c)/\RRow w' a b.rs/\(a=none->c=0)/\(∀g,a=some g->w.heap.size<=g.block)/\RdR w0 w' st/\KeepB w0.heap.size w w'
def bzc:Array Value:=#[.int .i64 0,.int .i64 0,.int .i64 0,.int .i64 0,.slice none 0 0]
theorem zY (w0 w:World) (st:Ls) (ht:Tab w0) (h:RdR w0 w st):Calls Tryz.prog 63 #[.pointer (some ⟨w0.heap.size,0,none⟩)] w (BatP w0 w (gBat st).1 (gBat st).2):=by
 obtain⟨a,cap,hx,hr,hl,hc,hn,hbig⟩:=h.box
 have hz:w0.heap.size < w.heap.size:=(Array.getElem?_eq_some_iff.1 hx).1
 have hb0:Below w.heap.size w (w.alloc (.cells bzc 88)):=aA _
 have h0:RdR w0 (w.alloc (.cells bzc 88)) st:=h.below hb0
 have hx0:(w.alloc (.cells bzc 88)).heap[w.heap.size]? = some (.cells bzc 88 (0,0)):=heap_alloc_new w _
 have hB0:(w.alloc (.cells bzc 88)).heap[w0.heap.size]? = some (.cells #[.slice a (lft st).length cap,.bool st.isNone] 54 (0,0)):=(hb0.block _ hz).trans hx
 have HD:Hid _:=sF a cap (lft st) (w.alloc (.cells bzc 88)) (ht.below h0.bel) (hr.below h0.bel) hl hc hbig
 have HFail:Hid (∀x,RdR w0 x st->Calls Tryz.prog 53 #[.pointer (some ⟨w0.heap.size,0,none⟩)] x (RP w0 x (.tuple #[]) none)):=fun x hx=>iW w0 x st hx
 have c0:=(aB hB0 0).1
 have c1:=(aB hB0 1).1
 have f0:=(aB hB0 0).2
 simp only[List.getElem?_toArray,List.getElem?_cons_zero,List.getElem?_cons_succ] at c0 c1
 have HX0:Hid ((w.alloc (.cells bzc 88)).heap[w.heap.size]? = some (.cells bzc 88 (0,0))):=hx0
 have HB0:Hid ((w.alloc (.cells bzc 88)).heap[w0.heap.size]? = some (.cells #[.slice a (lft st).length cap,.bool st.isNone] 54 (0,0))):=hB0
 have HH:Hid (RdR w0 (w.alloc (.cells bzc 88)) st):=h0
 have HR:Hid (Row w0 a (lft st)):=hr
 have HY:Hid (Byt (lft st)):=h.byt
 clear hx hr h h0 hx0 hB0 hb0
 unfold bzc at *
 by_cases hok:OkB (lft st)
 ·obtain⟨l,rfl⟩:∃l,st=some l:=by
   cases st with
   | none=>exact absurd hok.l48 (by simp[lft])
   | some l=>exact⟨l,rfl⟩
  simp only[lft,Option.getD_some,Option.isNone_some] at *
  have e1:gBat (some l)=(bOf l,some (l.drop (lenN l))):=by unfold gBat;simp only;rw[if_pos ((kK HY.out).2 hok)]
  rw[e1]
  have hN:lenN l<=l.length:=hok.nl
  have HO:Hid (OkB l):=hok
  have ks:=fun y=>pE y a l.length cap (lenN l) (lenN l) rfl hN
  have HNN:Hid (lenN l<=l.length):=hN
  have hNI:((lenN l:Nat):Int)<=6000:=by have:=hok.nm;omega
  clear hok e1 HFail hN
  obtain⟨b,HBb⟩:∃b,Hid (bOf l=b):=⟨_,rfl⟩
  rw[HBb.out] at HD ⊢
  obtain⟨n,HN⟩:∃n,Hid (lenN l=n):=⟨_,rfl⟩
  rw[HN.out] at HD ks hNI ⊢
  obtain⟨n5,HN5⟩:∃n5,Hid (b.rs.length=n5):=⟨_,rfl⟩
  simp only[bav] at HD
  rw[HN5.out] at HD
  obtain⟨v0,v1,v2,v3,HV⟩:∃v0 v1 v2 v3,Hid (b.base=v0/\b.span=v1/\b.prod=v2/\b.seq=v3):=⟨_,_,_,_,rfl,rfl,rfl,rfl⟩
  rw[HV.out.1,HV.out.2.1,HV.out.2.2.1,HV.out.2.2.2] at HD
  have HZ:Hid (w0.heap.size < w.heap.size):=hz
  go_enter Tryz.func63,Tryz.ntmps63
  go_wp2_with (first
   | (go_at_call 84;refine Calls.mono HD.out ?_;rintro e w1 ⟨hyes,_,hb1⟩;obtain⟨a',c',rfl,hrr,hn',hnew⟩:=hyes HO.out;clear hyes;have HRR:Hid (RRow w1 a' b.rs):=hrr;have HB1:Hid (w1.heap[w0.heap.size]? = some (.cells #[.slice a l.length cap,.bool false] 54 (0,0))):=(hb1.block _ (Array.getElem?_eq_some_iff.1 HB0.out).1).trans HB0.out;have HX1:Hid (w1.heap[w.heap.size]? = some (.cells #[.int .i64 0,.int .i64 0,.int .i64 0,.int .i64 0,.slice none 0 0] 88 (0,0))):=(hb1.block _ (Array.getElem?_eq_some_iff.1 HX0.out).1).trans HX0.out;have HK1:Hid (KeepB w0.heap.size w w1):=(KeepB.of_below (aA _)).trans (KeepB.of_below hb1);have HCC:Hid _:=RdR.cut (n:=n) (b:=false) (HH.out.bel.trans (hb1.mono HH.out.bel.size)) HB1.out HR.out hl hc hn (by rw[<-HN.out];exact HNN.out) hbig;have d0:=(aB HB1.out 0).1;have d1:=(aB HB1.out 1).1;have g0:=(aB HB1.out 0).2;simp only[List.getElem?_toArray,List.getElem?_cons_zero,List.getElem?_cons_succ] at d0 d1;have hz1:w0.heap.size < w1.heap.size:=(Array.getElem?_eq_some_iff.1 HB1.out).1;have hz2:w.heap.size < w1.heap.size:=(Array.getElem?_eq_some_iff.1 HX1.out).1;have HXW:Hid (((w1.setCell ⟨w0.heap.size,0,none⟩ (.slice (cutA a cap n) (l.length - n) (cap - n))).alloc (.cells #[.int .i64 v0,.int .i64 v1,.int .i64 v2,.int .i64 v3,.slice a' n5 c'] 88)).heap[w.heap.size]? = some (.cells #[.int .i64 0,.int .i64 0,.int .i64 0,.int .i64 0,.slice none 0 0] 88 (0,0))):=(by rw[(aA (w:=w1.setCell ⟨w0.heap.size,0,none⟩ (.slice (cutA a cap n) (l.length - n) (cap - n))) (.cells #[.int .i64 v0,.int .i64 v1,.int .i64 v2,.int .i64 v3,.slice a' n5 c'] 88)).block w.heap.size (by simpa [World.setCell] using hz2)];exact HCC.out.2.box HX1.out (by omega));have tokS:=trivial;clear hrr hb1 c0 c1 f0)
   | (have _t:=tokS;refine wpList_store_row rfl 88 _ _ rfl w.heap.size #[.int .i64 v0,.int .i64 v1,.int .i64 v2,.int .i64 v3,.slice a' n5 c'] rfl rfl 88 _ HXW.out Tryz.info88 rfl (aO _ _ _ _ _ _ _) ?_;clear _t))
  refine bodyPost_ret (results_cell_row rfl _ _ w.heap.size 88 #[.int .i64 v0,.int .i64 v1,.int .i64 v2,.int .i64 v3,.slice a' n5 c'] (0,0) _ rfl (setRow_heap _ _ _ _ _ _ HXW.out) Tryz.underlying88 rfl Tryz.info88) rfl ?_
  obtain⟨hcr,hck⟩:=HCC.out
  refine⟨a',c',?_,?_,hn',fun g hg=>(by have:=hnew g hg;simp at this;omega),(hcr.below (aA _)).offRow HZ.out,((HK1.out.trans hck).trans (KeepB.of_below (aA _))).offRow (Nat.le_refl _)⟩
  ·simp only[bav]
   rw[HV.out.1,HV.out.2.1,HV.out.2.2.1,HV.out.2.2.2,HN5.out]
  ·refine bV HRR.out (fun i hi bb off e=>?_)
   have n1:=pD HRR.out HB1.out (by simp) i hi bb off e
   have n2:=pD HRR.out HX1.out (by simp) i hi bb off e
   have n3:=HRR.out.lt hi e
   rw[setRow_other _ _ _ _ n2,(aA (w:=w1.setCell ⟨w0.heap.size,0,none⟩ (.slice (cutA a cap n) (l.length - n) (cap - n))) _).block bb (by simpa [World.setCell] using n3)]
   exact heap_setCell_other w1 ⟨w0.heap.size,0,none⟩ bb _ n1
 ·have e1:gBat st=(⟨0,0,0,0,[]⟩,none):=by
   cases st with
   | none=>rfl
   | some l=>
    have:¬okQ l=true:=fun q=>hok ((kK HY.out).1 q)
    unfold gBat;simp only;rw[if_neg this]
  rw[e1]
  have HO:Hid (¬OkB (lft st)):=hok
  have HZ:Hid (w0.heap.size < w.heap.size):=hz
  clear hok e1 HR HY
  obtain⟨LL,HLL⟩:∃LL,Hid ((lft st).length=LL):=⟨_,rfl⟩
  rw[HLL.out] at HD c0
  simp only[bav,bz,List.length_nil] at HD
  go_enter Tryz.func63,Tryz.ntmps63
  go_wp2_with (first
   | (go_at_call 84;refine Calls.mono HD.out ?_;rintro e w1 ⟨_,hno,hb1⟩;obtain rfl:=hno HO.out;clear hno;have HX1:Hid (w1.heap[w.heap.size]? = some (.cells #[.int .i64 0,.int .i64 0,.int .i64 0,.int .i64 0,.slice none 0 0] 88 (0,0))):=(hb1.block _ (Array.getElem?_eq_some_iff.1 HX0.out).1).trans HX0.out;have HK1:Hid (KeepB w0.heap.size w w1):=(KeepB.of_below (aA _)).trans (KeepB.of_below hb1);have HW1:Hid (RdR w0 w1 st):=HH.out.below hb1;have hz2:w.heap.size < w1.heap.size:=(Array.getElem?_eq_some_iff.1 HX1.out).1;clear hb1 c0 c1 f0)
   | (go_at_call 53;refine(HFail.out _ (HW1.out.below (aA _))).mono ?_;rintro e w2 ⟨rfl,hw2,hk2⟩;have HX2:Hid (w2.heap[w.heap.size]? = some (.cells #[.int .i64 0,.int .i64 0,.int .i64 0,.int .i64 0,.slice none 0 0] 88 (0,0))):=hk2.box ((((aA _).block w.heap.size hz2)).trans HX1.out) (Nat.ne_of_gt HZ.out);have tokS:=trivial)
   | (have _t:=tokS;refine wpList_store_row rfl 88 _ _ rfl w.heap.size #[.int .i64 0,.int .i64 0,.int .i64 0,.int .i64 0,.slice none 0 0] rfl rfl 88 _ HX2.out Tryz.info88 rfl (aO _ _ _ _ _ _ _) ?_;clear _t))
  refine bodyPost_ret (results_cell_row rfl _ _ w.heap.size 88 #[.int .i64 0,.int .i64 0,.int .i64 0,.int .i64 0,.slice none 0 0] (0,0) _ rfl (setRow_heap _ _ _ _ _ _ HX2.out) Tryz.underlying88 rfl Tryz.info88) rfl ?_
  exact⟨none,0,rfl,RRow.nil _ _,fun _=>rfl,fun g hg=>(by cases hg),hw2.offRow HZ.out,((HK1.out.trans (KeepB.of_below (aA _))).trans hk2).offRow (Nat.le_refl _)⟩
theorem bH {w:World} {ops:Array Oper} {rest:List Oper} {o:Oper} {a:Act} {Q:Exit->Act->World->Prop} (hw:Region.wanted o (yielded ops a.tmps)=true) (s x:Operand) (t e:TypeId)
 (ho:o.op=.call {callee:=.builtin .append,args:=#[s,x],argTypes:=#[t,t]}) (z:Value) (size bytes:Nat) (ht:Tryz.prog.underlying t=some (.slice e)) (hi:(Tryz.prog.info? e).map (fun i=>(i.zero,i.size,i.bytes))=some (some z,size,bytes))
 (hzs:z.cells.size=size) (hpos:0 < size) (hby:bytes<=100) (B:Nat) (v:Value) (n:Nat) (xs:List Value) (hs:a.eval s=v) (hown:w.ownsRow B e size v n xs) (hBs:B<=w.heap.size)
 (g:Nat) (news:List Value) (hx:a.eval x=.slice (some ⟨g,0,none⟩) 1 1) (hl:news.length=size) (hg:w.heap[g]? = some (.cells news.toArray e (0,0))) (hone:∀u ∈ news,u.oneCell'=true) (hn:n<=1000000)
 (h:∀v' w',w'.ownsRow B e size v' (n+1) (xs++news)->w.grownBy w' v.ownBlock->wpList Tryz.prog ops Q rest (a.put o.dst v') w'):wpList Tryz.prog ops Q (o::rest) a w:=by
 obtain⟨i0,hi,hz0,hz1,hz2⟩:=info_parts hi
 refine BigFrame.wpList_want hw fun K hK=>?_
 refine wp_append_own w s x t ho B e i0 z size bytes ht hi hz0 hz1 hz2 hzs hpos v n xs hs hown ⟨g,0,none⟩ 1 1 news hx (by omega) ?_ hone (by unfold maxLen;omega) ?_ hBs ?_
 ·intro j u hj
  rw[Addr.add_lit,cell_of_row _ g (0+j) news.toArray e (0,0) hg]
  simpa using hj
 ·have:(n+1) * bytes<=1000001 * 100:=Nat.mul_le_mul (by omega) hby
  omega
 ·intro v' w' h2 h3 _
  exact hK _ _ (h v' w' h2 h3)
theorem bU {B M:Nat} {w w':World} {e:TypeId} {s:Nat} {v:Value} {n:Nat} {xs:List Value} (h:w.ownsRow M e s v n xs) (k:KeepB B w w') (hB:B < M):w'.ownsRow M e s v n xs:=by
 refine⟨h.1,?_⟩
 rcases h.2 with hn | ⟨g,cap,cur,rfl,hb,hg,rest⟩
 ·exact .inl hn
 ·exact .inr ⟨g,cap,cur,rfl,hb,(k.blk g (by omega) (Array.getElem?_eq_some_iff.1 hg).1).trans hg,rest⟩
theorem bX {B M:Nat} {w0 w w':World} {e:TypeId} {s:Nat} {v:Value} {n:Nat} {xs:List Value} (k:KeepB B w0 w) (h:w.ownsRow M e s v n xs) (g:w.grownBy w' v.ownBlock) (hM:w0.heap.size<=M):KeepB B w0 w':=
 ⟨Nat.le_trans k.size g.size,fun x hx hl=>(g.block x (Nat.lt_of_lt_of_le hl k.size) (fun q=>by have:=(h.lt x q.symm).1;omega)).trans (k.blk x hx hl)⟩
def gPre {α:Type} (A:List α):List α × Ls->List α × Ls
 | (xs,some l)=>(A++xs,some l)
 | (_,none)=>([],none)
theorem aGc {α:Type} {pa:Ls->α × Ls} (hb:(pa none).2=none):∀(n:Nat) (s:Ls),(gL pa n s).2=none->(gL pa n s).1=[]:=by
 intro n
 induction n with
 | zero=>intro s _;rfl
 | succ n ih=>
  intro s h
  simp only[gL] at h ⊢
  split
  ·rfl
  ·rename_i hne
   rw[if_neg hne] at h
   cases hg:gL pa n (pa s).2 with
   | mk xs s2=>
    rw[hg] at h
    cases s2 with
    | none=>rfl
    | some l=>simp[gC] at h
theorem cZ {α:Type} {pa:Ls->α × Ls} (hb:(pa none).2=none) (n:Nat) (s:Ls):gL pa n s=gPre [] (gL pa n s):=by
 have h:=aGc hb n s
 cases hg:gL pa n s with
 | mk xs s2=>
  rw[hg] at h
  cases s2 with
  | none=>rw[show xs=[] from h rfl];rfl
  | some l=>rfl
theorem eZ {α:Type} {pa:Ls->α × Ls} (A:List α) (k:Nat) (s:Ls) (h:(pa s).2=none):gPre A (gL pa (k+1) s)=([],none):=by
 simp only[gL]
 rw[if_pos h]
 rfl
theorem dS {α:Type} {pa:Ls->α × Ls} (A:List α) (k:Nat) (s:Ls) (l:List Nat) (h:(pa s).2=some l):gPre A (gL pa (k+1) s)=gPre (A++[(pa s).1]) (gL pa k (some l)):=by
 simp only[gL]
 rw[if_neg (by rw[h];simp),h]
 cases hg:gL pa k (some l) with
 | mk xs s2=>
  cases s2 with
  | none=>rfl
  | some l2=>simp[gC,gPre]
theorem dX {α:Type} {pa:Ls->α × Ls} (A:List α) (l:List Nat):gPre A (gL pa 0 (some l))=(A,some l):=by simp[gL,gPre]
theorem iI {n:Nat} {st:Ls} (h:(gN n st).2=none):(gN n st).1=0:=by
 cases st with
 | none=>rfl
 | some l=>
  unfold gN at h ⊢
  simp only at h ⊢
  split at h
  ·cases h
  ·rename_i hq;rw[if_neg hq]
theorem aA5:(Tryz.prog.info? 9).map (fun i=>(i.zero,i.size,i.bytes))=some (some (.string ⟨#[]⟩),1,16):=by kernel_rfl
theorem xW:(Tryz.prog.info? 3).map (fun i=>(i.zero,i.size,i.bytes))=some (some (.int .i64 0),1,8):=by kernel_rfl
theorem fC:(Tryz.prog.info? 84).map (fun i=>(i.zero,i.size,i.bytes))=some (some (.agg rz.cells),6,64):=by kernel_rfl
theorem pS:(Tryz.prog.info? 88).map (fun i=>(i.zero,i.size,i.bytes))=some (some (.agg #[.int .i64 0,.int .i64 0,.int .i64 0,.int .i64 0,.slice none 0 0]),5,56):=by kernel_rfl
def scv (l:List ByteArray):List Value:=l.map Value.string
def icv (l:List Int):List Value:=l.map fun x=>Value.int .i64 x
theorem qV (l:List ByteArray) (x:ByteArray):scv (l++[x])=scv l++[.string x]:=by simp[scv]
theorem rO (l:List Int) (x:Int):icv (l++[x])=icv l++[.int .i64 x]:=by simp[icv]
theorem dY (l:List Rc) (x:Rc):rcv (l++[x])=rcv l++x.cells.toList:=by rw[lU];simp[rcv]
theorem mN (l:List Bs) (x:Bs):bcv (l++[x])=bcv l++x.cells.toList:=by rw[aCl];simp[bcv]
theorem oB {w:World} {B:Nat} {v:Value} {l:List ByteArray} (h:w.ownsRow B 9 1 v l.length (scv l)):∃a c,v=.slice a l.length c/\SRow w a l/\(a=none->c=0):=by
 rcases h.2 with⟨rfl,h0⟩ | ⟨g,cap,cur,rfl,hB,hg,hle,hm,_,_⟩
 ·exact⟨none,0,by rw[h0],fun i hi=>by omega,fun _=>rfl⟩
 ·refine⟨_,cap,rfl,fun i hi=>⟨g,0,rfl,?_⟩,fun c=>by cases c⟩
  have:=h.cells (g:=g) rfl i (.string (l.getD i ⟨#[]⟩)) (by simp[scv,List.getD,hi])
  simpa [Addr.add_lit] using this
theorem nQ {w:World} {B:Nat} {v:Value} {l:List Int} (h:w.ownsRow B 3 1 v l.length (icv l)):∃a c,v=.slice a l.length c/\IRow w a l/\(a=none->c=0):=by
 rcases h.2 with⟨rfl,h0⟩ | ⟨g,cap,cur,rfl,hB,hg,hle,hm,_,_⟩
 ·exact⟨none,0,by rw[h0],fun i hi=>by omega,fun _=>rfl⟩
 ·refine⟨_,cap,rfl,fun i hi=>⟨g,0,rfl,?_⟩,fun c=>by cases c⟩
  have:=h.cells (g:=g) rfl i (.int .i64 (l.getD i 0)) (by simp[icv,List.getD,hi])
  simpa [Addr.add_lit] using this
theorem fA {w:World} {M:Nat} {e:TypeId} {s:Nat} {a:Option Addr} {k c n:Nat} {xs:List Value} (h:w.ownsRow M e s (.slice a k c) n xs):∀g,a=some g->M<=g.block:=by
 intro g hg
 rcases h.2 with⟨e,_⟩ | ⟨g',cap,cur,e,hM,_⟩
 ·injection e with e1;rw[hg] at e1;cases e1
 ·injection e with e1;rw[hg] at e1;injection e1 with e1;subst e1;exact hM
theorem RdR.grown {w0 w w':World} {st:Ls} {M:Nat} {e:TypeId} {s:Nat} {v:Value} {n:Nat} {xs:List Value} (h:RdR w0 w st) (g:w.grownBy w' v.ownBlock) (ho:w.ownsRow M e s v n xs) (hM:w0.heap.size < M):RdR w0 w' st:=by
 obtain⟨a,cap,hx,r⟩:=h.box
 exact⟨⟨a,cap,(g.block _ (Array.getElem?_eq_some_iff.1 hx).1 (fun q=>by have:=(ho.lt _ q.symm).1;omega)).trans hx,r⟩,h.bel.grown g h.bel.size (fun k hk=>by have:=(ho.lt k hk).1;omega)⟩
theorem bN {B:Nat} {w w':World} (o:Obj) (k:KeepB B w w'):KeepB B w (w'.alloc o):=k.trans (KeepB.of_below (aA _))
theorem aA7 (w0 w:World) (st:Ls) (h:RdR w0 w st) :
 Calls Tryz.prog 60 #[.pointer (some ⟨w0.heap.size,0,none⟩),.func (.func 57) #[.pointer (some ⟨w0.heap.size,0,none⟩)] #[]] w fun e w'=>(∃a c,e=.returned (.slice a (gRow gT st).1.length c)/\SRow w' a (gRow gT st).1/\(a=none->c=0)/\(∀g,a=some g->w.heap.size<=g.block))/\RdR w0 w' (gRow gT st).2/\KeepB w0.heap.size w w':=by
 have hz:w0.heap.size < w.heap.size:=by obtain⟨a,cap,hx,_⟩:=h.box;exact(Array.getElem?_eq_some_iff.1 hx).1
 have HN:Hid _:=cY w0 w st 2 2 rfl (by decide) (by decide) h
 have hn:(gN 2 st).1 < 65536:=bL 2 st h.byt
 have HG:Hid (gRow gT st=gL gT (gN 2 st).1 (gN 2 st).2):=rfl
 have HBD:Hid ((gN 2 st).2=none->(gN 2 st).1=0):=iI
 have HO:Hid (∀s x,RdR w0 x s->Calls Tryz.prog 57 #[.pointer (some ⟨w0.heap.size,0,none⟩)] x (RP w0 x (.string (gT s).1) (gT s).2)):=fun s x hx=>kT w0 x s hx
 have HPB:Hid ((gT none).2=none):=rfl
 clear h
 generalize gRow gT st=R at *
 generalize (gN 2 st).1=n at *
 generalize (gN 2 st).2=s0 at *
 have hnI:(n:Int) < 65536:=by omega
 go_enter Tryz.func60,Tryz.ntmps60
 go_wp2_with (go_at_call 17;refine Calls.mono HN.out ?_;rintro e w1 ⟨rfl,hw1,hk1⟩)
 go_loopw [4,8] (fun v i wr=>∃(k:Nat) (AA:List ByteArray) (s:Ls),k<=n/\i=.int .i64 k/\AA.length=k/\(s=none->n=0/\AA=[])/\R=gPre AA (gL gT (n - k) s)/\wr.ownsRow w.heap.size 9 1 v AA.length (scv AA)/\RdR w0 wr s/\KeepB w0.heap.size w wr) (fun _ i _=>n - (intOf i).toNat)
 case atStart=>exact⟨0,[],s0,by omega,rfl,rfl,fun e=>⟨HBD.out e,rfl⟩,by rw[HG.out];exact cZ HPB.out _ _,World.ownsRow_nil _ _ _ _,hw1,hk1⟩
 case round=>
  clear hw1 hk1
  obtain⟨k,AA,s,hk,rfl,hAl,hsn,hR,hown,hw1,hk1⟩:=hrel
  by_cases hlt:k < n
  ·have hltI:(k:Int) < (n:Int):=by omega
   obtain⟨ls,rfl⟩:∃ls,s=some ls:=by
    cases s with
    | none=>have:=(hsn rfl).1;omega
    | some ls=>exact⟨ls,rfl⟩
   have HC:Hid (Calls Tryz.prog 57 #[.pointer (some ⟨w0.heap.size,0,none⟩)] wr (RP w0 wr (.string (gT (some ls)).1) (gT (some ls)).2)):=HO.out (some ls) wr hw1
   have HOWN:Hid (wr.ownsRow w.heap.size 9 1 u4 AA.length (scv AA)):=hown
   have HK1:Hid (KeepB w0.heap.size w wr):=hk1
   have HNK:Hid (n - k=(n - (k+1))+1):=by show _=_;omega
   have HR1:Hid ((gT (some ls)).2=none->R=([],none)):=fun e=>by rw[hR,HNK.out];exact eZ _ _ _ e
   have HR2:Hid (∀l2,(gT (some ls)).2=some l2->R=gPre (AA++[(gT (some ls)).1]) (gL gT (n - (k+1)) (some l2))):=fun l2 e=>by rw[hR,HNK.out];exact dS _ _ _ _ e
   have HAL:Hid (AA.length=k):=hAl
   obtain⟨va,vn,vc,rfl⟩:∃va vn vc,u4=.slice va vn vc:=by
    rcases hown.2 with⟨rfl,_⟩ | ⟨g,cap,cur,rfl,_⟩
    ·exact⟨_,_,_,rfl⟩
    ·exact⟨_,_,_,rfl⟩
   skip
   clear hR hown hw1 hk1 HO hsn hAl HBD HG HPB
   generalize hs2:(gT (some ls)).2=s2 at *
   generalize (gT (some ls)).1=xx at *
   cases s2 with
   | none=>
    have HRN:Hid (R=([],none)):=HR1.out rfl
    go_wp2_with (go_at_call 57;refine Calls.mono HC.out ?_;rintro e w2 ⟨rfl,hw2,hk2⟩;obtain⟨b0,bc,hbx,_⟩:=hw2.box;have d1:=(aB hbx 1).1;simp only[List.getElem?_toArray,List.getElem?_cons_zero,List.getElem?_cons_succ,Option.isNone_none] at d1;have hz2:w0.heap.size < w2.heap.size:=(Array.getElem?_eq_some_iff.1 hbx).1;clear hbx)
    go_ret
    rw[HRN.out]
    exact⟨⟨none,0,rfl,fun i hi=>(by simp at hi),fun _=>rfl,fun g hg=>(by cases hg)⟩,hw2,HK1.out.trans hk2⟩
   | some l2=>
    have HRS:=HR2.out l2 rfl
    have HRR2:Hid _:=HRS
    clear HR1 HR2 HRS
    go_wp2_with (first
     | (go_at_call 57;refine Calls.mono HC.out ?_;rintro e w2 ⟨rfl,hw2,hk2⟩;obtain⟨b0,bc,hbx,_⟩:=hw2.box;have d1:=(aB hbx 1).1;simp only[List.getElem?_toArray,List.getElem?_cons_zero,List.getElem?_cons_succ,Option.isNone_some] at d1;have hz2:w0.heap.size < w2.heap.size:=(Array.getElem?_eq_some_iff.1 hbx).1;have HW2:Hid (RdR w0 w2 (some l2)):=hw2;have HK2:Hid (KeepB w0.heap.size w w2):=HK1.out.trans hk2;have HOW2:Hid (w2.ownsRow w.heap.size 9 1 (.slice va vn vc) AA.length (scv AA)):=bU HOWN.out hk2 hz;skip;clear hbx hw2 hk2 HC)
     | (at_builtin;refine bH (by rfl) _ _ 34 9 rfl _ 1 _ Tryz.underlying34 aA5 rfl (by decide) (by decide) w.heap.size _ _ _ rfl (bY HOW2.out (aA _)) (Nat.le_trans (Nat.le_trans HK2.out.size (Nat.le_refl _)) (by simp)) _ [Value.string xx] rfl rfl (heap_alloc_new _ _) ((by simp[Value.oneCell'])) (by rw[HAL.out];omega) ?_;intro v3 w3 ho3 hg3;have HO3:Hid (w3.ownsRow w.heap.size 9 1 v3 (AA.length+1) (scv AA++[Value.string xx])):=ho3;have HG3:Hid _:=hg3;clear ho3 hg3))
    refine⟨⟨k+1,AA++[xx],some l2,by omega,by go_num,by rw[List.length_append,HAL.out];rfl,fun e=>(by cases e),HRR2.out,by rw[List.length_append,qV];exact HO3.out,?_,?_⟩,by simp[intOf];omega⟩
    ·exact(RdR.below HW2.out (aA _)).grown HG3.out (bY HOW2.out (aA _)) hz
    ·exact bX (bN _ HK2.out) (bY HOW2.out (aA _)) HG3.out (Nat.le_refl _)
    skip
  ·obtain rfl:k=n:=by omega
   have HEND:Hid (s=none->AA=[]):=fun e=>(hsn e).2
   have HRE:Hid (R=(AA,s)):=by
    show _=_
    rw[hR,Nat.sub_self]
    cases s with
    | none=>rw[(hsn rfl).2];rfl
    | some ls=>exact dX _ _
   clear hR hsn
   obtain⟨va,vc,rfl,hsr,hnn⟩:=oB hown
   have HSR:Hid (SRow wr va AA):=hsr
   have HNG:Hid (∀g,va=some g->w.heap.size<=g.block):=fA hown
   go_wp2_with fail
   go_ret
   rw[HRE.out]
   exact⟨⟨va,vc,by rw[hAl];rfl,HSR.out,hnn,HNG.out⟩,hw1,hk1⟩
theorem zO (w0 w:World) (st:Ls) (h:RdR w0 w st) :
 Calls Tryz.prog 61 #[.pointer (some ⟨w0.heap.size,0,none⟩),.func (.func 55) #[.pointer (some ⟨w0.heap.size,0,none⟩)] #[]] w fun e w'=>(∃a c,e=.returned (.slice a (gRow gI st).1.length c)/\IRow w' a (gRow gI st).1/\(a=none->c=0)/\(∀g,a=some g->w.heap.size<=g.block))/\RdR w0 w' (gRow gI st).2/\KeepB w0.heap.size w w':=by
 have hz:w0.heap.size < w.heap.size:=by obtain⟨a,cap,hx,_⟩:=h.box;exact(Array.getElem?_eq_some_iff.1 hx).1
 have HN:Hid _:=cY w0 w st 2 2 rfl (by decide) (by decide) h
 have hn:(gN 2 st).1 < 65536:=bL 2 st h.byt
 have HG:Hid (gRow gI st=gL gI (gN 2 st).1 (gN 2 st).2):=rfl
 have HBD:Hid ((gN 2 st).2=none->(gN 2 st).1=0):=iI
 have HO:Hid (∀s x,RdR w0 x s->Calls Tryz.prog 55 #[.pointer (some ⟨w0.heap.size,0,none⟩)] x (RP w0 x (.int .i64 (gI s).1) (gI s).2)):=fun s x hx=>mC w0 x s hx
 have HPB:Hid ((gI none).2=none):=rfl
 clear h
 generalize gRow gI st=R at *
 generalize (gN 2 st).1=n at *
 generalize (gN 2 st).2=s0 at *
 have hnI:(n:Int) < 65536:=by omega
 go_enter Tryz.func61,Tryz.ntmps61
 go_wp2_with (go_at_call 17;refine Calls.mono HN.out ?_;rintro e w1 ⟨rfl,hw1,hk1⟩)
 go_loopw [4,8] (fun v i wr=>∃(k:Nat) (AA:List Int) (s:Ls),k<=n/\i=.int .i64 k/\AA.length=k/\(s=none->n=0/\AA=[])/\R=gPre AA (gL gI (n - k) s)/\wr.ownsRow w.heap.size 3 1 v AA.length (icv AA)/\RdR w0 wr s/\KeepB w0.heap.size w wr) (fun _ i _=>n - (intOf i).toNat)
 case atStart=>exact⟨0,[],s0,by omega,rfl,rfl,fun e=>⟨HBD.out e,rfl⟩,by rw[HG.out];exact cZ HPB.out _ _,World.ownsRow_nil _ _ _ _,hw1,hk1⟩
 case round=>
  clear hw1 hk1
  obtain⟨k,AA,s,hk,rfl,hAl,hsn,hR,hown,hw1,hk1⟩:=hrel
  by_cases hlt:k < n
  ·have hltI:(k:Int) < (n:Int):=by omega
   obtain⟨ls,rfl⟩:∃ls,s=some ls:=by
    cases s with
    | none=>have:=(hsn rfl).1;omega
    | some ls=>exact⟨ls,rfl⟩
   have HC:Hid (Calls Tryz.prog 55 #[.pointer (some ⟨w0.heap.size,0,none⟩)] wr (RP w0 wr (.int .i64 (gI (some ls)).1) (gI (some ls)).2)):=HO.out (some ls) wr hw1
   have HOWN:Hid (wr.ownsRow w.heap.size 3 1 u4 AA.length (icv AA)):=hown
   have HK1:Hid (KeepB w0.heap.size w wr):=hk1
   have HNK:Hid (n - k=(n - (k+1))+1):=by show _=_;omega
   have HR1:Hid ((gI (some ls)).2=none->R=([],none)):=fun e=>by rw[hR,HNK.out];exact eZ _ _ _ e
   have HR2:Hid (∀l2,(gI (some ls)).2=some l2->R=gPre (AA++[(gI (some ls)).1]) (gL gI (n - (k+1)) (some l2))):=fun l2 e=>by rw[hR,HNK.out];exact dS _ _ _ _ e
   have HAL:Hid (AA.length=k):=hAl
   obtain⟨va,vn,vc,rfl⟩:∃va vn vc,u4=.slice va vn vc:=by
    rcases hown.2 with⟨rfl,_⟩ | ⟨g,cap,cur,rfl,_⟩
    ·exact⟨_,_,_,rfl⟩
    ·exact⟨_,_,_,rfl⟩
   skip
   clear hR hown hw1 hk1 HO hsn hAl HBD HG HPB
   generalize hs2:(gI (some ls)).2=s2 at *
   generalize (gI (some ls)).1=xx at *
   cases s2 with
   | none=>
    have HRN:Hid (R=([],none)):=HR1.out rfl
    go_wp2_with (go_at_call 55;refine Calls.mono HC.out ?_;rintro e w2 ⟨rfl,hw2,hk2⟩;obtain⟨b0,bc,hbx,_⟩:=hw2.box;have d1:=(aB hbx 1).1;simp only[List.getElem?_toArray,List.getElem?_cons_zero,List.getElem?_cons_succ,Option.isNone_none] at d1;have hz2:w0.heap.size < w2.heap.size:=(Array.getElem?_eq_some_iff.1 hbx).1;clear hbx)
    go_ret
    rw[HRN.out]
    exact⟨⟨none,0,rfl,fun i hi=>(by simp at hi),fun _=>rfl,fun g hg=>(by cases hg)⟩,hw2,HK1.out.trans hk2⟩
   | some l2=>
    have HRS:=HR2.out l2 rfl
    have HRR2:Hid _:=HRS
    clear HR1 HR2 HRS
    go_wp2_with (first
     | (go_at_call 55;refine Calls.mono HC.out ?_;rintro e w2 ⟨rfl,hw2,hk2⟩;obtain⟨b0,bc,hbx,_⟩:=hw2.box;have d1:=(aB hbx 1).1;simp only[List.getElem?_toArray,List.getElem?_cons_zero,List.getElem?_cons_succ,Option.isNone_some] at d1;have hz2:w0.heap.size < w2.heap.size:=(Array.getElem?_eq_some_iff.1 hbx).1;have HW2:Hid (RdR w0 w2 (some l2)):=hw2;have HK2:Hid (KeepB w0.heap.size w w2):=HK1.out.trans hk2;have HOW2:Hid (w2.ownsRow w.heap.size 3 1 (.slice va vn vc) AA.length (icv AA)):=bU HOWN.out hk2 hz;skip;clear hbx hw2 hk2 HC)
     | (at_builtin;refine bH (by rfl) _ _ 35 3 rfl _ 1 _ Tryz.underlying35 xW rfl (by decide) (by decide) w.heap.size _ _ _ rfl (bY HOW2.out (aA _)) (Nat.le_trans (Nat.le_trans HK2.out.size (Nat.le_refl _)) (by simp)) _ [Value.int .i64 xx] rfl rfl (heap_alloc_new _ _) ((by simp[Value.oneCell'])) (by rw[HAL.out];omega) ?_;intro v3 w3 ho3 hg3;have HO3:Hid (w3.ownsRow w.heap.size 3 1 v3 (AA.length+1) (icv AA++[Value.int .i64 xx])):=ho3;have HG3:Hid _:=hg3;clear ho3 hg3))
    refine⟨⟨k+1,AA++[xx],some l2,by omega,by go_num,by rw[List.length_append,HAL.out];rfl,fun e=>(by cases e),HRR2.out,by rw[List.length_append,rO];exact HO3.out,?_,?_⟩,by simp[intOf];omega⟩
    ·exact(RdR.below HW2.out (aA _)).grown HG3.out (bY HOW2.out (aA _)) hz
    ·exact bX (bN _ HK2.out) (bY HOW2.out (aA _)) HG3.out (Nat.le_refl _)
    skip
  ·obtain rfl:k=n:=by omega
   have HEND:Hid (s=none->AA=[]):=fun e=>(hsn e).2
   have HRE:Hid (R=(AA,s)):=by
    show _=_
    rw[hR,Nat.sub_self]
    cases s with
    | none=>rw[(hsn rfl).2];rfl
    | some ls=>exact dX _ _
   clear hR hsn
   obtain⟨va,vc,rfl,hsr,hnn⟩:=nQ hown
   have HSR:Hid (IRow wr va AA):=hsr
   have HNG:Hid (∀g,va=some g->w.heap.size<=g.block):=fA hown
   go_wp2_with fail
   go_ret
   rw[HRE.out]
   exact⟨⟨va,vc,by rw[hAl];rfl,HSR.out,hnn,HNG.out⟩,hw1,hk1⟩
theorem zU (w0 w:World) (st:Ls) (h:RdR w0 w st) :
 Calls Tryz.prog 58 #[.pointer (some ⟨w0.heap.size,0,none⟩),.func (.func 59) #[.pointer (some ⟨w0.heap.size,0,none⟩)] #[]] w fun e w'=>(∃a c,e=.returned (.slice a (gRow gRec st).1.length c)/\RRow w' a (gRow gRec st).1/\(a=none->c=0)/\(∀g,a=some g->w.heap.size<=g.block))/\RdR w0 w' (gRow gRec st).2/\KeepB w0.heap.size w w':=by
 have hz:w0.heap.size < w.heap.size:=by obtain⟨a,cap,hx,_⟩:=h.box;exact(Array.getElem?_eq_some_iff.1 hx).1
 have HN:Hid _:=cY w0 w st 2 2 rfl (by decide) (by decide) h
 have hn:(gN 2 st).1 < 65536:=bL 2 st h.byt
 have HG:Hid (gRow gRec st=gL gRec (gN 2 st).1 (gN 2 st).2):=rfl
 have HBD:Hid ((gN 2 st).2=none->(gN 2 st).1=0):=iI
 have HO:Hid (∀s x,RdR w0 x s->Calls Tryz.prog 59 #[.pointer (some ⟨w0.heap.size,0,none⟩)] x (RP w0 x (.agg (gRec s).1.cells) (gRec s).2)):=fun s x hx=>yL w0 x s hx
 have HPB:Hid ((gRec none).2=none):=pr_rec.bad
 clear h
 generalize gRow gRec st=R at *
 generalize (gN 2 st).1=n at *
 generalize (gN 2 st).2=s0 at *
 have hnI:(n:Int) < 65536:=by omega
 go_enter Tryz.func58,Tryz.ntmps58
 go_wp2_with (go_at_call 17;refine Calls.mono HN.out ?_;rintro e w1 ⟨rfl,hw1,hk1⟩)
 go_loopw [4,8] (fun v i wr=>∃(k:Nat) (AA:List Rc) (s:Ls),k<=n/\i=.int .i64 k/\AA.length=k/\(s=none->n=0/\AA=[])/\R=gPre AA (gL gRec (n - k) s)/\wr.ownsRow w.heap.size 84 6 v AA.length (rcv AA)/\RdR w0 wr s/\KeepB w0.heap.size w wr) (fun _ i _=>n - (intOf i).toNat)
 case atStart=>exact⟨0,[],s0,by omega,rfl,rfl,fun e=>⟨HBD.out e,rfl⟩,by rw[HG.out];exact cZ HPB.out _ _,World.ownsRow_nil _ _ _ _,hw1,hk1⟩
 case round=>
  clear hw1 hk1
  obtain⟨k,AA,s,hk,rfl,hAl,hsn,hR,hown,hw1,hk1⟩:=hrel
  by_cases hlt:k < n
  ·have hltI:(k:Int) < (n:Int):=by omega
   obtain⟨ls,rfl⟩:∃ls,s=some ls:=by
    cases s with
    | none=>have:=(hsn rfl).1;omega
    | some ls=>exact⟨ls,rfl⟩
   have HC:Hid (Calls Tryz.prog 59 #[.pointer (some ⟨w0.heap.size,0,none⟩)] wr (RP w0 wr (.agg (gRec (some ls)).1.cells) (gRec (some ls)).2)):=HO.out (some ls) wr hw1
   have HOWN:Hid (wr.ownsRow w.heap.size 84 6 u4 AA.length (rcv AA)):=hown
   have HK1:Hid (KeepB w0.heap.size w wr):=hk1
   have HNK:Hid (n - k=(n - (k+1))+1):=by show _=_;omega
   have HR1:Hid ((gRec (some ls)).2=none->R=([],none)):=fun e=>by rw[hR,HNK.out];exact eZ _ _ _ e
   have HR2:Hid (∀l2,(gRec (some ls)).2=some l2->R=gPre (AA++[(gRec (some ls)).1]) (gL gRec (n - (k+1)) (some l2))):=fun l2 e=>by rw[hR,HNK.out];exact dS _ _ _ _ e
   have HAL:Hid (AA.length=k):=hAl
   obtain⟨va,vn,vc,rfl⟩:∃va vn vc,u4=.slice va vn vc:=by
    rcases hown.2 with⟨rfl,_⟩ | ⟨g,cap,cur,rfl,_⟩
    ·exact⟨_,_,_,rfl⟩
    ·exact⟨_,_,_,rfl⟩
   skip
   clear hR hown hw1 hk1 HO hsn hAl HBD HG HPB
   generalize hs2:(gRec (some ls)).2=s2 at *
   generalize (gRec (some ls)).1=xx at *
   obtain⟨x0,x1,x2,x3,x4,x5⟩:=xx
   simp only[Rc.cells] at HC
   cases s2 with
   | none=>
    have HRN:Hid (R=([],none)):=HR1.out rfl
    go_wp2_with (go_at_call 59;refine Calls.mono HC.out ?_;rintro e w2 ⟨rfl,hw2,hk2⟩;obtain⟨b0,bc,hbx,_⟩:=hw2.box;have d1:=(aB hbx 1).1;simp only[List.getElem?_toArray,List.getElem?_cons_zero,List.getElem?_cons_succ,Option.isNone_none] at d1;have hz2:w0.heap.size < w2.heap.size:=(Array.getElem?_eq_some_iff.1 hbx).1;clear hbx)
    go_ret
    rw[HRN.out]
    exact⟨⟨none,0,rfl,fun i hi=>(by simp at hi),fun _=>rfl,fun g hg=>(by cases hg)⟩,hw2.below (aA _),(HK1.out.trans hk2).trans (KeepB.of_below (aA _))⟩
   | some l2=>
    have HRS:=HR2.out l2 rfl
    have HRR2:Hid _:=HRS
    clear HR1 HR2 HRS
    go_wp2_with (first
     | (go_at_call 59;refine Calls.mono HC.out ?_;rintro e w2 ⟨rfl,hw2,hk2⟩;obtain⟨b0,bc,hbx,_⟩:=hw2.box;have d1:=(aB hbx 1).1;simp only[List.getElem?_toArray,List.getElem?_cons_zero,List.getElem?_cons_succ,Option.isNone_some] at d1;have hz2:w0.heap.size < w2.heap.size:=(Array.getElem?_eq_some_iff.1 hbx).1;have HW2:Hid (RdR w0 w2 (some l2)):=hw2;have HK2:Hid (KeepB w0.heap.size w w2):=HK1.out.trans hk2;have HOW2:Hid (w2.ownsRow w.heap.size 84 6 (.slice va vn vc) AA.length (rcv AA)):=bU HOWN.out hk2 hz;have HOW3:Hid (((w2.alloc (.cells #[.bool x0,.string x1,.bool x2,.string x3,.int .i64 x4,.int .i64 x5] 84)).alloc (.cells #[.bool x0,.string x1,.bool x2,.string x3,.int .i64 x4,.int .i64 x5] 84)).ownsRow w.heap.size 84 6 (.slice va vn vc) AA.length (rcv AA)):=bY HOW2.out ((aA _).trans ((aA _).mono (by simp)));have HLE3:Hid (w.heap.size<=((w2.alloc (.cells #[.bool x0,.string x1,.bool x2,.string x3,.int .i64 x4,.int .i64 x5] 84)).alloc (.cells #[.bool x0,.string x1,.bool x2,.string x3,.int .i64 x4,.int .i64 x5] 84)).heap.size):=(by show _<=_;have:=HK2.out.size;simp;omega);have HNEW:Hid (((w2.alloc (.cells #[.bool x0,.string x1,.bool x2,.string x3,.int .i64 x4,.int .i64 x5] 84)).alloc (.cells #[.bool x0,.string x1,.bool x2,.string x3,.int .i64 x4,.int .i64 x5] 84)).heap[w2.heap.size+1]? = some (.cells (List.toArray [Value.bool x0,Value.string x1,Value.bool x2,Value.string x3,Value.int .i64 x4,Value.int .i64 x5]) 84 (0,0))):=(by have q:=heap_alloc_new (w2.alloc (.cells #[.bool x0,.string x1,.bool x2,.string x3,.int .i64 x4,.int .i64 x5] 84)) (.cells #[.bool x0,.string x1,.bool x2,.string x3,.int .i64 x4,.int .i64 x5] 84);rw[show(w2.alloc (.cells #[.bool x0,.string x1,.bool x2,.string x3,.int .i64 x4,.int .i64 x5] 84)).heap.size=w2.heap.size+1 by simp] at q;exact q);clear hbx hw2 hk2 HC)
     | (at_builtin;refine bH (by rfl) _ _ 26 84 rfl _ 6 _ Tryz.underlying26 fC rfl (by decide) (by decide) w.heap.size _ _ _ rfl (HOW3.out) (HLE3.out) _ [Value.bool x0,Value.string x1,Value.bool x2,Value.string x3,Value.int .i64 x4,Value.int .i64 x5] rfl rfl (HNEW.out) ((by simp[Value.oneCell'])) (by rw[HAL.out];omega) ?_;intro v3 w3 ho3 hg3;have HO3:Hid (w3.ownsRow w.heap.size 84 6 v3 (AA.length+1) (rcv AA++[Value.bool x0,Value.string x1,Value.bool x2,Value.string x3,Value.int .i64 x4,Value.int .i64 x5])):=ho3;have HG3:Hid _:=hg3;clear ho3 hg3))
    refine⟨⟨k+1,AA++[⟨x0,x1,x2,x3,x4,x5⟩],some l2,by omega,by go_num,by rw[List.length_append,HAL.out];rfl,fun e=>(by cases e),HRR2.out,by rw[List.length_append,dY];exact HO3.out,?_,?_⟩,by simp[intOf];omega⟩
    ·exact(RdR.below (RdR.below HW2.out (aA _)) (aA _)).grown HG3.out HOW3.out hz
    ·exact bX (bN _ (bN _ HK2.out)) HOW3.out HG3.out (Nat.le_refl _)
    skip
  ·obtain rfl:k=n:=by omega
   have HEND:Hid (s=none->AA=[]):=fun e=>(hsn e).2
   have HRE:Hid (R=(AA,s)):=by
    show _=_
    rw[hR,Nat.sub_self]
    cases s with
    | none=>rw[(hsn rfl).2];rfl
    | some ls=>exact dX _ _
   clear hR hsn
   obtain⟨va,vc,rfl,hsr,hnn,_⟩:=fH hown
   have HSR:Hid (RRow wr va AA):=hsr
   have HNG:Hid (∀g,va=some g->w.heap.size<=g.block):=fA hown
   go_wp2_with fail
   go_ret
   rw[HRE.out]
   exact⟨⟨va,vc,by rw[hAl];rfl,HSR.out,hnn,HNG.out⟩,hw1,hk1⟩
theorem kY {w:World} {ops:Array Oper} {rest:List Oper} {o:Oper} {a:Act} {Q:Exit->Act->World->Prop} (hw:Region.wanted o (yielded ops a.tmps)=true) (s x:Operand) (t e:TypeId)
 (ho:o.op=.call {callee:=.builtin .append,args:=#[s,x],argTypes:=#[t,t]}) (z:Value) (size bytes:Nat) (ht:Tryz.prog.underlying t=some (.slice e)) (hi:(Tryz.prog.info? e).map (fun i=>(i.zero,i.size,i.bytes))=some (some z,size,bytes))
 (hzs:z.cells.size=size) (hpos:0 < size) (hby:bytes<=100) (B:Nat) (v:Value) (n:Nat) (xs:List Value) (hs:a.eval s=v) (hown:w.ownsRow B e size v n xs) (hBs:B<=w.heap.size)
 (g:Nat) (news:List Value) (hx:a.eval x=.slice (some ⟨g,0,none⟩) 1 1) (hl:news.length=size) (hg:w.heap[g]? = some (.cells news.toArray e (0,0))) (hone:∀u ∈ news,u.oneCell'=true) (hn:n<=1000000)
 (h:∀v' w',w'.ownsRow B e size v' (n+1) (xs++news)->w.grownBy w' v.ownBlock->(v'.ownBlock=v.ownBlock∨∀x,v'.ownBlock=some x->w.heap.size<=x)->wpList Tryz.prog ops Q rest (a.put o.dst v') w'):wpList Tryz.prog ops Q (o::rest) a w:=by
 obtain⟨i0,hi,hz0,hz1,hz2⟩:=info_parts hi
 have hnews:∀j u,news[j]? = some u->w.cell? ((⟨g,0,none⟩:Addr).add j)=some u:=by
  intro j u hj
  rw[Addr.add_lit,cell_of_row _ g (0+j) news.toArray e (0,0) hg]
  simpa using hj
 have hb2:(n+1) * bytes<=140737488355328:=by
  have:(n+1) * bytes<=1000001 * 100:=Nat.mul_le_mul (by omega) hby
  omega
 refine BigFrame.wpList_want hw fun K hK=>?_
 obtain⟨v',w',hr1,h2,h3,h4⟩:=run_append_own (P:=Tryz.prog) w B t o.type e i0 z size bytes ht hi hz0 hz1 hz2 hzs hpos v n xs hown ⟨g,0,none⟩ 1 1 news (by omega) hnews hone (by unfold maxLen;omega) hb2 hBs
 have h5:v'.ownBlock=v.ownBlock∨∀x,v'.ownBlock=some x->w.heap.size<=x:=by
  rcases hown.2 with⟨rfl,h0⟩ | ⟨gg,cp,cur,rfl,_,hgg,hle,hm,_,_⟩
  ·have hx0:xs=[]:=List.eq_nil_of_length_eq_zero (by rw[hown.1,h0,Nat.zero_mul])
   subst hx0
   subst h0
   obtain⟨v2,w2,hr2,h22,_,_⟩:=run_append_own (P:=Tryz.prog) w w.heap.size t o.type e i0 z size bytes ht hi hz0 hz1 hz2 hzs hpos (.slice none 0 0) 0 [] (World.ownsRow_nil _ _ _ _) ⟨g,0,none⟩ 1 1 news (by omega) hnews hone (by unfold maxLen;omega) hb2 (Nat.le_refl _)
   rw[hr2] at hr1
   injection hr1 with e1 e2
   subst e1
   exact .inr (fun x hx=>(h22.lt x hx).1)
  ·by_cases hroom:n+1<=cp
   ·obtain⟨w2,hr2,_,_⟩:=run_append_fits (P:=Tryz.prog) w B t o.type e i0 size ht hi hz1 gg n cp xs hown ⟨g,0,none⟩ 1 1 news (by omega) hnews hone hroom
    rw[hr2] at hr1
    injection hr1 with e1 e2
    subst e1
    exact .inl rfl
   ·have holds:∀j u,xs[j]? = some u->w.cell? ((⟨gg,0,none⟩:Addr).add j)=some u:=hown.cells (g:=gg) rfl
    have hr2:=run_append_grow (P:=Tryz.prog) w t o.type e i0 z ht hi hz0 ⟨gg,0,none⟩ n cp xs (by rw[hz1];exact hown.1) holds ⟨g,0,none⟩ 1 1 news (by rw[hz1];omega) hnews (by omega) (by omega) (growslice_fits (by omega) (by rw[hz2];exact hb2))
    rw[hr2] at hr1
    injection hr1 with e1 e2
    subst e1
    exact .inr (fun x hx=>by simp[Value.ownBlock] at hx;omega)
 unfold Oper.wp execOp
 simp only[ho,resolve,invoke,builtin,Sem.run_bind,Sem.run_pure,Result.andThen_ok,List.map_toArray,List.map_cons,List.map_nil,hs,hx,hr1]
 exact hK _ _ (h v' w' h2 h3 h5)
theorem uS {l:List Nat} {l2:List Nat} (h:(gBat (some l)).2=some l2):okQ l=true/\(gBat (some l)).1=bOf l:=by
 unfold gBat at h ⊢
 simp only at h ⊢
 split at h
 ·rename_i hq;exact⟨hq,by rw[if_pos hq]⟩
 ·cases h
theorem rP {l:List Nat} (hq:okQ l=true):0 < (bOf l).rs.length:=by
 unfold okQ at hq
 simp only[Bool.and_eq_true,decide_eq_true_eq] at hq
 obtain⟨_,_,_,_,r0,_,_⟩:=eV (dD hq.1.1).1
 exact r0
theorem rE {w:World} {a:Option Addr} {rs:List Rc} (h:RRow w a rs) (h0:0 < rs.length) {g:Addr} (e:a=some g):g.block < w.heap.size:=by
 obtain⟨b,off,e',c,_⟩:=h 0 h0
 rw[e] at e'
 injection e' with e'
 subst e'
 exact World.block_lt_of_cell? _ _ c
theorem rI {w:World} {l:List Nat} (hq:okQ l=true) (hl:Byt l) (a:Option Addr) (c:Nat) (hr:RRow w a (bOf l).rs) (hn:a=none->c=0):BaOk w (bOf l) a c:=by
 have hok:=(kK hl).1 hq
 have hc:chkB (bOf l)=0:=by
  unfold okQ at hq
  simp only[Bool.and_eq_true,decide_eq_true_eq] at hq
  exact hq.1.1
 obtain⟨⟨b0,b1⟩,⟨s0,s1⟩,_,_,r0,hri,_⟩:=eV (dD hc).1
 refine⟨hr,tF l,?_,hn,?_,?_⟩
 ·have h5:(bOf l).rs.length=getV l 36 4 true:=cW (partOf l) (frsOf l) (cntOf l)
  have h4:getV l 36 4 true < 4294967296:=dK l 36 4 hl.getD
  rw[h5]
  generalize getV l 36 4 true=q at *
  unfold maxLen
  omega
 ·simp[Lit.wf,IntKind.min,IntKind.max,IntKind.signed,IntKind.bits];omega
 ·simp[Lit.wf,IntKind.min,IntKind.max,IntKind.signed,IntKind.bits];omega
def AllQ (w:World) (v:Value) (AA:List Bs):Prop:=∀s,s ∈ AA->BaOk w s.b s.a s.cap/\∀g,s.a=some g->v.ownBlock≠some g.block
theorem AllQ.nil (w:World) (v:Value):AllQ w v []:=fun s hs=>by cases hs
theorem AllQ.allB {w:World} {v:Value} {AA:List Bs} (h:AllQ w v AA):AllB w AA:=fun i hi=>(h _ (by simp[List.getD,hi])).1
theorem AllQ.below {w w':World} {v:Value} {AA:List Bs} (h:AllQ w v AA) (hb:Below w.heap.size w w'):AllQ w' v AA:=fun s hs=>⟨(h s hs).1.below hb,(h s hs).2⟩
theorem AllQ.keepB {w0 w w':World} {st:Ls} {v:Value} {AA:List Bs} (h:AllQ w v AA) (hr:RdR w0 w st) (k:KeepB w0.heap.size w w'):AllQ w' v AA:=fun s hs=>⟨⟨(h s hs).1.1.keepB hr k,(h s hs).1.2⟩,(h s hs).2⟩
theorem AllQ.grown {w w':World} {v v':Value} {AA:List Bs} (h:AllQ w v AA) (g:w.grownBy w' v.ownBlock) (hv:v'.ownBlock=v.ownBlock∨∀x,v'.ownBlock=some x->w.heap.size<=x) (hl:∀s,s ∈ AA->∀g,s.a=some g->g.block < w.heap.size):AllQ w' v' AA:=by
 intro s hs
 obtain⟨h1,h2⟩:=h s hs
 refine⟨⟨bV h1.1 (fun i hi b off e=>g.block b (h1.1.lt hi e) (fun q=>h2 _ e q.symm)),h1.2⟩,fun gg hg=>?_⟩
 rcases hv with e | e
 ·rw[e];exact h2 gg hg
 ·intro q
  have:=e _ q
  have:=hl s hs gg hg
  omega
def LowQ (w:World) (AA:List Bs):Prop:=∀s,s ∈ AA->∀g,s.a=some g->g.block < w.heap.size
theorem mL {w:World} {B:Nat} {v:Value} {ss:List Bs} (h:w.ownsRow B 88 5 v ss.length (bcv ss)):∃a c,v=.slice a ss.length c/\BCells w a ss/\(a=none->c=0):=by
 obtain⟨a,c,e,hb⟩:=uZ h
 refine⟨a,c,e,hb,fun q=>?_⟩
 rcases h.2 with⟨rfl,_⟩ | ⟨g,cap,cur,rfl,_⟩
 ·injection e with _ _ e3;omega
 ·injection e with e1;rw[q] at e1;cases e1
theorem zI (w0 w:World) (st:Ls) (ht:Tab w0) (h:RdR w0 w st) :
 Calls Tryz.prog 62 #[.pointer (some ⟨w0.heap.size,0,none⟩),.func (.func 63) #[.pointer (some ⟨w0.heap.size,0,none⟩)] #[]] w fun e w'=>(∃a c ss,e=.returned (.slice a (ss:List Bs).length c)/\BRow w' a ss/\ss.map (·.b)=(gRow gBat st).1/\(a=none->c=0)/\(∀g,a=some g->w.heap.size<=g.block))/\RdR w0 w' (gRow gBat st).2/\KeepB w0.heap.size w w':=by
 have hz:w0.heap.size < w.heap.size:=by obtain⟨a,cap,hx,_⟩:=h.box;exact(Array.getElem?_eq_some_iff.1 hx).1
 have HN:Hid _:=cY w0 w st 2 2 rfl (by decide) (by decide) h
 have hn:(gN 2 st).1 < 65536:=bL 2 st h.byt
 have HG:Hid (gRow gBat st=gL gBat (gN 2 st).1 (gN 2 st).2):=rfl
 have HBD:Hid ((gN 2 st).2=none->(gN 2 st).1=0):=iI
 have HO:Hid (∀s x,RdR w0 x s->Calls Tryz.prog 63 #[.pointer (some ⟨w0.heap.size,0,none⟩)] x (BatP w0 x (gBat s).1 (gBat s).2)):=fun s x hx=>zY w0 x s ht hx
 have HPB:Hid ((gBat none).2=none):=rfl
 clear h
 generalize gRow gBat st=R at *
 generalize (gN 2 st).1=n at *
 generalize (gN 2 st).2=s0 at *
 have hnI:(n:Int) < 65536:=by omega
 go_enter Tryz.func62,Tryz.ntmps62
 go_wp2_with (go_at_call 17;refine Calls.mono HN.out ?_;rintro e w1 ⟨rfl,hw1,hk1⟩)
 go_loopw [4,8] (fun v i wr=>∃(k:Nat) (AA:List Bs) (s:Ls),k<=n/\i=.int .i64 k/\AA.length=k/\(s=none->n=0/\AA=[])/\R=gPre (AA.map (·.b)) (gL gBat (n - k) s)/\wr.ownsRow w.heap.size 88 5 v AA.length (bcv AA)/\RdR w0 wr s/\KeepB w0.heap.size w wr/\AllQ wr v AA/\LowQ wr AA) (fun _ i _=>n - (intOf i).toNat)
 case atStart=>exact⟨0,[],s0,by omega,rfl,rfl,fun e=>⟨HBD.out e,rfl⟩,by rw[HG.out];exact cZ HPB.out _ _,World.ownsRow_nil _ _ _ _,hw1,hk1,AllQ.nil _ _,fun s hs=>(by cases hs)⟩
 case round=>
  clear hw1 hk1
  obtain⟨k,AA,s,hk,rfl,hAl,hsn,hR,hown,hw1,hk1,hall,hlow⟩:=hrel
  by_cases hlt:k < n
  ·have hltI:(k:Int) < (n:Int):=by omega
   obtain⟨ls,rfl⟩:∃ls,s=some ls:=by
    cases s with
    | none=>have:=(hsn rfl).1;omega
    | some ls=>exact⟨ls,rfl⟩
   have HC:Hid (Calls Tryz.prog 63 #[.pointer (some ⟨w0.heap.size,0,none⟩)] wr (BatP w0 wr (gBat (some ls)).1 (gBat (some ls)).2)):=HO.out (some ls) wr hw1
   have HOWN:Hid (wr.ownsRow w.heap.size 88 5 u4 AA.length (bcv AA)):=hown
   have HK1:Hid (KeepB w0.heap.size w wr):=hk1
   have HNK:Hid (n - k=(n - (k+1))+1):=by show _=_;omega
   have HR1:Hid ((gBat (some ls)).2=none->R=([],none)):=fun e=>by rw[hR,HNK.out];exact eZ _ _ _ e
   have HR2:Hid (∀l2,(gBat (some ls)).2=some l2->R=gPre ((AA.map (·.b))++[(gBat (some ls)).1]) (gL gBat (n - (k+1)) (some l2))):=fun l2 e=>by rw[hR,HNK.out];exact dS _ _ _ _ e
   have HAL:Hid (AA.length=k):=hAl
   obtain⟨va,vn,vc,rfl⟩:∃va vn vc,u4=.slice va vn vc:=by
    rcases hown.2 with⟨rfl,_⟩ | ⟨g,cap,cur,rfl,_⟩
    ·exact⟨_,_,_,rfl⟩
    ·exact⟨_,_,_,rfl⟩
   have HALL:Hid (AllQ wr (.slice va vn vc) AA):=hall
   have HLOW:Hid (LowQ wr AA):=hlow
   have HRW:Hid (RdR w0 wr (some ls)):=hw1
   have HOKQ:Hid (∀l2,(gBat (some ls)).2=some l2->∀y a c,RRow y a (gBat (some ls)).1.rs->(a=none->c=0)->BaOk y (gBat (some ls)).1 a c):=fun l2 e y a c hr hn=>(by obtain⟨q1,q2⟩:=uS e;rw[q2] at hr ⊢;exact rI q1 hw1.byt a c hr hn)
   have HPOS:Hid (∀l2,(gBat (some ls)).2=some l2->0 < (gBat (some ls)).1.rs.length):=fun l2 e=>(by obtain⟨q1,q2⟩:=uS e;rw[q2];exact rP q1)
   have HVL:Hid (∀k,(Value.slice va vn vc).ownBlock=some k->k < wr.heap.size):=fun k hk=>(HOWN.out.lt k hk).2
   clear hall hlow
   clear hR hown hw1 hk1 HO hsn hAl HBD HG HPB
   generalize hs2:(gBat (some ls)).2=s2 at *
   generalize (gBat (some ls)).1=xx at *
   obtain⟨x0,x1,x2,x3,xr⟩:=xx
   obtain⟨nx,HNX⟩:∃nx,Hid (xr.length=nx):=⟨_,rfl⟩
   cases s2 with
   | none=>
    have HRN:Hid (R=([],none)):=HR1.out rfl
    go_wp2_with (go_at_call 63;refine Calls.mono HC.out ?_;rintro e w2 ⟨ax,cx,rfl,hrx,hnx,hnew,hw2,hk2⟩;simp only[bav];rw[HNX.out];obtain⟨b0,bc,hbx,_⟩:=hw2.box;have d1:=(aB hbx 1).1;simp only[List.getElem?_toArray,List.getElem?_cons_zero,List.getElem?_cons_succ,Option.isNone_none] at d1;have hz2:w0.heap.size < w2.heap.size:=(Array.getElem?_eq_some_iff.1 hbx).1;clear hbx)
    go_ret
    rw[HRN.out]
    exact⟨⟨none,0,[],rfl,⟨fun i hi=>(by simp at hi),fun i hi=>(by simp at hi)⟩,rfl,fun _=>rfl,fun g hg=>(by cases hg)⟩,hw2.below (aA _),(HK1.out.trans hk2).trans (KeepB.of_below (aA _))⟩
   | some l2=>
    have HRS:=HR2.out l2 rfl
    have HRR2:Hid _:=HRS
    clear HR1 HR2 HRS
    go_wp2_with (first
     | (go_at_call 63;refine Calls.mono HC.out ?_;rintro e w2 ⟨ax,cx,rfl,hrx,hnx,hnew,hw2,hk2⟩;simp only[bav];rw[HNX.out];obtain⟨b0,bc,hbx,_⟩:=hw2.box;have d1:=(aB hbx 1).1;simp only[List.getElem?_toArray,List.getElem?_cons_zero,List.getElem?_cons_succ,Option.isNone_some] at d1;have hz2:w0.heap.size < w2.heap.size:=(Array.getElem?_eq_some_iff.1 hbx).1;have HW2:Hid (RdR w0 w2 (some l2)):=hw2;have HK2:Hid (KeepB w0.heap.size w w2):=HK1.out.trans hk2;have HOW2:Hid (w2.ownsRow w.heap.size 88 5 (.slice va vn vc) AA.length (bcv AA)):=bU HOWN.out hk2 hz;have hbb:Below w2.heap.size w2 ((w2.alloc (.cells #[.int .i64 x0,.int .i64 x1,.int .i64 x2,.int .i64 x3,.slice ax nx cx] 88)).alloc (.cells #[.int .i64 x0,.int .i64 x1,.int .i64 x2,.int .i64 x3,.slice ax nx cx] 88)):=((aA _).trans ((aA _).mono (by simp)));have HOW3:Hid (((w2.alloc (.cells #[.int .i64 x0,.int .i64 x1,.int .i64 x2,.int .i64 x3,.slice ax nx cx] 88)).alloc (.cells #[.int .i64 x0,.int .i64 x1,.int .i64 x2,.int .i64 x3,.slice ax nx cx] 88)).ownsRow w.heap.size 88 5 (.slice va vn vc) AA.length (bcv AA)):=bY HOW2.out hbb;have HLE3:Hid (w.heap.size<=((w2.alloc (.cells #[.int .i64 x0,.int .i64 x1,.int .i64 x2,.int .i64 x3,.slice ax nx cx] 88)).alloc (.cells #[.int .i64 x0,.int .i64 x1,.int .i64 x2,.int .i64 x3,.slice ax nx cx] 88)).heap.size):=(by show _<=_;have:=HK2.out.size;simp;omega);have HNEW:Hid (((w2.alloc (.cells #[.int .i64 x0,.int .i64 x1,.int .i64 x2,.int .i64 x3,.slice ax nx cx] 88)).alloc (.cells #[.int .i64 x0,.int .i64 x1,.int .i64 x2,.int .i64 x3,.slice ax nx cx] 88)).heap[w2.heap.size+1]? = some (.cells (List.toArray [Value.int .i64 x0,Value.int .i64 x1,Value.int .i64 x2,Value.int .i64 x3,Value.slice ax nx cx]) 88 (0,0))):=(by have q:=heap_alloc_new (w2.alloc (.cells #[.int .i64 x0,.int .i64 x1,.int .i64 x2,.int .i64 x3,.slice ax nx cx] 88)) (.cells #[.int .i64 x0,.int .i64 x1,.int .i64 x2,.int .i64 x3,.slice ax nx cx] 88);rw[show(w2.alloc (.cells #[.int .i64 x0,.int .i64 x1,.int .i64 x2,.int .i64 x3,.slice ax nx cx] 88)).heap.size=w2.heap.size+1 by simp] at q;exact q);have HBK:Hid (BaOk ((w2.alloc (.cells #[.int .i64 x0,.int .i64 x1,.int .i64 x2,.int .i64 x3,.slice ax nx cx] 88)).alloc (.cells #[.int .i64 x0,.int .i64 x1,.int .i64 x2,.int .i64 x3,.slice ax nx cx] 88)) ⟨x0,x1,x2,x3,xr⟩ ax cx):=(HOKQ.out l2 rfl w2 ax cx hrx hnx).below hbb;have HAL2:Hid (AllQ ((w2.alloc (.cells #[.int .i64 x0,.int .i64 x1,.int .i64 x2,.int .i64 x3,.slice ax nx cx] 88)).alloc (.cells #[.int .i64 x0,.int .i64 x1,.int .i64 x2,.int .i64 x3,.slice ax nx cx] 88)) (.slice va vn vc) AA):=(AllQ.keepB HALL.out HRW.out hk2).below hbb;have HNW:Hid (∀g,ax=some g->wr.heap.size<=g.block/\g.block < ((w2.alloc (.cells #[.int .i64 x0,.int .i64 x1,.int .i64 x2,.int .i64 x3,.slice ax nx cx] 88)).alloc (.cells #[.int .i64 x0,.int .i64 x1,.int .i64 x2,.int .i64 x3,.slice ax nx cx] 88)).heap.size):=(fun g hg=>⟨hnew g hg,by have q1:=rE hrx (HPOS.out l2 rfl) hg;simp;omega⟩);have HLW:Hid (LowQ ((w2.alloc (.cells #[.int .i64 x0,.int .i64 x1,.int .i64 x2,.int .i64 x3,.slice ax nx cx] 88)).alloc (.cells #[.int .i64 x0,.int .i64 x1,.int .i64 x2,.int .i64 x3,.slice ax nx cx] 88)) AA):=(fun s hs g hg=>by have q1:=HLOW.out s hs g hg;have q2:=hk2.size;simp;omega);clear hrx hnew hnx hbb;clear hbx hw2 hk2 HC)
     | (at_builtin;refine kY (by rfl) _ _ 36 88 rfl _ 5 _ Tryz.underlying36 pS rfl (by decide) (by decide) w.heap.size _ _ _ rfl (HOW3.out) (HLE3.out) _ [Value.int .i64 x0,Value.int .i64 x1,Value.int .i64 x2,Value.int .i64 x3,Value.slice ax nx cx] rfl rfl (HNEW.out) ((by simp[Value.oneCell'])) (by rw[HAL.out];omega) ?_;intro v3 w3 ho3 hg3 hw3;have HO3:Hid (w3.ownsRow w.heap.size 88 5 v3 (AA.length+1) (bcv AA++[Value.int .i64 x0,Value.int .i64 x1,Value.int .i64 x2,Value.int .i64 x3,Value.slice ax nx cx])):=ho3;have HG3:Hid _:=hg3;have HW3:Hid _:=hw3;clear ho3 hg3 hw3))
    refine⟨⟨k+1,AA++[⟨⟨x0,x1,x2,x3,xr⟩,ax,cx⟩],some l2,by omega,by go_num,by rw[List.length_append,HAL.out];rfl,fun e=>(by cases e),by rw[List.map_append];exact HRR2.out,by rw[List.length_append,mN];have q:=HO3.out;rw[<-HNX.out] at q;exact q,?_,?_,?_,?_⟩,by simp[intOf];omega⟩
    ·exact(RdR.below (RdR.below HW2.out (aA _)) (aA _)).grown HG3.out HOW3.out hz
    ·exact bX (bN _ (bN _ HK2.out)) HOW3.out HG3.out (Nat.le_refl _)
    ·refine AllQ.grown (v:=.slice va vn vc) ?_ HG3.out HW3.out ?_
     ·intro s hs
      rcases List.mem_append.1 hs with q | q
      ·exact HAL2.out s q
      ·obtain rfl:s=⟨⟨x0,x1,x2,x3,xr⟩,ax,cx⟩:=by simpa using q
       refine⟨HBK.out,fun g hg q=>?_⟩
       have h1:=HVL.out _ q
       have h2:=(HNW.out g hg).1
       omega
     ·intro s hs
      rcases List.mem_append.1 hs with q | q
      ·exact HLW.out s q
      ·obtain rfl:s=⟨⟨x0,x1,x2,x3,xr⟩,ax,cx⟩:=by simpa using q
       exact fun g hg=>(HNW.out g hg).2
    ·intro s hs g hg
     refine Nat.lt_of_lt_of_le ?_ HG3.out.size
     rcases List.mem_append.1 hs with q | q
     ·exact HLW.out s q g hg
     ·obtain rfl:s=⟨⟨x0,x1,x2,x3,xr⟩,ax,cx⟩:=by simpa using q
      exact(HNW.out g hg).2
  ·obtain rfl:k=n:=by omega
   have HEND:Hid (s=none->AA=[]):=fun e=>(hsn e).2
   have HRE:Hid (R=((AA.map (·.b)),s)):=by
    show _=_
    rw[hR,Nat.sub_self]
    cases s with
    | none=>rw[(hsn rfl).2];rfl
    | some ls=>exact dX _ _
   clear hR hsn
   obtain⟨va,vc,rfl,hsr,hnn⟩:=mL hown
   have HSR:Hid (BRow wr va AA):=⟨hsr,hall.allB⟩
   have HNG:Hid (∀g,va=some g->w.heap.size<=g.block):=fA hown
   go_wp2_with fail
   go_ret
   rw[HRE.out]
   exact⟨⟨va,vc,AA,by rw[hAl];rfl,HSR.out,rfl,hnn,HNG.out⟩,hw1,hk1⟩
structure Pt where
 ra:Option Addr
 rc:Nat
 na:Option Addr
 nc:Nat
 ca:Option Addr
 cc:Nat
 ba:Option Addr
 bc:Nat
 bs:List Bs
def bdl (b:Bd) (p:Pt):List Value:=(List.range 20).map (fun i=>Value.int .i64 (b i).n)++((List.range 20).map (fun i=>Value.string (b i).t)++[.slice p.ra (b 11).rs.length p.rc,.slice p.na (b 17).nm.length p.nc,.slice p.ca (b 18).ct.length p.cc,.slice p.ba p.bs.length p.bc])
def bdc (b:Bd) (p:Pt):Array Value:=(bdl b p).toArray
theorem cR (b:Bd) (p:Pt):(bdc b p).size=44:=by simp[bdc,bdl]
theorem aHz (b:Bd) (p:Pt) (f:Nat) (h:f < 20):(bdc b p)[f]? = some (.int .i64 (b f).n):=by
 simp only[bdc,bdl,List.getElem?_toArray]
 rw[List.getElem?_append_left (by simpa using h)]
 simp[h]
theorem aHh (b:Bd) (p:Pt) (f:Nat) (h:f < 20):(bdc b p)[20+f]? = some (.string (b f).t):=by
 simp only[bdc,bdl,List.getElem?_toArray]
 rw[List.getElem?_append_right (by simp),List.getElem?_append_left (by simpa using h)]
 simp[h]
theorem aHs (b:Bd) (p:Pt):(bdc b p)[40]? = some (.slice p.ra (b 11).rs.length p.rc)/\(bdc b p)[41]? = some (.slice p.na (b 17).nm.length p.nc)/\(bdc b p)[42]? = some (.slice p.ca (b 18).ct.length p.cc)/\(bdc b p)[43]? = some (.slice p.ba p.bs.length p.bc):=by
 simp only[bdc,bdl,List.getElem?_toArray]
 refine⟨?_,?_,?_,?_⟩
 all_goals rw[List.getElem?_append_right (by simp),List.getElem?_append_right (by simp)];simp
theorem dZ {w:World} {x:Nat} {b:Bd} {p:Pt} (h:w.heap[x]? = some (.cells (bdc b p) 63 (0,0))) :
 (∀f,f < 20->w.cell? ⟨x,f,none⟩=some (.int .i64 (b f).n))/\(∀f,f < 20->w.cell? ⟨x,20+f,none⟩=some (.string (b f).t))/\w.cell? ⟨x,40,none⟩=some (.slice p.ra (b 11).rs.length p.rc)/\w.cell? ⟨x,41,none⟩=some (.slice p.na (b 17).nm.length p.nc)/\w.cell? ⟨x,42,none⟩=some (.slice p.ca (b 18).ct.length p.cc)/\w.cell? ⟨x,43,none⟩=some (.slice p.ba p.bs.length p.bc)/\x < w.heap.size:=by
 have hc:∀j,w.cell? ⟨x,j,none⟩=(bdc b p)[j]?:=fun j=>(aB h j).1
 obtain⟨r0,r1,r2,r3⟩:=aHs b p
 exact⟨fun f hf=>by rw[hc,aHz b p f hf],fun f hf=>by rw[hc,aHh b p f hf],by rw[hc,r0],by rw[hc,r1],by rw[hc,r2],by rw[hc,r3],(Array.getElem?_eq_some_iff.1 h).1⟩
theorem cO (f:Nat) (w:World):Calls Tryz.prog 54 #[.int .i64 (f:Int)] w fun e w'=>e=.returned (.int .i64 ((kd f:Nat):Int))/\w'=w:=by
 obtain⟨K,HK⟩:∃K,Hid (kd f=K):=⟨_,rfl⟩
 rw[HK.out]
 go_enter Tryz.func54,Tryz.ntmps54
 go_wp2
 all_goals
  go_ret
  refine⟨cN ?_,rfl⟩
  rw[<-HK.out]
  unfold kd
  grind
theorem sQ (f:Nat):(kd f=3->f=11)/\(kd f=4->f=17)/\(kd f=5->f=18)/\(kd f=6->f=19):=by
 unfold kd
 grind
theorem aEn (b:Bd) (p:Pt) (f:Nat) (w:World) (hf:f < 20) (hb:p.bs.length=(b 19).bs.length) :
 Calls Tryz.prog 69 #[.agg (bdc b p),.int .i64 (f:Int)] w fun e w'=>e=.returned (.bool (hasK (kd f) (b f)))/\Below w.heap.size w w':=by
 have HK:Hid (∀x,Calls Tryz.prog 54 #[.int .i64 (f:Int)] x fun e w'=>e=.returned (.int .i64 ((kd f:Nat):Int))/\w'=x):=fun x=>cO f x
 have hx:(w.alloc (.cells (bdc b p) 63)).heap[w.heap.size]? = some (.cells (bdc b p) 63 (0,0)):=heap_alloc_new w _
 obtain⟨cn,ct,c0,c1,c2,c3,_⟩:=dZ hx
 have cnf:=cn f hf
 have ctf:=ct f hf
 have hfI:(f:Int) < 20:=by omega
 have HB:Hid (p.bs.length=(b 19).bs.length):=hb
 obtain⟨k3,k4,k5,k6⟩:=sQ f
 clear cn ct hx hb
 generalize bdc b p=cs at *
 rcases dJ f with e | e | e | e | e | e | e
 ·rw[e] at HK ⊢
  clear c0 c1 c2 c3 k3 k4 k5 k6 e
  generalize b f=v at *
  go_enter Tryz.func69,Tryz.ntmps69
  go_wp2_with (go_at_call 54;refine(HK.out _).mono ?_;rintro e w' ⟨rfl,rfl⟩)
  go_ret
  refine⟨jA ?_,aA _⟩
  simp[hasK,bne]
 ·rw[e] at HK ⊢
  clear c0 c1 c2 c3 k3 k4 k5 k6 e
  generalize b f=v at *
  go_enter Tryz.func69,Tryz.ntmps69
  go_wp2_with (go_at_call 54;refine(HK.out _).mono ?_;rintro e w' ⟨rfl,rfl⟩)
  go_ret
  refine⟨jA ?_,aA _⟩
  simp[hasK,bne]
 ·rw[e] at HK ⊢
  clear c0 c1 c2 c3 k3 k4 k5 k6 e
  generalize b f=v at *
  go_enter Tryz.func69,Tryz.ntmps69
  go_wp2_with (go_at_call 54;refine(HK.out _).mono ?_;rintro e w' ⟨rfl,rfl⟩)
  go_ret
  refine⟨jA ?_,aA _⟩
  have q:=jY v.t
  simp only[hasK,if_true]
  rw[q]
  rfl
 ·obtain rfl:=k3 e
  rw[e] at HK ⊢
  clear c1 c2 c3 k3 k4 k5 k6 e
  generalize b 11=v at *
  go_enter Tryz.func69,Tryz.ntmps69
  go_wp2_with (go_at_call 54;refine(HK.out _).mono ?_;rintro e w' ⟨rfl,rfl⟩)
  go_ret
  refine⟨jA ?_,aA _⟩
  simp[hasK]
 ·obtain rfl:=k4 e
  rw[e] at HK ⊢
  clear c0 c2 c3 k3 k4 k5 k6 e
  generalize b 17=v at *
  go_enter Tryz.func69,Tryz.ntmps69
  go_wp2_with (go_at_call 54;refine(HK.out _).mono ?_;rintro e w' ⟨rfl,rfl⟩)
  go_ret
  refine⟨jA ?_,aA _⟩
  simp[hasK]
 ·obtain rfl:=k5 e
  rw[e] at HK ⊢
  clear c0 c1 c3 k3 k4 k5 k6 e
  generalize b 18=v at *
  go_enter Tryz.func69,Tryz.ntmps69
  go_wp2_with (go_at_call 54;refine(HK.out _).mono ?_;rintro e w' ⟨rfl,rfl⟩)
  go_ret
  refine⟨jA ?_,aA _⟩
  simp[hasK]
 ·obtain rfl:=k6 e
  rw[e] at HK ⊢
  clear c0 c1 c2 k3 k4 k5 k6 e
  generalize b 19=v at *
  go_enter Tryz.func69,Tryz.ntmps69
  go_wp2_with (go_at_call 54;refine(HK.out _).mono ?_;rintro e w' ⟨rfl,rfl⟩)
  go_ret
  refine⟨jA ?_,aA _⟩
  rw[HB.out]
  simp[hasK]
def FRow (w:World) (a:Option Addr) (r:List Nat):Prop:=∀i,i < r.length->∃b off,a=some ⟨b,off,none⟩/\w.cell? ⟨b,off+i,none⟩=some (.int .i64 ((r.getD i 0:Nat):Int))
theorem FRow.below {w w':World} {a:Option Addr} {r:List Nat} (h:FRow w a r) (hb:Below w.heap.size w w'):FRow w' a r:=by
 intro i hi
 obtain⟨b,off,e,h0⟩:=h i hi
 exact⟨b,off,e,(hb.cell (World.block_lt_of_cell? _ _ h0)).trans h0⟩
theorem mD {r:List Nat} {f:Nat} (h:∀j,j < r.length->r.getD j 0≠f):r.contains f=false:=by
 rw[List.contains_eq_mem,decide_eq_false_iff_not]
 intro hm
 obtain⟨i,hi,e⟩:=List.getElem_of_mem hm
 exact h i hi (by simp[List.getD,hi,e])
theorem nN {r:List Nat} {f k:Nat} (hk:k < r.length) (h:r.getD k 0=f):r.contains f=true:=by
 rw[List.contains_eq_mem,decide_eq_true_eq,<-h]
 simp[List.getD,hk]
theorem wU (a:Option Addr) (cap:Nat) (r:List Nat) (f:Nat) (w:World) (hr:FRow w a r) (hl:r.length<=1000) :
 Calls Tryz.prog 90 #[.slice a r.length cap,.int .i64 (f:Int)] w fun e w'=>(∃z:Int,e=.returned (.int .i64 z)/\decide (z ≥ 0)=r.contains f)/\w'=w:=by
 have hlI:(r.length:Int)<=1000:=by omega
 go_enter Tryz.func90,Tryz.ntmps90
 go_wp2
 go_loopw [8] (fun i wr=>∃k:Nat,k<=r.length/\i=.int .i64 k/\wr=w/\∀j,j < k->r.getD j 0≠f) (fun i _=>r.length - (intOf i).toNat)
 case atStart=>exact⟨0,by omega,rfl,rfl,by intro j hj;omega⟩
 case round=>
  obtain⟨k,hk,rfl,rfl,hs⟩:=hrel
  by_cases hlt:k < r.length
  ·have hltI:(k:Int) < (r.length:Int):=by omega
   obtain⟨b,off,rfl,z0⟩:=hr k hlt
   have HS:Hid (∀j,j < k->r.getD j 0≠f):=hs
   have HT:Hid (r.getD k 0=f->r.contains f=true):=nN hlt
   have HQ:Hid (r.getD k 0≠f->∀j,j < k+1->r.getD j 0≠f):=fun e j hj=>by
    by_cases hjk:j=k
    ·subst hjk;exact e
    ·exact HS.out j (by omega)
   clear hs hr
   generalize r.getD k 0=x at *
   by_cases hx:x=f
   ·have e1:((f:Int) == (x:Int))=true:=by rw[hx];simp
    go_wp2_with fail
    go_ret
    exact⟨⟨_,rfl,by rw[HT.out hx,decide_eq_true (by omega)]⟩,rfl⟩
   ·have e1:((f:Int) == (x:Int))=false:=by simp;omega
    have HX:Hid (x≠f):=hx
    have hx2:¬(f:Int)=(x:Int):=by omega
    clear hx
    go_wp2_with fail
    exact⟨⟨k+1,by omega,by go_num,by first | rfl | trivial,HQ.out HX.out⟩,by simp[intOf];omega⟩
  ·obtain rfl:k=r.length:=by omega
   have HS:Hid (r.contains f=false):=mD hs
   clear hs hr
   go_wp2_with fail
   go_ret
   exact⟨⟨_,rfl,by rw[HS.out];rfl⟩,rfl⟩
theorem pK (a:Option Addr) (cap:Nat) (r:List Nat) (f:Nat) (w:World) (hr:FRow w a r) (hl:r.length<=1000) :
 Calls Tryz.prog 70 #[.slice a r.length cap,.int .i64 (f:Int)] w fun e w'=>e=.returned (.bool (r.contains f))/\w'=w:=by
 have HI:Hid _:=wU a cap r f w hr hl
 go_enter Tryz.func70,Tryz.ntmps70
 go_wp2_with (go_at_call 90;refine Calls.mono HI.out ?_;rintro e w' ⟨⟨z,rfl,hz⟩,rfl⟩;have HZ:Hid _:=hz;clear hz)
 go_ret
 exact⟨jA HZ.out,rfl⟩
theorem Tryz.info63:(Tryz.prog.info? 63).map (·.size)=some 44:=by kernel_rfl
theorem jI {P:Program} {ops:Array Oper} {rest:List Oper} {o:Oper} {a:Act} {w:World} {Q:Exit->Act->World->Prop} (hgd:Region.wanted o (yielded ops a.tmps)=true) (ty:TypeId) (x:Operand) (ho:o.op=.load ty x)
 (g:Nat) (hx:a.eval x=.pointer (some ⟨g,0,none⟩)) (t:TypeId) (cs:Array Value) (fr:Nat × Nat) (d:TypeDesc) (hg:w.heap[g]? = some (.cells cs t fr))
 (hu:P.underlying ty=some d) (hd:(match d with | .struct _ | .array _ _=>true | _=>false)=true) (hi:(P.info? ty).map (·.size)=some cs.size)
 (h:wpList P ops Q rest (a.put o.dst (.agg cs)) w):wpList P ops Q (o::rest) a w:=
 wpList_step fun K hK=>by rw[if_pos hgd];exact wp_load_row ty x ho g hx t cs fr d hg hu hd hi (hK _ _ h)
theorem mR {g:Nat->Bool} {k n:Nat} (hk:k < n) (h:g k=true):(List.range n).any g=true:=by
 rw[List.any_eq_true]
 exact⟨k,by simpa using hk,h⟩
theorem lQ {g:Nat->Bool} {n:Nat} (h:∀k,k < n->g k=false):(List.range n).any g=false:=by
 rw[List.any_eq_false]
 intro k hk
 simp[h k (by simpa using hk)]
theorem pZ (b:Bd) (p:Pt) (a:Option Addr) (cap:Nat) (r:List Nat) (w:World) (hb:p.bs.length=(b 19).bs.length) (hr:FRow w a r) (hl:r.length<=1000) :
 Calls Tryz.prog 46 #[.agg (bdc b p),.slice a r.length cap] w fun e w'=>e=.returned (.bool (moreB b r))/\Below w.heap.size w w':=by
 have HH:Hid (∀(k:Nat) x,k < 20->Calls Tryz.prog 69 #[.agg (bdc b p),.int .i64 (k:Int)] x fun e w'=>e=.returned (.bool (hasK (kd k) (b k)))/\Below x.heap.size x w'):=fun k x hk=>aEn b p k x hk hb
 have HC:Hid (∀(k:Nat) x,FRow x a r->Calls Tryz.prog 70 #[.slice a r.length cap,.int .i64 (k:Int)] x fun e w'=>e=.returned (.bool (r.contains k))/\w'=x):=fun k x hx=>pK a cap r k x hx hl
 have HX0:Hid ((w.alloc (.cells (bdc b p) 63)).heap[w.heap.size]? = some (.cells (bdc b p) 63 (0,0))):=heap_alloc_new w _
 have HZ:Hid ((bdc b p).size=44):=cR b p
 have HR:Hid (FRow w a r):=hr
 have HT:Hid (∀k:Nat,k < 20->(hasK (kd k) (b k) && !r.contains k)=true->moreB b r=true):=fun k hk e=>mR hk e
 have HF:Hid ((∀k:Nat,k < 20->(hasK (kd k) (b k) && !r.contains k)=false)->moreB b r=false):=fun e=>lQ e
 clear hr hb
 generalize moreB b r=M at *
 generalize bdc b p=cs at *
 obtain⟨G,HG⟩:∃G:Nat->Bool,Hid (∀k,hasK (kd k) (b k)=G k):=⟨_,fun _=>rfl⟩
 simp only[HG.out] at HH HT HF
 clear HG
 go_enter Tryz.func46,Tryz.ntmps46
 go_wp2_with fail
 go_loopw [6] (fun i wr=>∃k:Nat,k<=20/\i=.int .i64 k/\wr.heap[w.heap.size]? = some (.cells cs 63 (0,0))/\Below w.heap.size w wr/\∀j,j < k->(G j && !r.contains j)=false) (fun i _=>20 - (intOf i).toNat)
 case atStart=>exact⟨0,by omega,rfl,HX0.out,aA _,by intro j hj;omega⟩
 case round=>
  obtain⟨k,hk,rfl,hx,hbl,hs⟩:=hrel
  have HX:Hid (wr.heap[w.heap.size]? = some (.cells cs 63 (0,0))):=hx
  have HBL:Hid (Below w.heap.size w wr):=hbl
  have HS:Hid (∀j,j < k->(G j && !r.contains j)=false):=hs
  clear hx hbl hs
  by_cases hlt:k < 20
  ·have hltI:(k:Int) < 20:=by omega
   have H1:Hid (Calls Tryz.prog 69 #[.agg cs,.int .i64 (k:Int)] wr fun e w'=>e=.returned (.bool (G k))/\Below wr.heap.size wr w'):=HH.out k wr hlt
   have H2:Hid (∀x,FRow x a r->Calls Tryz.prog 70 #[.slice a r.length cap,.int .i64 (k:Int)] x fun e w'=>e=.returned (.bool (r.contains k))/\w'=x):=HC.out k
   have HT1:Hid ((G k && !r.contains k)=true->M=true):=HT.out k hlt
   have HQ:Hid ((G k && !r.contains k)=false->∀j,j < k+1->(G j && !r.contains j)=false):=fun e j hj=>by
    by_cases hjk:j=k
    ·subst hjk;exact e
    ·exact HS.out j (by omega)
   clear HH HC HT HF HS
   generalize r.contains k=c at *
   generalize G k=g at *
   cases g with
   | false=>
    go_wp2_with (first
     | (go_at_call 69;refine Calls.mono H1.out ?_;rintro e w1 ⟨rfl,hb1⟩;have HB1:Hid (Below w.heap.size w w1):=HBL.out.trans (hb1.mono HBL.out.size);have HX1:Hid (w1.heap[w.heap.size]? = some (.cells cs 63 (0,0))):=(hb1.block _ (Array.getElem?_eq_some_iff.1 HX.out).1).trans HX.out;clear hb1 H1)
     | (have _h:=H1;refine wpList_load_row rfl 63 _ rfl w.heap.size rfl 63 cs (0,0) _ HX.out Tryz.underlying63 rfl (by rw[HZ.out];exact Tryz.info63) ?_;clear _h))
    exact⟨⟨k+1,by omega,by go_num,HX1.out,HB1.out,HQ.out rfl⟩,by simp[intOf];omega⟩
   | true=>
    cases c with
    | false=>
     go_wp2_with (first
      | (go_at_call 69;refine Calls.mono H1.out ?_;rintro e w1 ⟨rfl,hb1⟩;have HB1:Hid (Below w.heap.size w w1):=HBL.out.trans (hb1.mono HBL.out.size);clear hb1 H1)
      | (go_at_call 70;refine(H2.out _ (FRow.below HR.out HB1.out)).mono ?_;rintro e w2 ⟨rfl,rfl⟩)
      | (have _h:=H1;refine wpList_load_row rfl 63 _ rfl w.heap.size rfl 63 cs (0,0) _ HX.out Tryz.underlying63 rfl (by rw[HZ.out];exact Tryz.info63) ?_;clear _h))
     go_ret
     exact⟨by rw[HT1.out rfl];rfl,HB1.out⟩
    | true=>
     go_wp2_with (first
      | (go_at_call 69;refine Calls.mono H1.out ?_;rintro e w1 ⟨rfl,hb1⟩;have HB1:Hid (Below w.heap.size w w1):=HBL.out.trans (hb1.mono HBL.out.size);have HX1:Hid (w1.heap[w.heap.size]? = some (.cells cs 63 (0,0))):=(hb1.block _ (Array.getElem?_eq_some_iff.1 HX.out).1).trans HX.out;clear hb1 H1)
      | (go_at_call 70;refine(H2.out _ (FRow.below HR.out HB1.out)).mono ?_;rintro e w2 ⟨rfl,rfl⟩)
      | (have _h:=H1;refine wpList_load_row rfl 63 _ rfl w.heap.size rfl 63 cs (0,0) _ HX.out Tryz.underlying63 rfl (by rw[HZ.out];exact Tryz.info63) ?_;clear _h))
     exact⟨⟨k+1,by omega,by go_num,HX1.out,HB1.out,HQ.out rfl⟩,by simp[intOf];omega⟩
  ·obtain rfl:k=20:=by omega
   rw[show(((20:Nat)):Int)=20 from rfl]
   have HFF:Hid (M=false):=HF.out HS.out
   clear HH HC HT HF HS
   go_wp2_with fail
   go_ret
   exact⟨by rw[HFF.out];rfl,HBL.out⟩
structure BdOk (w:World) (b:Bd) (p:Pt):Prop where
 tab:Tab w
 rs:RRow w p.ra (b 11).rs
 nm:SRow w p.na (b 17).nm
 ct:IRow w p.ca (b 18).ct
 bs:BRow w p.ba p.bs
 bb:p.bs.map (·.b)=(b 19).bs
 lr:(b 11).rs.length<=100000
 ln:(b 17).nm.length<=100000
 lc:(b 18).ct.length<=100000
 lb:p.bs.length<=100000
 rok:∀i,i < (b 11).rs.length->In64 ((b 11).rs.getD i rz).t/\((b 11).rs.getD i rz).k.size<=9223372036854775807/\((b 11).rs.getD i rz).v.size<=9223372036854775807
 nok:∀i,i < (b 17).nm.length->((b 17).nm.getD i ⟨#[]⟩).size<=9223372036854775807
 tx:∀f,(b f).t.size<=9223372036854775807
 fl:In64 (b 7).n
theorem BdOk.below {w w':World} {b:Bd} {p:Pt} (h:BdOk w b p) (hb:Below w.heap.size w w'):BdOk w' b p:=
 ⟨h.tab.below hb,h.rs.below hb,h.nm.below hb,h.ct.below hb,⟨h.bs.1.below hb,h.bs.2.below hb⟩,h.bb,h.lr,h.ln,h.lc,h.lb,h.rok,h.nok,h.tx,h.fl⟩
theorem BdOk.len {w:World} {b:Bd} {p:Pt} (h:BdOk w b p):p.bs.length=(b 19).bs.length:=by rw[<-h.bb,List.length_map]
def CB:Nat:=14000000100
theorem zF (b:Bd) (l:List Nat) (f:Nat):eFs b (l++[f])=oa (eFs b l) (eK (kd f) (b f)):=by
 induction l with
 | nil=>simp[eFs,iH,sS]
 | cons x r ih=>simp only[List.cons_append,eFs,ih,eB]
theorem yZ (b:Bd) (r:List Nat) (k:Nat) (hk:k < r.length):eFs b (r.take (k+1))=oa (eFs b (r.take k)) (eK (kd (r.getD k 0)) (b (r.getD k 0))):=by
 rw[List.take_succ_eq_append_getElem hk,zF]
 simp[List.getD,hk]
theorem nO (w0 w:World) (st s1 st2:Ls) (N:Nat) (cs:Array Value) (a:Option Addr) (cap:Nat) (r:List Nat) (S:Nat->Ls) (m bad cc:Bool) (hz:cs.size=44) (hlen:r.length<=7) (hN:N<=1000000000)
 (hbad:bad=st.isNone) (hcc:cc=s1.isNone) (hc:cc=(bad || m)) (hst:∀L,s1=some L->st=some L)
 (HS0:Hid (s1=S 0)) (HSA:Hid (S r.length=st2)) (HR:Hid (FRow w0 a r)) (h:WrS w0 w st N)
 (HM:Hid (∀x,FRow x a r->Calls Tryz.prog 46 #[.agg cs,.slice a r.length cap] x fun e w'=>e=.returned (.bool m)/\Below x.heap.size x w'))
 (HL:Hid (∀k x M,k < r.length->M<=100000000000->WrS w0 x (S k) M->Calls Tryz.prog 47 #[.pointer (some ⟨w0.heap.size,0,none⟩),.agg cs,.int .i64 ((r.getD k 0:Nat):Int)] x (WP w0 x (S (k+1)) (M+CB)))) :
 Calls Tryz.prog 31 #[.pointer (some ⟨w0.heap.size,0,none⟩),.agg cs,.slice a r.length cap] w (WP w0 w st2 (N+r.length * CB)):=by
 obtain⟨a0,n0,c0,q0,q1,q2,q3,q4⟩:=h.open
 rw[<-hbad] at q1
 have HNE:Hid (w.heap.size≠w0.heap.size):=by show _≠_;omega
 have hne1:¬w0.heap.size=w.heap.size:=by omega
 have hne2:¬w.heap.size=w0.heap.size:=by omega
 have hlI:(r.length:Int)<=7:=by omega
 have HH:Hid (WrS w0 w st N):=h
 have HST:Hid (cc=s1.isNone/\∀L,s1=some L->st=some L):=⟨hcc,hst⟩
 have HZ:Hid (cs.size=44):=hz
 have HLN:Hid (r.length<=7):=hlen
 have HNN:Hid (N<=1000000000):=hN
 clear hbad hcc hst h hz hN
 cases bad
 ·have HX0:Hid ((w.alloc (.cells cs 63)).heap[w.heap.size]? = some (.cells cs 63 (0,0))):=heap_alloc_new w _
  have HB0:Hid (Below w.heap.size w (w.alloc (.cells cs 63))):=aA _
  have HF0:Hid (FRow (w.alloc (.cells cs 63)) a r):=(FRow.below HR.out HH.out.bel).below (aA _)
  obtain rfl:cc=m:=by rw[hc];rfl
  clear hc
  have tok:=trivial
  go_enter Tryz.func31,Tryz.ntmps31
  go_wp2_with (first
   | (go_at_call 46;refine(HM.out _ HF0.out).mono ?_;rintro e w1 ⟨rfl,hb1⟩;have HB1:Hid (Below w.heap.size w w1):=HB0.out.trans (hb1.mono HB0.out.size);have hS1:=WrS.setBad (HH.out.below HB1.out) s1 cc HST.out.1 HST.out.2;have HS1:Hid (WrS w0 (w1.setCell ⟨w0.heap.size,1,none⟩ (.bool cc)) s1 N):=hS1.1;have HK1:Hid (KeepT w0.heap.size w (w1.setCell ⟨w0.heap.size,1,none⟩ (.bool cc))):=(KeepT.of_below HB1.out).trans hS1.2;have HX1:Hid ((w1.setCell ⟨w0.heap.size,1,none⟩ (.bool cc)).heap[w.heap.size]? = some (.cells cs 63 (0,0))):=hS1.2.box ((hb1.block _ (Array.getElem?_eq_some_iff.1 HX0.out).1).trans HX0.out) HNE.out (by decide);obtain⟨d0,d1,d2,d3,d4,d5,d6,d7⟩:=WrS.open (HH.out.below HB1.out);clear hb1 hS1 HX0 HB0 tok)
   | (have _h:=tok;refine jI (by rfl) 63 _ rfl w.heap.size rfl 63 cs (0,0) _ HX0.out Tryz.underlying63 rfl (by rw[HZ.out];exact Tryz.info63) ?_;clear _h))
  go_loopw [22] (fun i wr=>∃k:Nat,k<=r.length/\i=.int .i64 k/\WrS w0 wr (S k) (N+k * CB)/\KeepT w0.heap.size w wr/\wr.heap[w.heap.size]? = some (.cells cs 63 (0,0))) (fun i _=>r.length - (intOf i).toNat)
  case atStart=>exact⟨0,by omega,rfl,by rw[<-HS0.out,Nat.zero_mul,Nat.add_zero];exact HS1.out,HK1.out,HX1.out⟩
  case round=>
   obtain⟨k,hk,rfl,hw1,hk1,hx1⟩:=hrel
   by_cases hlt:k < r.length
   ·have hltI:(k:Int) < (r.length:Int):=by omega
    have HW1:Hid (WrS w0 wr (S k) (N+k * CB)):=hw1
    have HX2:Hid (wr.heap[w.heap.size]? = some (.cells cs 63 (0,0))):=hx1
    obtain⟨b,off,rfl,z0⟩:=(FRow.below HR.out hw1.bel) k hlt
    have HC:Hid (Calls Tryz.prog 47 #[.pointer (some ⟨w0.heap.size,0,none⟩),.agg cs,.int .i64 ((r.getD k 0:Nat):Int)] wr (WP w0 wr (S (k+1)) (N+k * CB+CB))):=HL.out k wr _ hlt (by have:=HLN.out;have:=HNN.out;have:=Nat.mul_le_mul_right CB hk;have:=Nat.mul_le_mul_right CB HLN.out;unfold CB at *;omega) hw1
    clear hw1 hx1 HL
    generalize r.getD k 0=f at *
    go_wp2_with (first
     | (go_at_call 47;refine Calls.mono HC.out ?_;rintro e w2 ⟨rfl,hw2,hk2⟩;have HX3:Hid (w2.heap[w.heap.size]? = some (.cells cs 63 (0,0))):=hk2.box HX2.out HNE.out (by decide);clear HC)
     | (have _h:=HC;refine wpList_load_row rfl 63 _ rfl w.heap.size rfl 63 cs (0,0) _ HX2.out Tryz.underlying63 rfl (by rw[HZ.out];exact Tryz.info63) ?_;clear _h))
    exact⟨⟨k+1,by omega,by go_num,by rw[Nat.succ_mul,<-Nat.add_assoc];exact hw2,hk1.trans hk2,HX3.out⟩,by simp[intOf];omega⟩
   ·obtain rfl:k=r.length:=by omega
    go_wp2_with fail
    go_end0
    rw[<-HSA.out]
    exact⟨rfl,hw1,hk1⟩
 ·obtain rfl:cc=true:=by rw[hc];rfl
  clear hc
  have hS1:=WrS.setBad HH.out s1 true HST.out.1 HST.out.2
  have hsz:(w.setCell ⟨w0.heap.size,1,none⟩ (.bool true)).heap.size=w.heap.size:=by simp[World.setCell]
  have HS1:Hid (WrS w0 ((w.setCell ⟨w0.heap.size,1,none⟩ (.bool true)).alloc (.cells cs 63)) s1 N):=hS1.1.below (aA _)
  have HK1:Hid (KeepT w0.heap.size w ((w.setCell ⟨w0.heap.size,1,none⟩ (.bool true)).alloc (.cells cs 63))):=hS1.2.trans (KeepT.of_below (aA _))
  have HX1:Hid (((w.setCell ⟨w0.heap.size,1,none⟩ (.bool true)).alloc (.cells cs 63)).heap[w.heap.size]? = some (.cells cs 63 (0,0))):=by
   have q:=heap_alloc_new (w.setCell ⟨w0.heap.size,1,none⟩ (.bool true)) (.cells cs 63)
   rw[hsz] at q
   exact q
  clear hS1 hsz
  go_enter Tryz.func31,Tryz.ntmps31
  go_wp2_with fail
  go_loopw [22] (fun i wr=>∃k:Nat,k<=r.length/\i=.int .i64 k/\WrS w0 wr (S k) (N+k * CB)/\KeepT w0.heap.size w wr/\wr.heap[w.heap.size]? = some (.cells cs 63 (0,0))) (fun i _=>r.length - (intOf i).toNat)
  case atStart=>exact⟨0,by omega,rfl,by rw[<-HS0.out,Nat.zero_mul,Nat.add_zero];exact HS1.out,HK1.out,HX1.out⟩
  case round=>
   obtain⟨k,hk,rfl,hw1,hk1,hx1⟩:=hrel
   by_cases hlt:k < r.length
   ·have hltI:(k:Int) < (r.length:Int):=by omega
    have HW1:Hid (WrS w0 wr (S k) (N+k * CB)):=hw1
    have HX2:Hid (wr.heap[w.heap.size]? = some (.cells cs 63 (0,0))):=hx1
    obtain⟨b,off,rfl,z0⟩:=(FRow.below HR.out hw1.bel) k hlt
    have HC:Hid (Calls Tryz.prog 47 #[.pointer (some ⟨w0.heap.size,0,none⟩),.agg cs,.int .i64 ((r.getD k 0:Nat):Int)] wr (WP w0 wr (S (k+1)) (N+k * CB+CB))):=HL.out k wr _ hlt (by have:=HLN.out;have:=HNN.out;have:=Nat.mul_le_mul_right CB hk;have:=Nat.mul_le_mul_right CB HLN.out;unfold CB at *;omega) hw1
    clear hw1 hx1 HL
    generalize r.getD k 0=f at *
    go_wp2_with (first
     | (go_at_call 47;refine Calls.mono HC.out ?_;rintro e w2 ⟨rfl,hw2,hk2⟩;have HX3:Hid (w2.heap[w.heap.size]? = some (.cells cs 63 (0,0))):=hk2.box HX2.out HNE.out (by decide);clear HC)
     | (have _h:=HC;refine wpList_load_row rfl 63 _ rfl w.heap.size rfl 63 cs (0,0) _ HX2.out Tryz.underlying63 rfl (by rw[HZ.out];exact Tryz.info63) ?_;clear _h))
    exact⟨⟨k+1,by omega,by go_num,by rw[Nat.succ_mul,<-Nat.add_assoc];exact hw2,hk1.trans hk2,HX3.out⟩,by simp[intOf];omega⟩
   ·obtain rfl:k=r.length:=by omega
    go_wp2_with fail
    go_end0
    rw[<-HSA.out]
    exact⟨rfl,hw1,hk1⟩
theorem vC (w0 w:World) (st:Ls) (N:Nat) (b:Bd) (p:Pt) (f:Nat) (hf:f < 20) (e:kd f=2) (hN:N<=100000000000) (hok:BdOk w0 b p) (h:WrS w0 w st N) :
 Calls Tryz.prog 47 #[.pointer (some ⟨w0.heap.size,0,none⟩),.agg (bdc b p),.int .i64 (f:Int)] w (WP w0 w (oa st (eK (kd f) (b f))) (N+CB)):=by
 have HK:Hid (∀x,Calls Tryz.prog 54 #[.int .i64 (f:Int)] x fun e w'=>e=.returned (.int .i64 ((kd f:Nat):Int))/\w'=x):=fun x=>cO f x
 have hx:(w.alloc (.cells (bdc b p) 63)).heap[w.heap.size]? = some (.cells (bdc b p) 63 (0,0)):=heap_alloc_new w _
 obtain⟨cn,ct,c0,c1,c2,c3,_⟩:=dZ hx
 have cnf:=cn f hf
 have ctf:=ct f hf
 have hfI:(f:Int) < 20:=by omega
 have h1:WrS w0 (w.alloc (.cells (bdc b p) 63)) st N:=h.below (aA _)
 have HW:Hid (KeepT w0.heap.size w (w.alloc (.cells (bdc b p) 63))):=KeepT.of_below (aA _)
 have fin:∀{s:Ls} {M:Nat} {e:Ending} {w':World},M<=N+CB->WP w0 (w.alloc (.cells (bdc b p) 63)) s M e w'->WP w0 w s (N+CB) e w':=fun hM q=>⟨q.1,q.2.1.mono hM,HW.out.trans q.2.2⟩
 have hz:Hid _:=h.open
 clear cn ct hx h HW
 have e2:eK (kd f) (b f)=eText (b f).t:=by rw[e];rfl
 have HC:Hid (Calls Tryz.prog 72 #[.pointer (some ⟨w0.heap.size,0,none⟩),.string (b f).t] (w.alloc (.cells (bdc b p) 63)) (WP w0 w (oa st (eK (kd f) (b f))) (N+CB))):=by
  rw[e2];exact(iT w0 _ st N _ (hok.tx f) (by omega) h1).mono fun _ _ q=>fin (by unfold CB;omega) q
 generalize oa st (eK (kd f) (b f))=st2 at *
 rw[e] at HK
 clear e e2 fin h1 hok
 generalize (b f).n=vn at *
 generalize (b f).t=vt at *
 generalize bdc b p=cs at *
 go_enter Tryz.func47,Tryz.ntmps47
 go_wp2_with (first
  | (go_at_call 54;refine(HK.out _).mono ?_;rintro e w1 ⟨rfl,rfl⟩)
  | (go_at_call 72;refine Calls.mono HC.out ?_;rintro e w2 ⟨rfl,hw2,hk2⟩))
 go_end0
 exact⟨rfl,hw2,hk2⟩
theorem vB (w0 w:World) (st:Ls) (N:Nat) (b:Bd) (p:Pt) (a:Option Addr) (cap:Nat) (r:List Nat) (hlen:r.length<=7) (hN:N<=1000000000) (hr:FRow w0 a r) (hf:∀f,f ∈ r->f < 20) (ht:∀f,f ∈ r->kd f=2) (hok:BdOk w0 b p) (h:WrS w0 w st N) :
 Calls Tryz.prog 31 #[.pointer (some ⟨w0.heap.size,0,none⟩),.agg (bdc b p),.slice a r.length cap] w (WP w0 w (if moreB b r=true then none else oa st (eFs b r)) (N+r.length * CB)):=by
 have HM:Hid (∀x,FRow x a r->Calls Tryz.prog 46 #[.agg (bdc b p),.slice a r.length cap] x fun e w'=>e=.returned (.bool (moreB b r))/\Below x.heap.size x w'):=fun x hx=>pZ b p a cap r x hok.len hx (by omega)
 have hfk:∀k,k < r.length->r.getD k 0 < 20:=fun k hk=>hf _ (by simp[List.getD,hk])
 have htk:∀k,k < r.length->kd (r.getD k 0)=2:=fun k hk=>ht _ (by simp[List.getD,hk])
 cases hm:moreB b r with
 | false=>
  rw[hm] at HM
  simp only[Bool.false_eq_true,if_false]
  refine nO w0 w st st _ N (bdc b p) a cap r (fun k=>oa st (eFs b (r.take k))) false st.isNone st.isNone (cR b p) hlen hN rfl rfl (by simp) (fun _ e=>e) ?_ ?_ hr h HM ?_
  ·show _=_;simp[eFs,iH]
  ·show _=_;simp
  ·intro k x M hk hM hx
   rw[yZ b r k hk,<-eB]
   exact vC w0 x _ M b p _ (hfk k hk) (htk k hk) hM hok hx
 | true=>
  rw[hm] at HM
  simp only[if_true]
  refine nO w0 w st none none N (bdc b p) a cap r (fun k=>none) true st.isNone true (cR b p) hlen hN rfl rfl (by simp) (fun _ e=>by cases e) ?_ ?_ hr h HM ?_
  ·rfl
  ·rfl
  ·intro k x M hk hM hx
   have q:=vC w0 x none M b p _ (hfk k hk) (htk k hk) hM hok hx
   rw[fV] at q
   exact q
structure BdX (w:World) (X:Nat) (b:Bd) (p:Pt):Prop where
 box:w.heap[X]? = some (.cells (bdc b p) 63 (0,0))
 rs:RRow w p.ra (b 11).rs
 nm:SRow w p.na (b 17).nm
 ct:IRow w p.ca (b 18).ct
 bs:BRow w p.ba p.bs
 bb:p.bs.map (·.b)=(b 19).bs
 n1:p.ra=none->p.rc=0
 o1:∀g,p.ra=some g->X < g.block
 o2:∀g,p.na=some g->X < g.block
 o3:∀g,p.ca=some g->X < g.block
 o4:∀g,p.ba=some g->X < g.block
theorem map_set {α:Type} (n f:Nat) (g:Nat->α) (v:α) (h:f < n):((List.range n).map g).set f v=(List.range n).map (fun i=>if i=f then v else g i):=by
 apply List.ext_getElem
 ·simp
 ·intro i h1 h2
  simp only[List.getElem_set,List.getElem_map,List.getElem_range]
  by_cases e:f=i
  ·subst e;simp
  ·simp[e,Ne.symm e]
theorem xR (b:Bd) (p:Pt) (f:Nat) (x:Int) (hf:f < 20) (hk:kd f=0∨kd f=1) (hb:b f=fz):bdc (setB b f (vn x)) p=(bdc b p).setIfInBounds f (.int .i64 x):=by
 have h11:f≠11/\f≠17/\f≠18:=by refine⟨?_,?_,?_⟩<;>rintro rfl<;>rcases hk with q | q<;>exact absurd q (by decide)
 unfold bdc bdl
 rw[List.setIfInBounds_toArray,List.set_append,if_pos (by simpa using hf),map_set 20 f _ _ hf]
 congr 1
 congr 1
 ·apply List.map_congr_left
  intro i _
  by_cases e:i=f
  ·subst e;simp[setB,vn]
  ·simp[setB,e]
 ·congr 1
  ·apply List.map_congr_left
   intro i _
   by_cases e:i=f
   ·subst e;simp[setB,vn,hb,fz]
   ·simp[setB,e]
  ·simp[setB,Ne.symm h11.1,Ne.symm h11.2.1,Ne.symm h11.2.2]
theorem aAo (b:Bd) (p:Pt) (f:Nat) (x:ByteArray) (hf:f<=1) (hb:b f=fz):bdc (setB b f (vt x)) p=(bdc b p).setIfInBounds (20+f) (.string x):=by
 have h11:f≠11/\f≠17/\f≠18:=by omega
 unfold bdc bdl
 rw[List.setIfInBounds_toArray,List.set_append,if_neg (by simp)]
 congr 1
 congr 1
 ·apply List.map_congr_left
  intro i _
  by_cases e:i=f
  ·subst e;simp[setB,vt,hb,fz]
  ·simp[setB,e]
 ·rw[show 20+f - (List.map (fun i=>Value.int IntKind.i64 (b i).n) (List.range 20)).length=f by simp,List.set_append,if_pos (by simp;omega),map_set 20 f _ _ (by omega)]
  congr 1
  ·apply List.map_congr_left
   intro i _
   by_cases e:i=f
   ·subst e;simp[setB,vt]
   ·simp[setB,e]
  ·simp[setB,Ne.symm h11.1,Ne.symm h11.2.1,Ne.symm h11.2.2]
theorem lY (b:Bd) (p p':Pt) (f:Nat) (v:Fv) (j:Nat) (sv:Value) (hn:v.n=0) (ht:v.t=⟨#[]⟩) (hb:b f=fz) (hj:j < 4)
 (h:[Value.slice p'.ra (setB b f v 11).rs.length p'.rc,.slice p'.na (setB b f v 17).nm.length p'.nc,.slice p'.ca (setB b f v 18).ct.length p'.cc,.slice p'.ba p'.bs.length p'.bc]=[Value.slice p.ra (b 11).rs.length p.rc,.slice p.na (b 17).nm.length p.nc,.slice p.ca (b 18).ct.length p.cc,.slice p.ba p.bs.length p.bc].set j sv):bdc (setB b f v) p'=(bdc b p).setIfInBounds (40+j) sv:=by
 unfold bdc bdl
 rw[List.setIfInBounds_toArray,List.set_append,if_neg (by simp;omega)]
 congr 1
 congr 1
 ·apply List.map_congr_left
  intro i _
  by_cases e:i=f
  ·subst e;simp[setB,hn,hb,fz]
  ·simp[setB,e]
 ·rw[List.set_append,if_neg (by simp;omega)]
  congr 1
  ·apply List.map_congr_left
   intro i _
   by_cases e:i=f
   ·subst e;simp[setB,ht,hb,fz]
   ·simp[setB,e]
  ·rw[h]
   congr 1
   simp
   omega
theorem lI {w:World} {X:Nat} {b:Bd} {p:Pt} {a:Option Addr} {rs:List Rc} (h:w.heap[X]? = some (.cells (bdc b p) 63 (0,0))) (hr:RRow w a rs):∀i,i < rs.length->∀bb off,a=some ⟨bb,off,none⟩->bb≠X:=by
 intro i hi bb off e
 rintro rfl
 obtain⟨b',off',e',h0,_⟩:=hr i hi
 rw[e] at e'
 simp only[Option.some.injEq,Addr.mk.injEq,and_true] at e'
 obtain⟨rfl,rfl⟩:=e'
 rw[(aB h _).1] at h0
 have hm:Value.bool (rs.getD i rz).hk ∈ (bdc b p).toList:=by
  rw[<-Array.getElem?_toList] at h0
  exact List.mem_of_getElem? h0
 simp[bdc,bdl] at hm
theorem dT {w w':World} {a:Option Addr} {ss:List ByteArray} (h:SRow w a ss) (hk:∀i,i < ss.length->∀b off,a=some ⟨b,off,none⟩->w'.heap[b]? = w.heap[b]?):SRow w' a ss:=by
 intro i hi
 obtain⟨b,off,e,h0⟩:=h i hi
 exact⟨b,off,e,(World.cell?_of_block (a:=⟨b,off+i,none⟩) (hk i hi b off e)).trans h0⟩
theorem dU {w w':World} {a:Option Addr} {ss:List Int} (h:IRow w a ss) (hk:∀i,i < ss.length->∀b off,a=some ⟨b,off,none⟩->w'.heap[b]? = w.heap[b]?):IRow w' a ss:=by
 intro i hi
 obtain⟨b,off,e,h0⟩:=h i hi
 exact⟨b,off,e,(World.cell?_of_block (a:=⟨b,off+i,none⟩) (hk i hi b off e)).trans h0⟩
theorem eT {w w':World} {a:Option Addr} {ss:List Bs} (h:BCells w a ss) (hk:∀i,i < ss.length->∀b off,a=some ⟨b,off,none⟩->w'.heap[b]? = w.heap[b]?):BCells w' a ss:=by
 intro i hi
 obtain⟨b,off,e,h0,h1,h2,h3,h4⟩:=h i hi
 have c:∀j,w'.cell? ⟨b,j,none⟩=w.cell? ⟨b,j,none⟩:=fun j=>World.cell?_of_block (a:=⟨b,j,none⟩) (hk i hi b off e)
 exact⟨b,off,e,(c _).trans h0,(c _).trans h1,(c _).trans h2,(c _).trans h3,(c _).trans h4⟩
theorem SRow.lt {w:World} {a:Option Addr} {ss:List ByteArray} (h:SRow w a ss) {i:Nat} (hi:i < ss.length) {b off:Nat} (e:a=some ⟨b,off,none⟩):b < w.heap.size:=by
 obtain⟨b',off',e',h0⟩:=h i hi
 rw[e] at e'
 simp only[Option.some.injEq,Addr.mk.injEq,and_true] at e'
 obtain⟨rfl,rfl⟩:=e'
 exact World.block_lt_of_cell? _ _ h0
theorem IRow.lt {w:World} {a:Option Addr} {ss:List Int} (h:IRow w a ss) {i:Nat} (hi:i < ss.length) {b off:Nat} (e:a=some ⟨b,off,none⟩):b < w.heap.size:=by
 obtain⟨b',off',e',h0⟩:=h i hi
 rw[e] at e'
 simp only[Option.some.injEq,Addr.mk.injEq,and_true] at e'
 obtain⟨rfl,rfl⟩:=e'
 exact World.block_lt_of_cell? _ _ h0
theorem BCells.lt {w:World} {a:Option Addr} {ss:List Bs} (h:BCells w a ss) {i:Nat} (hi:i < ss.length) {b off:Nat} (e:a=some ⟨b,off,none⟩):b < w.heap.size:=by
 obtain⟨b',off',e',h0,_⟩:=h i hi
 rw[e] at e'
 simp only[Option.some.injEq,Addr.mk.injEq,and_true] at e'
 obtain⟨rfl,rfl⟩:=e'
 exact World.block_lt_of_cell? _ _ h0
theorem BdX.keepB {w0 w w':World} {st:Ls} {X:Nat} {b:Bd} {p:Pt} (h:BdX w X b p) (hr:RdR w0 w st) (hX:w0.heap.size < X) (k:KeepB w0.heap.size w w'):BdX w' X b p:=by
 refine⟨k.box h.box (by omega),h.rs.keepB hr k,dT h.nm (fun i hi bb off e=>k.blk bb ?_ (h.nm.lt hi e)),dU h.ct (fun i hi bb off e=>k.blk bb ?_ (h.ct.lt hi e)),⟨eT h.bs.1 (fun i hi bb off e=>k.blk bb ?_ (h.bs.1.lt hi e)),fun i hi=>⟨(h.bs.2 i hi).1.keepB hr k,(h.bs.2 i hi).2⟩⟩,h.bb,h.n1,h.o1,h.o2,h.o3,h.o4⟩
 ·have:=h.o2 _ e;simp at this;omega
 ·have:=h.o3 _ e;simp at this;omega
 ·have:=h.o4 _ e;simp at this;omega
theorem BdX.rows {w:World} {X:Nat} {b:Bd} {p:Pt} (h:BdX w X b p) (i:Nat) (v:Value):RRow (w.setCell ⟨X,i,none⟩ v) p.ra (b 11).rs/\SRow (w.setCell ⟨X,i,none⟩ v) p.na (b 17).nm/\IRow (w.setCell ⟨X,i,none⟩ v) p.ca (b 18).ct/\BRow (w.setCell ⟨X,i,none⟩ v) p.ba p.bs:=by
 have hs:∀k,k≠X->(w.setCell ⟨X,i,none⟩ v).heap[k]? = w.heap[k]?:=fun k hk=>heap_setCell_other w ⟨X,i,none⟩ k v hk
 refine⟨bV h.rs (fun j hj bb off e=>hs bb (lI h.box h.rs j hj bb off e)),dT h.nm (fun j hj bb off e=>hs bb ?_),dU h.ct (fun j hj bb off e=>hs bb ?_),⟨eT h.bs.1 (fun j hj bb off e=>hs bb ?_),fun j hj=>⟨bV (h.bs.2 j hj).1 (fun j' hj' bb off e=>hs bb (lI h.box (h.bs.2 j hj).1 j' hj' bb off e)),(h.bs.2 j hj).2⟩⟩⟩
 ·have:=h.o2 _ e;simp at this;omega
 ·have:=h.o3 _ e;simp at this;omega
 ·have:=h.o4 _ e;simp at this;omega
end Go.Proofs.YtaooidckmepdeaaGreatDoor
