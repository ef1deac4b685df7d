/- Kk Kx Ky Kz Aw Ax Rg Ye -/
import Derived.Test.YtaooidckmepdeaaGreatDoorSkf
import Derived.BigQuiet
namespace Go.Proofs.YtaooidckmepdeaaGreatDoor
set_option linter.unusedSimpArgs false
set_option linter.unusedVariables false
set_option maxRecDepth 100000
set_option maxHeartbeats 6400000
open Go.RowKit
theorem nJ (kind code:Int) (w:World):Calls Tryz.prog 26 #[.int .i64 kind,.int .i64 code] w (RowP (ansRow kind code) w):=by
 have HR:Hid (Calls Tryz.prog 18 #[.int .i64 1,.int .i64 kind] w (RowP (rowA kind) w)):=kS 1 kind (.inr rfl) w
 by_cases hc:code=0
 ·subst hc
  by_cases hk:kind=0
  ·subst hk
   have e1:ansRow 0 0=none:=rfl
   have e2:rowA 0=some []:=rfl
   rw[e1]
   rw[e2] at HR
   go_enter Tryz.func26,Tryz.ntmps26
   go_wp2_with (go_at_call 18;refine Calls.mono HR.out ?_;rintro e w1 ⟨⟨a1,c1,rfl,hf1⟩,hb1⟩;have HF:Hid _:=hf1;clear hf1)
   go_ret2
   exact⟨⟨a1,c1,rfl,HF.out⟩,hb1⟩
  ·have e1:ansRow kind 0=rowA kind:=by unfold ansRow;rw[if_pos rfl,if_neg hk]
   rw[e1]
   have hk2:(kind != 0)=true:=by simpa using hk
   clear hk e1
   obtain⟨n,HN⟩:∃n,Hid ((rowOr (rowA kind)).length=n):=⟨_,rfl⟩
   cases hb:(rowA kind).isSome
   ·have HB:Hid ((rowA kind).isSome=false):=hb
    clear hb
    go_enter Tryz.func26,Tryz.ntmps26
    go_wp2_with (go_at_call 18;refine Calls.mono HR.out ?_;rintro e w1 ⟨⟨a1,c1,rfl,hf1⟩,hb1⟩;have HF:Hid (FRow w1 a1 (rowOr (rowA kind))):=hf1;clear hf1;rw[HB.out,HN.out])
    go_ret2
    exact⟨⟨a1,c1,by rw[HB.out,HN.out];rfl,HF.out⟩,hb1⟩
   ·have HB:Hid ((rowA kind).isSome=true):=hb
    clear hb
    go_enter Tryz.func26,Tryz.ntmps26
    go_wp2_with (go_at_call 18;refine Calls.mono HR.out ?_;rintro e w1 ⟨⟨a1,c1,rfl,hf1⟩,hb1⟩;have HF:Hid (FRow w1 a1 (rowOr (rowA kind))):=hf1;clear hf1;rw[HB.out,HN.out])
    go_ret2
    exact⟨⟨a1,c1,by rw[HB.out,HN.out];rfl,HF.out⟩,hb1⟩
 ·have e1:ansRow kind code=(rowA kind).map fun _=>[]:=by unfold ansRow;rw[if_neg hc]
  have e2:(ansRow kind code).isSome=(rowA kind).isSome:=by rw[e1];simp
  have e3:rowOr (ansRow kind code)=[]:=by rw[e1];cases rowA kind<;>rfl
  have HE:Hid ((ansRow kind code).isSome=(rowA kind).isSome/\rowOr (ansRow kind code)=[]):=⟨e2,e3⟩
  have hc2:(code != 0)=true:=by simpa using hc
  clear hc e1 e2 e3
  obtain⟨n,HN⟩:∃n,Hid ((rowOr (rowA kind)).length=n):=⟨_,rfl⟩
  obtain⟨bb,HB⟩:∃bb,Hid ((rowA kind).isSome=bb):=⟨_,rfl⟩
  go_enter Tryz.func26,Tryz.ntmps26
  go_wp2_with (go_at_call 18;refine Calls.mono HR.out ?_;rintro e w1 ⟨⟨a1,c1,rfl,hf1⟩,hb1⟩;clear hf1;rw[HB.out,HN.out])
  go_ret2
  exact⟨⟨none,0,by rw[HE.out.1,HE.out.2,HB.out];rfl,fun i hi=>by rw[HE.out.2] at hi;simp at hi⟩,hb1⟩
def EndV (st:Ls) (M:Nat) (v:Value) (z:Int) (w':World):Prop:=(∀L,st=some L->z=0/\w'.ownsRow M 5 1 v L.length (cv L)/\Byt L/\L.length<=1000000000000)/\(st=none->v=.slice none 0 0/\z=1)
def EndP (st:Ls) (M:Nat) (e:Ending) (w':World):Prop:=∃v z,e=.returned (.tuple #[v,.int .i64 z])/\EndV st M v z w'
theorem aDc (w0 w:World) (st:Ls) (N:Nat) (hN:N<=1000000000000) (h:WrS w0 w st N):Calls Tryz.prog 33 #[.pointer (some ⟨w0.heap.size,0,none⟩)] w fun e w'=>EndP st w0.heap.size e w'/\w'=w:=by
 obtain⟨v,l,hx,ho,hb,hl,hs⟩:=h.ex
 obtain⟨a,c,rfl⟩:=cE ho
 have c0:=(aB hx 0).1
 have c1:=(aB hx 1).1
 simp only[List.getElem?_toArray,List.getElem?_cons_zero,List.getElem?_cons_succ] at c0 c1
 have HO:Hid (w.ownsRow w0.heap.size 5 1 (.slice a l.length c) l.length (cv l)):=ho
 have HS:Hid (∀L,st=some L->l=L):=hs
 clear hx ho hs h
 cases st with
 | none=>
  simp only[Option.isNone_none] at c1
  go_enter Tryz.func33,Tryz.ntmps33
  go_wp2_with fail
  go_ret2
  exact⟨⟨_,_,rfl,fun L e=>(by cases e),fun _=>⟨rfl,rfl⟩⟩,rfl⟩
 | some L0=>
  obtain rfl:=HS.out L0 rfl
  simp only[Option.isNone_some] at c1
  go_enter Tryz.func33,Tryz.ntmps33
  go_wp2_with fail
  go_ret2
  exact⟨⟨_,_,rfl,fun L e=>(by injection e with e;subst e;exact⟨rfl,HO.out,hb,by omega⟩),fun e=>(by cases e)⟩,rfl⟩
def EncP (st:Ls) (w:World) (e:Ending) (w':World):Prop:=EndP st w.heap.size e w'/\Below w.heap.size w w'
theorem WrS.new (w:World) (ok:Bool) (st:Ls) (h:ok=st.isNone) (hs:∀L,st=some L->[]=L):WrS w (w.alloc (.cells #[.slice none 0 0,.bool ok] 90)) st 0:=by
 refine⟨⟨.slice none 0 0,[],?_,World.ownsRow_nil _ _ _ _,(fun c hc=>(by cases hc)),Nat.le_refl _,hs⟩,aA _⟩
 rw[<-h]
 exact heap_alloc_new w _
theorem Tryz.info28:(Tryz.prog.info? 28).map (·.size)=some 17:=by kernel_rfl
theorem Tryz.info38:(Tryz.prog.info? 38).map (·.size)=some 9:=by kernel_rfl
theorem xL {M M':Nat} {w:World} {e:TypeId} {s:Nat} {v:Value} {n:Nat} {xs:List Value} (h:w.ownsRow M e s v n xs) (hm:M'<=M):w.ownsRow M' e s v n xs:=
 ⟨h.1,h.2.elim Or.inl (fun⟨g,cap,cur,hv,hg,r⟩=>Or.inr ⟨g,cap,cur,hv,Nat.le_trans hm hg,r⟩)⟩
theorem EndV.down {st:Ls} {M M':Nat} {v:Value} {z:Int} {w':World} (h:EndV st M v z w') (hm:M'<=M):EndV st M' v z w':=
 ⟨fun L q=>by obtain⟨a,b,c,d⟩:=h.1 L q;exact⟨a,xL b hm,c,d⟩,h.2⟩
theorem tL (k i:Int) (cs bs:Array Value) (w:World) (T:Option (List Nat)) (n:Nat) (ok:Bool) (sx s0 s1 s2 s3:Ls) (N1 N2 N3:Nat) (hN:N3<=1000000000000) (hcs:cs.size=17) (hok:T.isSome=ok) (hn:(rowOr T).length=n) (h0:(!ok)=s0.isNone) (h00:∀L,s0=some L->[]=L) (hx:sx=s3)
 (HC:Hid (cs[0]? = some (.int .i64 k)/\cs[1]? = some (.int .i64 i)))
 (HR:Hid (∀x,Calls Tryz.prog 18 #[.int .i64 0,.int .i64 k] x (RowP T x)))
 (H1:Hid (∀y x,WrS y x s0 0->Calls Tryz.prog 30 #[.pointer (some ⟨y.heap.size,0,none⟩),.int .i64 1,.int .i64 k] x (WP y x s1 N1)))
 (H2:Hid (∀y x,WrS y x s1 N1->Calls Tryz.prog 30 #[.pointer (some ⟨y.heap.size,0,none⟩),.int .i64 4,.int .i64 i] x (WP y x s2 N2)))
 (HQ:Hid (∀x,Calls Tryz.prog 37 #[.agg cs] x fun e w'=>e=.returned (.agg bs)/\Below x.heap.size x w'))
 (HF:Hid (∀y x a c,Below w.heap.size w y->FRow y a (rowOr T)->WrS y x s2 N2->Calls Tryz.prog 31 #[.pointer (some ⟨y.heap.size,0,none⟩),.agg bs,.slice a n c] x (WP y x s3 N3))) :
 Calls Tryz.prog 16 #[.agg cs] w (EncP sx w):=by
 subst hx
 have HX0:Hid ((w.alloc (.cells cs 28)).heap[w.heap.size]? = some (.cells cs 28 (0,0))):=heap_alloc_new w _
 have HZ:Hid (cs.size=17):=hcs
 have q0:(w.alloc (.cells cs 28)).cell? ⟨w.heap.size,0,none⟩=some (.int .i64 k):=by rw[(aB HX0.out 0).1];exact HC.out.1
 have HI:Hid (T.isSome=ok/\(rowOr T).length=n):=⟨hok,hn⟩
 have HS0:Hid ((!ok)=s0.isNone/\∀L,s0=some L->[]=L):=⟨h0,h00⟩
 have HE:Hid (∀y x,WrS y x sx N3->Calls Tryz.prog 33 #[.pointer (some ⟨y.heap.size,0,none⟩)] x fun e w'=>EndP sx y.heap.size e w'/\w'=x):=fun y x hx=>aDc y x sx N3 hN hx
 clear hcs hok hn h0 h00 hN
 have tok1:=trivial
 cases ok
 all_goals
  simp only[Bool.not_true,Bool.not_false] at HS0
  go_enter Tryz.func16,Tryz.ntmps16
  go_wp2_with (first
   | (go_at_call 18;refine(HR.out _).mono ?_;rintro e w1 ⟨⟨a1,c1,rfl,hf1⟩,hb1⟩;rw[HI.out.1,HI.out.2];have HFR:Hid (FRow w1 a1 (rowOr T)):=hf1;have HB1:Hid (Below w.heap.size w w1):=(aA _).trans (hb1.mono (by simp));have HX1:Hid (w1.heap[w.heap.size]? = some (.cells cs 28 (0,0))):=(hb1.block _ (Array.getElem?_eq_some_iff.1 HX0.out).1).trans HX0.out;have HW1:Hid _:=WrS.new w1 _ s0 HS0.out.1 HS0.out.2;have p0:w1.cell? ⟨w.heap.size,0,none⟩=some (.int .i64 k):=(by rw[(aB HX1.out 0).1];exact HC.out.1);have p1:w1.cell? ⟨w.heap.size,1,none⟩=some (.int .i64 i):=(by rw[(aB HX1.out 1).1];exact HC.out.2);have plt:w.heap.size < w1.heap.size:=(Array.getElem?_eq_some_iff.1 HX1.out).1;clear hf1 hb1 q0)
   | (have _h:=tok1;go_at_call 30;refine(H1.out w1 _ HW1.out).mono ?_;rintro e w2 ⟨rfl,hw2,hk2⟩;have HW2:Hid (WrS w1 w2 s1 N1):=hw2;have HX2:Hid (w2.heap[w.heap.size]? = some (.cells cs 28 (0,0))):=(hw2.bel.block _ (Array.getElem?_eq_some_iff.1 HX1.out).1).trans HX1.out;have p1:w2.cell? ⟨w.heap.size,1,none⟩=some (.int .i64 i):=(by rw[(aB HX2.out 1).1];exact HC.out.2);have tok2:=trivial;clear hw2 hk2 _h tok1)
   | (have _h:=tok2;go_at_call 30;refine(H2.out w1 _ HW2.out).mono ?_;rintro e w3 ⟨rfl,hw3,hk3⟩;have HW3:Hid (WrS w1 w3 s2 N2):=hw3;have HX3:Hid (w3.heap[w.heap.size]? = some (.cells cs 28 (0,0))):=(hw3.bel.block _ (Array.getElem?_eq_some_iff.1 HX1.out).1).trans HX1.out;have tok3:=trivial;clear hw3 hk3 _h tok2)
   | (have _h:=tok3;refine wpList_load_row rfl 28 _ rfl w.heap.size rfl 28 cs (0,0) _ HX3.out Tryz.underlying28 rfl (by rw[HZ.out];exact Tryz.info28) ?_;clear _h)
   | (go_at_call 37;refine(HQ.out _).mono ?_;rintro e w4 ⟨rfl,hb4⟩;have HW4:Hid (WrS w1 w4 s2 N2):=WrS.below HW3.out hb4;clear hb4)
   | (go_at_call 31;refine(HF.out w1 _ _ _ HB1.out HFR.out HW4.out).mono ?_;rintro e w5 ⟨rfl,hw5,hk5⟩;have HW5:Hid (WrS w1 w5 sx N3):=hw5;clear hw5 hk5)
   | (go_at_call 33;refine(HE.out w1 _ HW5.out).mono ?_;rintro e w6 ⟨⟨v,z,rfl,he⟩,rfl⟩;have HV:Hid (EndV sx w1.heap.size v z w6):=he;clear he))
  go_ret2
  exact⟨⟨v,z,rfl,EndV.down HV.out HB1.out.size⟩,HB1.out.trans (HW5.out.bel.mono HB1.out.size)⟩
theorem mE {k:Int}:(rowOr (rowQ k)).length<=7:=by
 unfold rowQ
 repeat' split
 all_goals decide
theorem aF7 (k i:Int) (b:Bd) (s0:Ls) (h0:s0=if (rowQ k).isSome=true then some [] else none):(if moreB b (rowOr (rowQ k))=true then none else oa (oa (oa s0 (eNat 1 k)) (eNat 4 i)) (eFs b (rowOr (rowQ k))))=reqE k i b:=by
 subst h0
 unfold reqE msgE
 cases hr:rowQ k with
 | none=>simp[fV]
 | some r=>
  simp only[Option.isSome_some,if_true,rowOr,Option.getD_some,eNs,sS,iH]
theorem vA (k i:Int) (b:Bd) (c:Bool) (ra:Option Addr) (rc:Nat) (w:World) (hk:In64 k) (hi:In64 i) (ht:∀f,f ∈ rowOr (rowQ k)->kd f=2) (hb:RqB b c) (hok:BdOk w b (ptR ra rc)):Calls Tryz.prog 16 #[.agg (rqc k i b c ra rc)] w (EncP (reqE k i b) w):=by
 have hlen:=mE (k:=k)
 obtain⟨S0,hS0⟩:∃S0:Ls,S0=if (rowQ k).isSome=true then some [] else none:=⟨_,rfl⟩
 refine tL k i (rqc k i b c ra rc) (bdc b (ptR ra rc)) w (rowQ k) (rowOr (rowQ k)).length (rowQ k).isSome _ S0 (oa S0 (eNat 1 k)) (oa (oa S0 (eNat 1 k)) (eNat 4 i)) _ 8 16 (16+(rowOr (rowQ k)).length * CB) ?_ rfl rfl rfl ?_ ?_ (aF7 k i b S0 hS0).symm ⟨rfl,rfl⟩ (fun x=>kS 0 k (.inl rfl) x) ?_ ?_ (fun x=>wW k i b c ra rc hb x) ?_
 ·have:=Nat.mul_le_mul_right CB hlen;unfold CB at *;omega
 ·rw[hS0];cases (rowQ k).isSome<;>rfl
 ·intro L e;rw[hS0] at e;split at e
  ·injection e
  ·cases e
 ·intro y x hx
  exact eH y x _ 0 1 1 k rfl (by omega) hk (by omega) hx
 ·intro y x hx
  exact eH y x _ 8 4 4 i rfl (by omega) hi (by omega) hx
 ·intro y x a cp hy hf hx
  refine vB y x _ 16 b (ptR ra rc) a cp (rowOr (rowQ k)) hlen (by omega) hf ?_ ht (hok.below hy) hx
  intro f hf2
  cases hr:rowQ k with
  | none=>rw[hr] at hf2;cases hf2
  | some r=>rw[hr] at hf2;exact(kC hr).2 f hf2
theorem dP (w:World) (c1 c2:Array Value) (t1 t2:TypeId):((w.alloc (.cells c1 t1)).alloc (.cells c2 t2)).heap[w.heap.size]? = some (.cells c1 t1 (0,0))/\((w.alloc (.cells c1 t1)).alloc (.cells c2 t2)).heap[w.heap.size+1]? = some (.cells c2 t2 (0,0)):=by
 refine⟨((aA _).block _ (by simp)).trans (heap_alloc_new w _),?_⟩
 have q:=heap_alloc_new (w.alloc (.cells c1 t1)) (.cells c2 t2)
 rw[show(w.alloc (.cells c1 t1)).heap.size=w.heap.size+1 by simp] at q
 exact q
theorem tC (b:Bd) (p:Pt) (w:World):Calls Tryz.prog 21 #[.agg (bdc b p)] w fun e w'=>e=.returned (.agg (rqc 0 0 b ((b 7).n == 1) p.ra p.rc))/\Below w.heap.size w w':=by
 have hB:=(dP w (bdc b p) #[.int .i64 0,.int .i64 0,.string ⟨#[]⟩,.int .i64 0,.int .i64 0,.int .i64 0,.int .i64 0,.int .i64 0,.bool false,.int .i64 0,.int .i64 0,.int .i64 0,.slice none 0 0,.int .i64 0,.int .i64 0,.int .i64 0,.string ⟨#[]⟩] 63 28).1
 have HY:Hid (((w.alloc (.cells (bdc b p) 63)).alloc (.cells #[.int .i64 0,.int .i64 0,.string ⟨#[]⟩,.int .i64 0,.int .i64 0,.int .i64 0,.int .i64 0,.int .i64 0,.bool false,.int .i64 0,.int .i64 0,.int .i64 0,.slice none 0 0,.int .i64 0,.int .i64 0,.int .i64 0,.string ⟨#[]⟩] 28)).heap[w.heap.size+1]? = some (.cells #[.int .i64 0,.int .i64 0,.string ⟨#[]⟩,.int .i64 0,.int .i64 0,.int .i64 0,.int .i64 0,.int .i64 0,.bool false,.int .i64 0,.int .i64 0,.int .i64 0,.slice none 0 0,.int .i64 0,.int .i64 0,.int .i64 0,.string ⟨#[]⟩] 28 (0,0))):=(dP w (bdc b p) #[.int .i64 0,.int .i64 0,.string ⟨#[]⟩,.int .i64 0,.int .i64 0,.int .i64 0,.int .i64 0,.int .i64 0,.bool false,.int .i64 0,.int .i64 0,.int .i64 0,.slice none 0 0,.int .i64 0,.int .i64 0,.int .i64 0,.string ⟨#[]⟩] 63 28).2
 have HW:Hid (Below w.heap.size w ((w.alloc (.cells (bdc b p) 63)).alloc (.cells #[.int .i64 0,.int .i64 0,.string ⟨#[]⟩,.int .i64 0,.int .i64 0,.int .i64 0,.int .i64 0,.int .i64 0,.bool false,.int .i64 0,.int .i64 0,.int .i64 0,.slice none 0 0,.int .i64 0,.int .i64 0,.int .i64 0,.string ⟨#[]⟩] 28))):=(aA _).trans ((aA _).mono (by simp))
 obtain⟨cn,ct,c40,c41,c42,c43,hlt⟩:=dZ hB
 have n2:=cn 2 (by decide)
 have n3:=cn 3 (by decide)
 have n4:=cn 4 (by decide)
 have n5:=cn 5 (by decide)
 have n6:=cn 6 (by decide)
 have n7:=cn 7 (by decide)
 have n8:=cn 8 (by decide)
 have n9:=cn 9 (by decide)
 have n10:=cn 10 (by decide)
 have n12:=cn 12 (by decide)
 have n13:=cn 13 (by decide)
 have n14:=cn 14 (by decide)
 have t0:=ct 0 (by decide)
 have t1:=ct 1 (by decide)
 clear cn ct hB
 unfold rqc
 generalize (b 2).n=v2 at *
 generalize (b 3).n=v3 at *
 generalize (b 4).n=v4 at *
 generalize (b 5).n=v5 at *
 generalize (b 6).n=v6 at *
 generalize (b 7).n=v7 at *
 generalize (b 8).n=v8 at *
 generalize (b 9).n=v9 at *
 generalize (b 10).n=v10 at *
 generalize (b 12).n=v12 at *
 generalize (b 13).n=v13 at *
 generalize (b 14).n=v14 at *
 generalize (b 0).t=x0 at *
 generalize (b 1).t=x1 at *
 generalize (b 11).rs.length=nr at *
 generalize bdc b p=cs at *
 go_enter Tryz.func21,Tryz.ntmps21
 go_wp2_with fail
 refine bodyPost_ret (results_cell_row rfl _ _ (w.heap.size+1) 28 #[.int .i64 0,.int .i64 0,.string x0,.int .i64 v2,.int .i64 v3,.int .i64 v4,.int .i64 v5,.int .i64 v6,.bool (v7 == 1),.int .i64 v8,.int .i64 v9,.int .i64 v10,.slice p.ra nr p.rc,.int .i64 v12,.int .i64 v13,.int .i64 v14,.string x1] (0,0) _ rfl (dP w cs _ 63 28).2 Tryz.underlying28 rfl Tryz.info28) rfl ?_
 exact⟨rfl,(aA _).trans ((aA _).mono (by simp))⟩
theorem qD (b:Bd) (p:Pt) (w:World):Calls Tryz.prog 27 #[.agg (bdc b p)] w fun e w'=>e=.returned (.agg (rsc 0 0 0 b p))/\Below w.heap.size w w':=by
 have hB:=(dP w (bdc b p) #[.int .i64 0,.int .i64 0,.int .i64 0,.int .i64 0,.int .i64 0,.int .i64 0,.slice none 0 0,.slice none 0 0,.slice none 0 0] 63 38).1
 have HY:Hid (((w.alloc (.cells (bdc b p) 63)).alloc (.cells #[.int .i64 0,.int .i64 0,.int .i64 0,.int .i64 0,.int .i64 0,.int .i64 0,.slice none 0 0,.slice none 0 0,.slice none 0 0] 38)).heap[w.heap.size+1]? = some (.cells #[.int .i64 0,.int .i64 0,.int .i64 0,.int .i64 0,.int .i64 0,.int .i64 0,.slice none 0 0,.slice none 0 0,.slice none 0 0] 38 (0,0))):=(dP w (bdc b p) #[.int .i64 0,.int .i64 0,.int .i64 0,.int .i64 0,.int .i64 0,.int .i64 0,.slice none 0 0,.slice none 0 0,.slice none 0 0] 63 38).2
 have HW:Hid (Below w.heap.size w ((w.alloc (.cells (bdc b p) 63)).alloc (.cells #[.int .i64 0,.int .i64 0,.int .i64 0,.int .i64 0,.int .i64 0,.int .i64 0,.slice none 0 0,.slice none 0 0,.slice none 0 0] 38))):=(aA _).trans ((aA _).mono (by simp))
 obtain⟨cn,ct,c40,c41,c42,c43,hlt⟩:=dZ hB
 have n12:=cn 12 (by decide)
 have n15:=cn 15 (by decide)
 have n16:=cn 16 (by decide)
 clear cn ct hB
 unfold rsc
 generalize (b 12).n=v12 at *
 generalize (b 15).n=v15 at *
 generalize (b 16).n=v16 at *
 generalize (b 17).nm.length=n17 at *
 generalize (b 18).ct.length=n18 at *
 generalize bdc b p=cs at *
 go_enter Tryz.func27,Tryz.ntmps27
 go_wp2_with fail
 refine bodyPost_ret (results_cell_row rfl _ _ (w.heap.size+1) 38 #[.int .i64 0,.int .i64 0,.int .i64 0,.int .i64 v12,.int .i64 v15,.int .i64 v16,.slice p.na n17 p.nc,.slice p.ca n18 p.cc,.slice p.ba p.bs.length p.bc] (0,0) _ rfl (dP w cs _ 63 38).2 Tryz.underlying38 rfl Tryz.info38) rfl ?_
 exact⟨rfl,(aA _).trans ((aA _).mono (by simp))⟩
theorem cX {fn:Func} {p u:Tmp} (h:fn.results=#[.cell p 28,.tmp u]) (tmps:Array Value) (w:World) (g:Nat) (cs:Array Value) (v:Value) (hp:tmps.getD p undef=.pointer (some ⟨g,0,none⟩)) (hv:tmps.getD u undef=v) (hi:cs.size=17) (hg:w.heap[g]? = some (.cells cs 28 (0,0))) :
 (results fn tmps).run Tryz.prog w=.ok (.tuple #[.agg cs,v]) w:=by
 have h2:=run_loadVar_row (P:=Tryz.prog) w g 28 28 cs (0,0) _ hg Tryz.underlying28 rfl (by rw[hi];exact Tryz.info28)
 subst hv
 rw[results_cell_tmp h,hp]
 simp[asAddr,h2,Result.andThen]
theorem bO {fn:Func} {p u:Tmp} (h:fn.results=#[.cell p 38,.tmp u]) (tmps:Array Value) (w:World) (g:Nat) (cs:Array Value) (v:Value) (hp:tmps.getD p undef=.pointer (some ⟨g,0,none⟩)) (hv:tmps.getD u undef=v) (hi:cs.size=9) (hg:w.heap[g]? = some (.cells cs 38 (0,0))) :
 (results fn tmps).run Tryz.prog w=.ok (.tuple #[.agg cs,v]) w:=by
 have h2:=run_loadVar_row (P:=Tryz.prog) w g 38 38 cs (0,0) _ hg Tryz.underlying38 rfl (by rw[hi];exact Tryz.info38)
 subst hv
 rw[results_cell_tmp h,hp]
 simp[asAddr,h2,Result.andThen]
theorem qJ {w:World} {R:Nat} {cs:Array Value} {t:TypeId} {a:Option Addr} {rs:List Rc} (hR:w.heap[R]? = some (.cells cs t (0,0))) (hc:∀(j:Nat) (v:Bool) (u:ByteArray),cs[j]? = some (.bool v)->cs[j+1]? = some (.string u)->False) (hr:RRow w a rs):∀i,i < rs.length->∀bb off,a=some ⟨bb,off,none⟩->bb≠R:=by
 intro i hi bb off e
 rintro rfl
 obtain⟨b',off',e',h0,h1,_⟩:=hr i hi
 rw[e] at e'
 simp only[Option.some.injEq,Addr.mk.injEq,and_true] at e'
 obtain⟨rfl,rfl⟩:=e'
 rw[(aB hR _).1] at h0 h1
 exact hc _ _ _ h0 h1
theorem BdX.off {w:World} {X R:Nat} {b:Bd} {p:Pt} {cs c2:Array Value} {t:TypeId} (h:BdX w X b p) (hR:w.heap[R]? = some (.cells cs t (0,0))) (hc:∀(j:Nat) (v:Bool) (u:ByteArray),cs[j]? = some (.bool v)->cs[j+1]? = some (.string u)->False) (hX:R < X):BdX (w.setRow R c2) X b p:=by
 have hs:∀k,k≠R->(w.setRow R c2).heap[k]? = w.heap[k]?:=fun k hk=>setRow_other w R k c2 hk
 refine⟨(hs X (by omega)).trans h.box,bV h.rs (fun j hj bb off e=>hs bb (qJ hR hc h.rs j hj bb off e)),dT h.nm (fun j hj bb off e=>hs bb ?_),dU h.ct (fun j hj bb off e=>hs bb ?_),⟨eT h.bs.1 (fun j hj bb off e=>hs bb ?_),fun j hj=>⟨bV (h.bs.2 j hj).1 (fun j' hj' bb off e=>hs bb (qJ hR hc (h.bs.2 j hj).1 j' hj' bb off e)),(h.bs.2 j hj).2⟩⟩,h.bb,h.n1,h.o1,h.o2,h.o3,h.o4⟩
 ·have:=h.o2 _ e;simp at this;omega
 ·have:=h.o3 _ e;simp at this;omega
 ·have:=h.o4 _ e;simp at this;omega
def z26:Array Value:=#[.int .i64 0,.int .i64 0,.string ⟨#[]⟩,.int .i64 0,.int .i64 0,.int .i64 0,.int .i64 0,.int .i64 0,.bool false,.int .i64 0,.int .i64 0,.int .i64 0,.slice none 0 0,.int .i64 0,.int .i64 0,.int .i64 0,.string ⟨#[]⟩]
theorem aG9:∀(j:Nat) (v:Bool) (u:ByteArray),z26[j]? = some (.bool v)->z26[j+1]? = some (.string u)->False:=by
 intro j v u h1 h2
 have hj:j < 17:=by have:=(Array.getElem?_eq_some_iff.1 h1).1;simpa [z26] using this
 unfold z26 at h1 h2
 rcases j with _ | _ | _ | _ | _ | _ | _ | _ | _ | _ | _ | _ | _ | _ | _ | _ | _ | j<;>simp at h1 h2
theorem RdR.new (y:World) (a:Option Addr) (cap:Nat) (l:List Nat) (hr:Row y a l) (hl:l.length<=cap) (hc:cap<=maxLen) (hn:a=none->cap=0) (hbig:l.length<=1000000000000):RdR y (y.alloc (.cells #[.slice a l.length cap,.bool false] 54)) (some l):=
 ⟨⟨a,cap,heap_alloc_new y _,hr,hl,hc,hn,hbig⟩,aA _⟩
theorem bI (w:World) (Z CS:Array Value) (t:TypeId):((w.alloc (.cells Z t)).setRow w.heap.size CS).heap[w.heap.size]? = some (.cells CS t (0,0))/\Below w.heap.size w ((w.alloc (.cells Z t)).setRow w.heap.size CS):=
 ⟨setRow_heap _ _ _ _ _ _ (heap_alloc_new w _),below_setRow (aA _) (Nat.le_refl _) _⟩
theorem wM (w:World) (a:Option Addr) (cap:Nat) (l:List Nat) (k i:Int) (T:Option (List Nat)) (n:Nat) (ok done:Bool) (s1 s2 s3:Ls) (B:Bd) (P:Ending->World->Prop)
 (HS:Hid (RdR (w.alloc (.cells #[.int .i64 0,.int .i64 0,.string ⟨#[]⟩,.int .i64 0,.int .i64 0,.int .i64 0,.int .i64 0,.int .i64 0,.bool false,.int .i64 0,.int .i64 0,.int .i64 0,.slice none 0 0,.int .i64 0,.int .i64 0,.int .i64 0,.string ⟨#[]⟩] 28)) ((w.alloc (.cells #[.int .i64 0,.int .i64 0,.string ⟨#[]⟩,.int .i64 0,.int .i64 0,.int .i64 0,.int .i64 0,.int .i64 0,.bool false,.int .i64 0,.int .i64 0,.int .i64 0,.slice none 0 0,.int .i64 0,.int .i64 0,.int .i64 0,.string ⟨#[]⟩] 28)).alloc (.cells #[.slice a l.length cap,.bool false] 54)) (some l)))
 (HI:Hid (T.isSome=ok/\(rowOr T).length=n))
 (H1:Hid (∀x,RdR (w.alloc (.cells #[.int .i64 0,.int .i64 0,.string ⟨#[]⟩,.int .i64 0,.int .i64 0,.int .i64 0,.int .i64 0,.int .i64 0,.bool false,.int .i64 0,.int .i64 0,.int .i64 0,.slice none 0 0,.int .i64 0,.int .i64 0,.int .i64 0,.string ⟨#[]⟩] 28)) x (some l)->Calls Tryz.prog 17 #[(.pointer (some ⟨w.heap.size+1,0,none⟩)),.int .i64 1] x (RP (w.alloc (.cells #[.int .i64 0,.int .i64 0,.string ⟨#[]⟩,.int .i64 0,.int .i64 0,.int .i64 0,.int .i64 0,.int .i64 0,.bool false,.int .i64 0,.int .i64 0,.int .i64 0,.slice none 0 0,.int .i64 0,.int .i64 0,.int .i64 0,.string ⟨#[]⟩] 28)) x (.int .i64 k) s1)))
 (H2:Hid (∀x,RdR (w.alloc (.cells #[.int .i64 0,.int .i64 0,.string ⟨#[]⟩,.int .i64 0,.int .i64 0,.int .i64 0,.int .i64 0,.int .i64 0,.bool false,.int .i64 0,.int .i64 0,.int .i64 0,.slice none 0 0,.int .i64 0,.int .i64 0,.int .i64 0,.string ⟨#[]⟩] 28)) x s1->Calls Tryz.prog 17 #[(.pointer (some ⟨w.heap.size+1,0,none⟩)),.int .i64 4] x (RP (w.alloc (.cells #[.int .i64 0,.int .i64 0,.string ⟨#[]⟩,.int .i64 0,.int .i64 0,.int .i64 0,.int .i64 0,.int .i64 0,.bool false,.int .i64 0,.int .i64 0,.int .i64 0,.slice none 0 0,.int .i64 0,.int .i64 0,.int .i64 0,.string ⟨#[]⟩] 28)) x (.int .i64 i) s2)))
 (HR:Hid (∀x,Calls Tryz.prog 18 #[.int .i64 0,.int .i64 k] x (RowP T x)))
 (HF:Hid (∀x a c,RdR (w.alloc (.cells #[.int .i64 0,.int .i64 0,.string ⟨#[]⟩,.int .i64 0,.int .i64 0,.int .i64 0,.int .i64 0,.int .i64 0,.bool false,.int .i64 0,.int .i64 0,.int .i64 0,.slice none 0 0,.int .i64 0,.int .i64 0,.int .i64 0,.string ⟨#[]⟩] 28)) x s2->FRow x a (rowOr T)->Calls Tryz.prog 19 #[(.pointer (some ⟨w.heap.size+1,0,none⟩)),.slice a n c] x (FsP (w.alloc (.cells #[.int .i64 0,.int .i64 0,.string ⟨#[]⟩,.int .i64 0,.int .i64 0,.int .i64 0,.int .i64 0,.int .i64 0,.bool false,.int .i64 0,.int .i64 0,.int .i64 0,.slice none 0 0,.int .i64 0,.int .i64 0,.int .i64 0,.string ⟨#[]⟩] 28)) x B s3)))
 (HE:Hid (∀x,RdR (w.alloc (.cells #[.int .i64 0,.int .i64 0,.string ⟨#[]⟩,.int .i64 0,.int .i64 0,.int .i64 0,.int .i64 0,.int .i64 0,.bool false,.int .i64 0,.int .i64 0,.int .i64 0,.slice none 0 0,.int .i64 0,.int .i64 0,.int .i64 0,.string ⟨#[]⟩] 28)) x s3->Calls Tryz.prog 20 #[(.pointer (some ⟨w.heap.size+1,0,none⟩))] x fun e w'=>e=.returned (.bool done)/\w'=x))
 (HP0:Hid ((ok && done)=false->∀w',Below w.heap.size w w'->P (.returned (.tuple #[.agg #[.int .i64 0,.int .i64 0,.string ⟨#[]⟩,.int .i64 0,.int .i64 0,.int .i64 0,.int .i64 0,.int .i64 0,.bool false,.int .i64 0,.int .i64 0,.int .i64 0,.slice none 0 0,.int .i64 0,.int .i64 0,.int .i64 0,.string ⟨#[]⟩],.int .i64 13])) w'))
 (HP1:Hid ((ok && done)=true->∀p X w',w.heap.size+1 < X->BdX w' X B p->Below w.heap.size w w'->P (.returned (.tuple #[.agg (rqc k i B ((B 7).n == 1) p.ra p.rc),.int .i64 0])) w')) :
 Calls Tryz.prog 6 #[.slice a l.length cap] w P:=by
 have HYS:Hid ((w.alloc (.cells #[.int .i64 0,.int .i64 0,.string ⟨#[]⟩,.int .i64 0,.int .i64 0,.int .i64 0,.int .i64 0,.int .i64 0,.bool false,.int .i64 0,.int .i64 0,.int .i64 0,.slice none 0 0,.int .i64 0,.int .i64 0,.int .i64 0,.string ⟨#[]⟩] 28)).heap.size=w.heap.size+1):=by show _=_;simp
 have HYB:Hid (Below w.heap.size w (w.alloc (.cells #[.int .i64 0,.int .i64 0,.string ⟨#[]⟩,.int .i64 0,.int .i64 0,.int .i64 0,.int .i64 0,.int .i64 0,.bool false,.int .i64 0,.int .i64 0,.int .i64 0,.slice none 0 0,.int .i64 0,.int .i64 0,.int .i64 0,.string ⟨#[]⟩] 28))):=aA _
 have HRZ:Hid (∀x st,RdR (w.alloc (.cells #[.int .i64 0,.int .i64 0,.string ⟨#[]⟩,.int .i64 0,.int .i64 0,.int .i64 0,.int .i64 0,.int .i64 0,.bool false,.int .i64 0,.int .i64 0,.int .i64 0,.slice none 0 0,.int .i64 0,.int .i64 0,.int .i64 0,.string ⟨#[]⟩] 28)) x st->x.heap[w.heap.size]? = some (.cells #[.int .i64 0,.int .i64 0,.string ⟨#[]⟩,.int .i64 0,.int .i64 0,.int .i64 0,.int .i64 0,.int .i64 0,.bool false,.int .i64 0,.int .i64 0,.int .i64 0,.slice none 0 0,.int .i64 0,.int .i64 0,.int .i64 0,.string ⟨#[]⟩] 28 (0,0))/\Below w.heap.size w x):=fun x st h=>⟨(h.bel.block w.heap.size (by simp)).trans (heap_alloc_new w _),HYB.out.trans (h.bel.mono (by simp))⟩
 have HPQ:Hid (∀b p x,Calls Tryz.prog 21 #[.agg (bdc b p)] x fun e w'=>e=.returned (.agg (rqc 0 0 b ((b 7).n == 1) p.ra p.rc))/\Below x.heap.size x w'):=fun b p x=>tC b p x
 have tok1:=trivial
 cases ok
 ·go_enter Tryz.func6,Tryz.ntmps6
  go_wp2_with (first | (have _h:=tok1;go_at_call 17;refine(H1.out _ HS.out).mono ?_;rintro e w2 ⟨rfl,hw2,hk2⟩;have HW2:Hid (RdR (w.alloc (.cells #[.int .i64 0,.int .i64 0,.string ⟨#[]⟩,.int .i64 0,.int .i64 0,.int .i64 0,.int .i64 0,.int .i64 0,.bool false,.int .i64 0,.int .i64 0,.int .i64 0,.slice none 0 0,.int .i64 0,.int .i64 0,.int .i64 0,.string ⟨#[]⟩] 28)) w2 s1):=hw2;have tok2:=trivial;clear hw2 hk2 _h tok1) | (have _h:=tok2;go_at_call 17;refine(H2.out _ HW2.out).mono ?_;rintro e w3 ⟨rfl,hw3,hk3⟩;have HW3:Hid (RdR (w.alloc (.cells #[.int .i64 0,.int .i64 0,.string ⟨#[]⟩,.int .i64 0,.int .i64 0,.int .i64 0,.int .i64 0,.int .i64 0,.bool false,.int .i64 0,.int .i64 0,.int .i64 0,.slice none 0 0,.int .i64 0,.int .i64 0,.int .i64 0,.string ⟨#[]⟩] 28)) w3 s2):=hw3;clear hw3 hk3 _h tok2) | (go_at_call 18;refine(HR.out _).mono ?_;rintro e w4 ⟨⟨a1,c1,rfl,hf1⟩,hb1⟩;rw[HI.out.1,HI.out.2];have HW4:Hid (RdR (w.alloc (.cells #[.int .i64 0,.int .i64 0,.string ⟨#[]⟩,.int .i64 0,.int .i64 0,.int .i64 0,.int .i64 0,.int .i64 0,.bool false,.int .i64 0,.int .i64 0,.int .i64 0,.slice none 0 0,.int .i64 0,.int .i64 0,.int .i64 0,.string ⟨#[]⟩] 28)) w4 s2):=RdR.below HW3.out hb1;have HFR:Hid (FRow w4 a1 (rowOr T)):=hf1;clear hf1 hb1) | (go_at_call 19;refine(HF.out _ _ _ HW4.out HFR.out).mono ?_;rintro e w5 ⟨p,X,hX,rfl,hx5,hw5,hk5⟩;have HX5:Hid (BdX w5 X B p):=hx5;have HW5:Hid (RdR (w.alloc (.cells #[.int .i64 0,.int .i64 0,.string ⟨#[]⟩,.int .i64 0,.int .i64 0,.int .i64 0,.int .i64 0,.int .i64 0,.bool false,.int .i64 0,.int .i64 0,.int .i64 0,.slice none 0 0,.int .i64 0,.int .i64 0,.int .i64 0,.string ⟨#[]⟩] 28)) w5 s3):=hw5;have HXX:Hid (w4.heap.size<=X):=hX;have HZ:Hid ((bdc B p).size=44):=cR _ _;have HONE:Hid ((bdc B p).all (·.oneCell')=true):=fF;have HPQ2:Hid _:=HPQ.out B p;obtain⟨CS,HCS⟩:∃CS,Hid (bdc B p=CS):=⟨_,rfl⟩;rw[HCS.out] at HZ HONE HPQ2 ⊢;have tok5:=trivial;clear hx5 hw5 hX hk5) | (have _h:=tok5;refine wpList_store_row rfl 63 _ _ rfl w5.heap.size CS rfl rfl 63 (List.toArray (Value.int .i64 0::Value.int .i64 0::Value.int .i64 0::Value.int .i64 0::Value.int .i64 0::Value.int .i64 0::Value.int .i64 0::Value.int .i64 0::Value.int .i64 0::Value.int .i64 0::Value.int .i64 0::Value.int .i64 0::Value.int .i64 0::Value.int .i64 0::Value.int .i64 0::Value.int .i64 0::Value.int .i64 0::Value.int .i64 0::Value.int .i64 0::Value.int .i64 0::Value.string ⟨#[]⟩::Value.string ⟨#[]⟩::Value.string ⟨#[]⟩::Value.string ⟨#[]⟩::Value.string ⟨#[]⟩::Value.string ⟨#[]⟩::Value.string ⟨#[]⟩::Value.string ⟨#[]⟩::Value.string ⟨#[]⟩::Value.string ⟨#[]⟩::Value.string ⟨#[]⟩::Value.string ⟨#[]⟩::Value.string ⟨#[]⟩::Value.string ⟨#[]⟩::Value.string ⟨#[]⟩::Value.string ⟨#[]⟩::Value.string ⟨#[]⟩::Value.string ⟨#[]⟩::Value.string ⟨#[]⟩::Value.string ⟨#[]⟩::Value.slice none 0 0::Value.slice none 0 0::Value.slice none 0 0::Value.slice none 0 0::[])) (heap_alloc_new w5 _) (by rw[HZ.out];exact Tryz.info63) (by rw[HZ.out];rfl) HONE.out ?_;obtain⟨hb6,hl6⟩:=bI w5 _ CS 63;generalize World.setRow _ w5.heap.size CS=w6 at *;have HB6:Hid (w6.heap[w5.heap.size]? = some (.cells CS 63 (0,0))):=hb6;have HL6:Hid (Below w5.heap.size w5 w6):=hl6;have HW6:Hid (RdR (w.alloc (.cells #[.int .i64 0,.int .i64 0,.string ⟨#[]⟩,.int .i64 0,.int .i64 0,.int .i64 0,.int .i64 0,.int .i64 0,.bool false,.int .i64 0,.int .i64 0,.int .i64 0,.slice none 0 0,.int .i64 0,.int .i64 0,.int .i64 0,.string ⟨#[]⟩] 28)) w6 s3):=RdR.below HW5.out hl6;have tok6:=trivial;clear hb6 hl6 _h tok5) | (have _h:=tok6;refine wpList_load_row rfl 63 _ rfl w5.heap.size rfl 63 CS (0,0) _ HB6.out Tryz.underlying63 rfl (by rw[HZ.out];exact Tryz.info63) ?_;clear _h) | (have _h:=tok6;refine wpList_store_row rfl 28 _ _ rfl w.heap.size #[.int .i64 0,.int .i64 0,.string ⟨#[]⟩,.int .i64 0,.int .i64 0,.int .i64 0,.int .i64 0,.int .i64 0,.bool false,.int .i64 0,.int .i64 0,.int .i64 0,.slice none 0 0,.int .i64 0,.int .i64 0,.int .i64 0,.string ⟨#[]⟩] rfl rfl 28 _ (HRZ.out _ _ HW6.out).1 Tryz.info28 rfl (by simp[Value.oneCell']) ?_;clear _h tok6) | (go_at_call 21;refine(HPQ2.out _).mono ?_;rintro e w8 ⟨rfl,hb8⟩;have HW8:Hid (RdR (w.alloc (.cells #[.int .i64 0,.int .i64 0,.string ⟨#[]⟩,.int .i64 0,.int .i64 0,.int .i64 0,.int .i64 0,.int .i64 0,.bool false,.int .i64 0,.int .i64 0,.int .i64 0,.slice none 0 0,.int .i64 0,.int .i64 0,.int .i64 0,.string ⟨#[]⟩] 28)) w8 s3):=RdR.below HW6.out hb8;have hXX:(w.alloc (.cells #[.int .i64 0,.int .i64 0,.string ⟨#[]⟩,.int .i64 0,.int .i64 0,.int .i64 0,.int .i64 0,.int .i64 0,.bool false,.int .i64 0,.int .i64 0,.int .i64 0,.slice none 0 0,.int .i64 0,.int .i64 0,.int .i64 0,.string ⟨#[]⟩] 28)).heap.size < X:=(by obtain⟨_,_,q,_⟩:=HW4.out.box;have q1:=(Array.getElem?_eq_some_iff.1 q).1;have q2:=HXX.out;omega);have HX8:Hid (BdX w8 X B p):=(BdX.keepB HX5.out HW5.out hXX (KeepB.of_below HL6.out)).keepB HW6.out hXX (KeepB.of_below hb8);have HX9:Hid ((w.alloc (.cells #[.int .i64 0,.int .i64 0,.string ⟨#[]⟩,.int .i64 0,.int .i64 0,.int .i64 0,.int .i64 0,.int .i64 0,.bool false,.int .i64 0,.int .i64 0,.int .i64 0,.slice none 0 0,.int .i64 0,.int .i64 0,.int .i64 0,.string ⟨#[]⟩] 28)).heap.size < X):=hXX;obtain⟨CQ,HCQ⟩:∃CQ,Hid (rqc 0 0 B ((B 7).n == 1) p.ra p.rc=CQ):=⟨_,rfl⟩;have HCZ:Hid (CQ.size=17/\CQ.all (·.oneCell')=true/\CQ[0]? = some (.int .i64 0)/\CQ[1]? = some (.int .i64 0)/\(CQ.setIfInBounds 0 (.int .i64 k)).setIfInBounds 1 (.int .i64 i)=rqc k i B ((B 7).n == 1) p.ra p.rc):=(by rw[<-HCQ.out];exact⟨rfl,by simp[rqc,Value.oneCell'],rfl,rfl,rfl⟩);rw[HCQ.out];have tok8:=trivial;clear hb8 hXX tok6) | (have _h:=tok8;refine wpList_store_row rfl 28 _ _ rfl w8.heap.size CQ rfl rfl 28 #[.int .i64 0,.int .i64 0,.string ⟨#[]⟩,.int .i64 0,.int .i64 0,.int .i64 0,.int .i64 0,.int .i64 0,.bool false,.int .i64 0,.int .i64 0,.int .i64 0,.slice none 0 0,.int .i64 0,.int .i64 0,.int .i64 0,.string ⟨#[]⟩] (heap_alloc_new w8 _) (by rw[HCZ.out.1];exact Tryz.info28) (by rw[HCZ.out.1];rfl) HCZ.out.2.1 ?_;obtain⟨hb9,hl9⟩:=bI w8 #[.int .i64 0,.int .i64 0,.string ⟨#[]⟩,.int .i64 0,.int .i64 0,.int .i64 0,.int .i64 0,.int .i64 0,.bool false,.int .i64 0,.int .i64 0,.int .i64 0,.slice none 0 0,.int .i64 0,.int .i64 0,.int .i64 0,.string ⟨#[]⟩] CQ 28;generalize World.setRow _ w8.heap.size CQ=w9 at *;have q0:=(aB hb9 0).1;have q1:=(aB hb9 1).1;have f0:=(aB hb9 0).2;have f1:=(aB hb9 1).2;rw[HCZ.out.2.2.1] at q0;rw[HCZ.out.2.2.2.1] at q1;have HB9:Hid (((w9.setCell ⟨w8.heap.size,0,none⟩ (.int .i64 k)).setCell ⟨w8.heap.size,1,none⟩ (.int .i64 i)).heap[w8.heap.size]? = some (.cells ((CQ.setIfInBounds 0 (.int .i64 k)).setIfInBounds 1 (.int .i64 i)) 28 (0,0))):=eR hb9;have HL9:Hid (Below w8.heap.size w8 ((w9.setCell ⟨w8.heap.size,0,none⟩ (.int .i64 k)).setCell ⟨w8.heap.size,1,none⟩ (.int .i64 i))):=(hl9.setCell (p:=⟨w8.heap.size,0,none⟩) (Nat.le_refl _) _).setCell (p:=⟨w8.heap.size,1,none⟩) (Nat.le_refl _) _;have tok9:=trivial;clear hb9 hl9 _h tok8) | (have _h:=tok9;refine wpList_load_row rfl 28 _ rfl w8.heap.size rfl 28 _ (0,0) _ HB9.out Tryz.underlying28 rfl (by rw[Array.size_setIfInBounds,Array.size_setIfInBounds,HCZ.out.1];exact Tryz.info28) ?_;rw[HCZ.out.2.2.2.2];clear _h) | (have _h:=tok9;refine wpList_store_row rfl 28 _ _ rfl w.heap.size _ rfl rfl 28 #[.int .i64 0,.int .i64 0,.string ⟨#[]⟩,.int .i64 0,.int .i64 0,.int .i64 0,.int .i64 0,.int .i64 0,.bool false,.int .i64 0,.int .i64 0,.int .i64 0,.slice none 0 0,.int .i64 0,.int .i64 0,.int .i64 0,.string ⟨#[]⟩] (HRZ.out _ _ (RdR.below HW8.out HL9.out)).1 Tryz.info28 rfl (by simp[rqc,Value.oneCell']) ?_;clear _h tok9) | (go_at_call 20;refine(HE.out _ HW6.out).mono ?_;rintro e w7 ⟨rfl,rfl⟩))
  (refine bodyPost_ret (v:=.tuple #[.agg #[.int .i64 0,.int .i64 0,.string ⟨#[]⟩,.int .i64 0,.int .i64 0,.int .i64 0,.int .i64 0,.int .i64 0,.bool false,.int .i64 0,.int .i64 0,.int .i64 0,.slice none 0 0,.int .i64 0,.int .i64 0,.int .i64 0,.string ⟨#[]⟩],.int .i64 13]) ?_ rfl (HP0.out rfl _ (below_setRow (HRZ.out _ _ HW6.out).2 (Nat.le_refl _) _));exact cX (p:=2) (u:=3) (by rfl) _ _ w.heap.size _ _ (by rfl) (by rfl) rfl (setRow_heap _ _ _ _ _ _ (HRZ.out _ _ HW6.out).1))
 ·cases done
  ·go_enter Tryz.func6,Tryz.ntmps6
   go_wp2_with (first | (have _h:=tok1;go_at_call 17;refine(H1.out _ HS.out).mono ?_;rintro e w2 ⟨rfl,hw2,hk2⟩;have HW2:Hid (RdR (w.alloc (.cells #[.int .i64 0,.int .i64 0,.string ⟨#[]⟩,.int .i64 0,.int .i64 0,.int .i64 0,.int .i64 0,.int .i64 0,.bool false,.int .i64 0,.int .i64 0,.int .i64 0,.slice none 0 0,.int .i64 0,.int .i64 0,.int .i64 0,.string ⟨#[]⟩] 28)) w2 s1):=hw2;have tok2:=trivial;clear hw2 hk2 _h tok1) | (have _h:=tok2;go_at_call 17;refine(H2.out _ HW2.out).mono ?_;rintro e w3 ⟨rfl,hw3,hk3⟩;have HW3:Hid (RdR (w.alloc (.cells #[.int .i64 0,.int .i64 0,.string ⟨#[]⟩,.int .i64 0,.int .i64 0,.int .i64 0,.int .i64 0,.int .i64 0,.bool false,.int .i64 0,.int .i64 0,.int .i64 0,.slice none 0 0,.int .i64 0,.int .i64 0,.int .i64 0,.string ⟨#[]⟩] 28)) w3 s2):=hw3;clear hw3 hk3 _h tok2) | (go_at_call 18;refine(HR.out _).mono ?_;rintro e w4 ⟨⟨a1,c1,rfl,hf1⟩,hb1⟩;rw[HI.out.1,HI.out.2];have HW4:Hid (RdR (w.alloc (.cells #[.int .i64 0,.int .i64 0,.string ⟨#[]⟩,.int .i64 0,.int .i64 0,.int .i64 0,.int .i64 0,.int .i64 0,.bool false,.int .i64 0,.int .i64 0,.int .i64 0,.slice none 0 0,.int .i64 0,.int .i64 0,.int .i64 0,.string ⟨#[]⟩] 28)) w4 s2):=RdR.below HW3.out hb1;have HFR:Hid (FRow w4 a1 (rowOr T)):=hf1;clear hf1 hb1) | (go_at_call 19;refine(HF.out _ _ _ HW4.out HFR.out).mono ?_;rintro e w5 ⟨p,X,hX,rfl,hx5,hw5,hk5⟩;have HX5:Hid (BdX w5 X B p):=hx5;have HW5:Hid (RdR (w.alloc (.cells #[.int .i64 0,.int .i64 0,.string ⟨#[]⟩,.int .i64 0,.int .i64 0,.int .i64 0,.int .i64 0,.int .i64 0,.bool false,.int .i64 0,.int .i64 0,.int .i64 0,.slice none 0 0,.int .i64 0,.int .i64 0,.int .i64 0,.string ⟨#[]⟩] 28)) w5 s3):=hw5;have HXX:Hid (w4.heap.size<=X):=hX;have HZ:Hid ((bdc B p).size=44):=cR _ _;have HONE:Hid ((bdc B p).all (·.oneCell')=true):=fF;have HPQ2:Hid _:=HPQ.out B p;obtain⟨CS,HCS⟩:∃CS,Hid (bdc B p=CS):=⟨_,rfl⟩;rw[HCS.out] at HZ HONE HPQ2 ⊢;have tok5:=trivial;clear hx5 hw5 hX hk5) | (have _h:=tok5;refine wpList_store_row rfl 63 _ _ rfl w5.heap.size CS rfl rfl 63 (List.toArray (Value.int .i64 0::Value.int .i64 0::Value.int .i64 0::Value.int .i64 0::Value.int .i64 0::Value.int .i64 0::Value.int .i64 0::Value.int .i64 0::Value.int .i64 0::Value.int .i64 0::Value.int .i64 0::Value.int .i64 0::Value.int .i64 0::Value.int .i64 0::Value.int .i64 0::Value.int .i64 0::Value.int .i64 0::Value.int .i64 0::Value.int .i64 0::Value.int .i64 0::Value.string ⟨#[]⟩::Value.string ⟨#[]⟩::Value.string ⟨#[]⟩::Value.string ⟨#[]⟩::Value.string ⟨#[]⟩::Value.string ⟨#[]⟩::Value.string ⟨#[]⟩::Value.string ⟨#[]⟩::Value.string ⟨#[]⟩::Value.string ⟨#[]⟩::Value.string ⟨#[]⟩::Value.string ⟨#[]⟩::Value.string ⟨#[]⟩::Value.string ⟨#[]⟩::Value.string ⟨#[]⟩::Value.string ⟨#[]⟩::Value.string ⟨#[]⟩::Value.string ⟨#[]⟩::Value.string ⟨#[]⟩::Value.string ⟨#[]⟩::Value.slice none 0 0::Value.slice none 0 0::Value.slice none 0 0::Value.slice none 0 0::[])) (heap_alloc_new w5 _) (by rw[HZ.out];exact Tryz.info63) (by rw[HZ.out];rfl) HONE.out ?_;obtain⟨hb6,hl6⟩:=bI w5 _ CS 63;generalize World.setRow _ w5.heap.size CS=w6 at *;have HB6:Hid (w6.heap[w5.heap.size]? = some (.cells CS 63 (0,0))):=hb6;have HL6:Hid (Below w5.heap.size w5 w6):=hl6;have HW6:Hid (RdR (w.alloc (.cells #[.int .i64 0,.int .i64 0,.string ⟨#[]⟩,.int .i64 0,.int .i64 0,.int .i64 0,.int .i64 0,.int .i64 0,.bool false,.int .i64 0,.int .i64 0,.int .i64 0,.slice none 0 0,.int .i64 0,.int .i64 0,.int .i64 0,.string ⟨#[]⟩] 28)) w6 s3):=RdR.below HW5.out hl6;have tok6:=trivial;clear hb6 hl6 _h tok5) | (have _h:=tok6;refine wpList_load_row rfl 63 _ rfl w5.heap.size rfl 63 CS (0,0) _ HB6.out Tryz.underlying63 rfl (by rw[HZ.out];exact Tryz.info63) ?_;clear _h) | (have _h:=tok6;refine wpList_store_row rfl 28 _ _ rfl w.heap.size #[.int .i64 0,.int .i64 0,.string ⟨#[]⟩,.int .i64 0,.int .i64 0,.int .i64 0,.int .i64 0,.int .i64 0,.bool false,.int .i64 0,.int .i64 0,.int .i64 0,.slice none 0 0,.int .i64 0,.int .i64 0,.int .i64 0,.string ⟨#[]⟩] rfl rfl 28 _ (HRZ.out _ _ HW6.out).1 Tryz.info28 rfl (by simp[Value.oneCell']) ?_;clear _h tok6) | (go_at_call 21;refine(HPQ2.out _).mono ?_;rintro e w8 ⟨rfl,hb8⟩;have HW8:Hid (RdR (w.alloc (.cells #[.int .i64 0,.int .i64 0,.string ⟨#[]⟩,.int .i64 0,.int .i64 0,.int .i64 0,.int .i64 0,.int .i64 0,.bool false,.int .i64 0,.int .i64 0,.int .i64 0,.slice none 0 0,.int .i64 0,.int .i64 0,.int .i64 0,.string ⟨#[]⟩] 28)) w8 s3):=RdR.below HW6.out hb8;have hXX:(w.alloc (.cells #[.int .i64 0,.int .i64 0,.string ⟨#[]⟩,.int .i64 0,.int .i64 0,.int .i64 0,.int .i64 0,.int .i64 0,.bool false,.int .i64 0,.int .i64 0,.int .i64 0,.slice none 0 0,.int .i64 0,.int .i64 0,.int .i64 0,.string ⟨#[]⟩] 28)).heap.size < X:=(by obtain⟨_,_,q,_⟩:=HW4.out.box;have q1:=(Array.getElem?_eq_some_iff.1 q).1;have q2:=HXX.out;omega);have HX8:Hid (BdX w8 X B p):=(BdX.keepB HX5.out HW5.out hXX (KeepB.of_below HL6.out)).keepB HW6.out hXX (KeepB.of_below hb8);have HX9:Hid ((w.alloc (.cells #[.int .i64 0,.int .i64 0,.string ⟨#[]⟩,.int .i64 0,.int .i64 0,.int .i64 0,.int .i64 0,.int .i64 0,.bool false,.int .i64 0,.int .i64 0,.int .i64 0,.slice none 0 0,.int .i64 0,.int .i64 0,.int .i64 0,.string ⟨#[]⟩] 28)).heap.size < X):=hXX;obtain⟨CQ,HCQ⟩:∃CQ,Hid (rqc 0 0 B ((B 7).n == 1) p.ra p.rc=CQ):=⟨_,rfl⟩;have HCZ:Hid (CQ.size=17/\CQ.all (·.oneCell')=true/\CQ[0]? = some (.int .i64 0)/\CQ[1]? = some (.int .i64 0)/\(CQ.setIfInBounds 0 (.int .i64 k)).setIfInBounds 1 (.int .i64 i)=rqc k i B ((B 7).n == 1) p.ra p.rc):=(by rw[<-HCQ.out];exact⟨rfl,by simp[rqc,Value.oneCell'],rfl,rfl,rfl⟩);rw[HCQ.out];have tok8:=trivial;clear hb8 hXX tok6) | (have _h:=tok8;refine wpList_store_row rfl 28 _ _ rfl w8.heap.size CQ rfl rfl 28 #[.int .i64 0,.int .i64 0,.string ⟨#[]⟩,.int .i64 0,.int .i64 0,.int .i64 0,.int .i64 0,.int .i64 0,.bool false,.int .i64 0,.int .i64 0,.int .i64 0,.slice none 0 0,.int .i64 0,.int .i64 0,.int .i64 0,.string ⟨#[]⟩] (heap_alloc_new w8 _) (by rw[HCZ.out.1];exact Tryz.info28) (by rw[HCZ.out.1];rfl) HCZ.out.2.1 ?_;obtain⟨hb9,hl9⟩:=bI w8 #[.int .i64 0,.int .i64 0,.string ⟨#[]⟩,.int .i64 0,.int .i64 0,.int .i64 0,.int .i64 0,.int .i64 0,.bool false,.int .i64 0,.int .i64 0,.int .i64 0,.slice none 0 0,.int .i64 0,.int .i64 0,.int .i64 0,.string ⟨#[]⟩] CQ 28;generalize World.setRow _ w8.heap.size CQ=w9 at *;have q0:=(aB hb9 0).1;have q1:=(aB hb9 1).1;have f0:=(aB hb9 0).2;have f1:=(aB hb9 1).2;rw[HCZ.out.2.2.1] at q0;rw[HCZ.out.2.2.2.1] at q1;have HB9:Hid (((w9.setCell ⟨w8.heap.size,0,none⟩ (.int .i64 k)).setCell ⟨w8.heap.size,1,none⟩ (.int .i64 i)).heap[w8.heap.size]? = some (.cells ((CQ.setIfInBounds 0 (.int .i64 k)).setIfInBounds 1 (.int .i64 i)) 28 (0,0))):=eR hb9;have HL9:Hid (Below w8.heap.size w8 ((w9.setCell ⟨w8.heap.size,0,none⟩ (.int .i64 k)).setCell ⟨w8.heap.size,1,none⟩ (.int .i64 i))):=(hl9.setCell (p:=⟨w8.heap.size,0,none⟩) (Nat.le_refl _) _).setCell (p:=⟨w8.heap.size,1,none⟩) (Nat.le_refl _) _;have tok9:=trivial;clear hb9 hl9 _h tok8) | (have _h:=tok9;refine wpList_load_row rfl 28 _ rfl w8.heap.size rfl 28 _ (0,0) _ HB9.out Tryz.underlying28 rfl (by rw[Array.size_setIfInBounds,Array.size_setIfInBounds,HCZ.out.1];exact Tryz.info28) ?_;rw[HCZ.out.2.2.2.2];clear _h) | (have _h:=tok9;refine wpList_store_row rfl 28 _ _ rfl w.heap.size _ rfl rfl 28 #[.int .i64 0,.int .i64 0,.string ⟨#[]⟩,.int .i64 0,.int .i64 0,.int .i64 0,.int .i64 0,.int .i64 0,.bool false,.int .i64 0,.int .i64 0,.int .i64 0,.slice none 0 0,.int .i64 0,.int .i64 0,.int .i64 0,.string ⟨#[]⟩] (HRZ.out _ _ (RdR.below HW8.out HL9.out)).1 Tryz.info28 rfl (by simp[rqc,Value.oneCell']) ?_;clear _h tok9) | (go_at_call 20;refine(HE.out _ HW6.out).mono ?_;rintro e w7 ⟨rfl,rfl⟩))
   (refine bodyPost_ret (v:=.tuple #[.agg #[.int .i64 0,.int .i64 0,.string ⟨#[]⟩,.int .i64 0,.int .i64 0,.int .i64 0,.int .i64 0,.int .i64 0,.bool false,.int .i64 0,.int .i64 0,.int .i64 0,.slice none 0 0,.int .i64 0,.int .i64 0,.int .i64 0,.string ⟨#[]⟩],.int .i64 13]) ?_ rfl (HP0.out rfl _ (below_setRow (HRZ.out _ _ HW6.out).2 (Nat.le_refl _) _));exact cX (p:=2) (u:=3) (by rfl) _ _ w.heap.size _ _ (by rfl) (by rfl) rfl (setRow_heap _ _ _ _ _ _ (HRZ.out _ _ HW6.out).1))
  ·go_enter Tryz.func6,Tryz.ntmps6
   go_wp2_with (first | (have _h:=tok1;go_at_call 17;refine(H1.out _ HS.out).mono ?_;rintro e w2 ⟨rfl,hw2,hk2⟩;have HW2:Hid (RdR (w.alloc (.cells #[.int .i64 0,.int .i64 0,.string ⟨#[]⟩,.int .i64 0,.int .i64 0,.int .i64 0,.int .i64 0,.int .i64 0,.bool false,.int .i64 0,.int .i64 0,.int .i64 0,.slice none 0 0,.int .i64 0,.int .i64 0,.int .i64 0,.string ⟨#[]⟩] 28)) w2 s1):=hw2;have tok2:=trivial;clear hw2 hk2 _h tok1) | (have _h:=tok2;go_at_call 17;refine(H2.out _ HW2.out).mono ?_;rintro e w3 ⟨rfl,hw3,hk3⟩;have HW3:Hid (RdR (w.alloc (.cells #[.int .i64 0,.int .i64 0,.string ⟨#[]⟩,.int .i64 0,.int .i64 0,.int .i64 0,.int .i64 0,.int .i64 0,.bool false,.int .i64 0,.int .i64 0,.int .i64 0,.slice none 0 0,.int .i64 0,.int .i64 0,.int .i64 0,.string ⟨#[]⟩] 28)) w3 s2):=hw3;clear hw3 hk3 _h tok2) | (go_at_call 18;refine(HR.out _).mono ?_;rintro e w4 ⟨⟨a1,c1,rfl,hf1⟩,hb1⟩;rw[HI.out.1,HI.out.2];have HW4:Hid (RdR (w.alloc (.cells #[.int .i64 0,.int .i64 0,.string ⟨#[]⟩,.int .i64 0,.int .i64 0,.int .i64 0,.int .i64 0,.int .i64 0,.bool false,.int .i64 0,.int .i64 0,.int .i64 0,.slice none 0 0,.int .i64 0,.int .i64 0,.int .i64 0,.string ⟨#[]⟩] 28)) w4 s2):=RdR.below HW3.out hb1;have HFR:Hid (FRow w4 a1 (rowOr T)):=hf1;clear hf1 hb1) | (go_at_call 19;refine(HF.out _ _ _ HW4.out HFR.out).mono ?_;rintro e w5 ⟨p,X,hX,rfl,hx5,hw5,hk5⟩;have HX5:Hid (BdX w5 X B p):=hx5;have HW5:Hid (RdR (w.alloc (.cells #[.int .i64 0,.int .i64 0,.string ⟨#[]⟩,.int .i64 0,.int .i64 0,.int .i64 0,.int .i64 0,.int .i64 0,.bool false,.int .i64 0,.int .i64 0,.int .i64 0,.slice none 0 0,.int .i64 0,.int .i64 0,.int .i64 0,.string ⟨#[]⟩] 28)) w5 s3):=hw5;have HXX:Hid (w4.heap.size<=X):=hX;have HZ:Hid ((bdc B p).size=44):=cR _ _;have HONE:Hid ((bdc B p).all (·.oneCell')=true):=fF;have HPQ2:Hid _:=HPQ.out B p;obtain⟨CS,HCS⟩:∃CS,Hid (bdc B p=CS):=⟨_,rfl⟩;rw[HCS.out] at HZ HONE HPQ2 ⊢;have tok5:=trivial;clear hx5 hw5 hX hk5) | (have _h:=tok5;refine wpList_store_row rfl 63 _ _ rfl w5.heap.size CS rfl rfl 63 (List.toArray (Value.int .i64 0::Value.int .i64 0::Value.int .i64 0::Value.int .i64 0::Value.int .i64 0::Value.int .i64 0::Value.int .i64 0::Value.int .i64 0::Value.int .i64 0::Value.int .i64 0::Value.int .i64 0::Value.int .i64 0::Value.int .i64 0::Value.int .i64 0::Value.int .i64 0::Value.int .i64 0::Value.int .i64 0::Value.int .i64 0::Value.int .i64 0::Value.int .i64 0::Value.string ⟨#[]⟩::Value.string ⟨#[]⟩::Value.string ⟨#[]⟩::Value.string ⟨#[]⟩::Value.string ⟨#[]⟩::Value.string ⟨#[]⟩::Value.string ⟨#[]⟩::Value.string ⟨#[]⟩::Value.string ⟨#[]⟩::Value.string ⟨#[]⟩::Value.string ⟨#[]⟩::Value.string ⟨#[]⟩::Value.string ⟨#[]⟩::Value.string ⟨#[]⟩::Value.string ⟨#[]⟩::Value.string ⟨#[]⟩::Value.string ⟨#[]⟩::Value.string ⟨#[]⟩::Value.string ⟨#[]⟩::Value.string ⟨#[]⟩::Value.slice none 0 0::Value.slice none 0 0::Value.slice none 0 0::Value.slice none 0 0::[])) (heap_alloc_new w5 _) (by rw[HZ.out];exact Tryz.info63) (by rw[HZ.out];rfl) HONE.out ?_;obtain⟨hb6,hl6⟩:=bI w5 _ CS 63;generalize World.setRow _ w5.heap.size CS=w6 at *;have HB6:Hid (w6.heap[w5.heap.size]? = some (.cells CS 63 (0,0))):=hb6;have HL6:Hid (Below w5.heap.size w5 w6):=hl6;have HW6:Hid (RdR (w.alloc (.cells #[.int .i64 0,.int .i64 0,.string ⟨#[]⟩,.int .i64 0,.int .i64 0,.int .i64 0,.int .i64 0,.int .i64 0,.bool false,.int .i64 0,.int .i64 0,.int .i64 0,.slice none 0 0,.int .i64 0,.int .i64 0,.int .i64 0,.string ⟨#[]⟩] 28)) w6 s3):=RdR.below HW5.out hl6;have tok6:=trivial;clear hb6 hl6 _h tok5) | (have _h:=tok6;refine wpList_load_row rfl 63 _ rfl w5.heap.size rfl 63 CS (0,0) _ HB6.out Tryz.underlying63 rfl (by rw[HZ.out];exact Tryz.info63) ?_;clear _h) | (have _h:=tok6;refine wpList_store_row rfl 28 _ _ rfl w.heap.size #[.int .i64 0,.int .i64 0,.string ⟨#[]⟩,.int .i64 0,.int .i64 0,.int .i64 0,.int .i64 0,.int .i64 0,.bool false,.int .i64 0,.int .i64 0,.int .i64 0,.slice none 0 0,.int .i64 0,.int .i64 0,.int .i64 0,.string ⟨#[]⟩] rfl rfl 28 _ (HRZ.out _ _ HW6.out).1 Tryz.info28 rfl (by simp[Value.oneCell']) ?_;clear _h tok6) | (go_at_call 21;refine(HPQ2.out _).mono ?_;rintro e w8 ⟨rfl,hb8⟩;have HW8:Hid (RdR (w.alloc (.cells #[.int .i64 0,.int .i64 0,.string ⟨#[]⟩,.int .i64 0,.int .i64 0,.int .i64 0,.int .i64 0,.int .i64 0,.bool false,.int .i64 0,.int .i64 0,.int .i64 0,.slice none 0 0,.int .i64 0,.int .i64 0,.int .i64 0,.string ⟨#[]⟩] 28)) w8 s3):=RdR.below HW6.out hb8;have hXX:(w.alloc (.cells #[.int .i64 0,.int .i64 0,.string ⟨#[]⟩,.int .i64 0,.int .i64 0,.int .i64 0,.int .i64 0,.int .i64 0,.bool false,.int .i64 0,.int .i64 0,.int .i64 0,.slice none 0 0,.int .i64 0,.int .i64 0,.int .i64 0,.string ⟨#[]⟩] 28)).heap.size < X:=(by obtain⟨_,_,q,_⟩:=HW4.out.box;have q1:=(Array.getElem?_eq_some_iff.1 q).1;have q2:=HXX.out;omega);have HX8:Hid (BdX w8 X B p):=(BdX.keepB HX5.out HW5.out hXX (KeepB.of_below HL6.out)).keepB HW6.out hXX (KeepB.of_below hb8);have HX9:Hid ((w.alloc (.cells #[.int .i64 0,.int .i64 0,.string ⟨#[]⟩,.int .i64 0,.int .i64 0,.int .i64 0,.int .i64 0,.int .i64 0,.bool false,.int .i64 0,.int .i64 0,.int .i64 0,.slice none 0 0,.int .i64 0,.int .i64 0,.int .i64 0,.string ⟨#[]⟩] 28)).heap.size < X):=hXX;obtain⟨CQ,HCQ⟩:∃CQ,Hid (rqc 0 0 B ((B 7).n == 1) p.ra p.rc=CQ):=⟨_,rfl⟩;have HCZ:Hid (CQ.size=17/\CQ.all (·.oneCell')=true/\CQ[0]? = some (.int .i64 0)/\CQ[1]? = some (.int .i64 0)/\(CQ.setIfInBounds 0 (.int .i64 k)).setIfInBounds 1 (.int .i64 i)=rqc k i B ((B 7).n == 1) p.ra p.rc):=(by rw[<-HCQ.out];exact⟨rfl,by simp[rqc,Value.oneCell'],rfl,rfl,rfl⟩);rw[HCQ.out];have tok8:=trivial;clear hb8 hXX tok6) | (have _h:=tok8;refine wpList_store_row rfl 28 _ _ rfl w8.heap.size CQ rfl rfl 28 #[.int .i64 0,.int .i64 0,.string ⟨#[]⟩,.int .i64 0,.int .i64 0,.int .i64 0,.int .i64 0,.int .i64 0,.bool false,.int .i64 0,.int .i64 0,.int .i64 0,.slice none 0 0,.int .i64 0,.int .i64 0,.int .i64 0,.string ⟨#[]⟩] (heap_alloc_new w8 _) (by rw[HCZ.out.1];exact Tryz.info28) (by rw[HCZ.out.1];rfl) HCZ.out.2.1 ?_;obtain⟨hb9,hl9⟩:=bI w8 #[.int .i64 0,.int .i64 0,.string ⟨#[]⟩,.int .i64 0,.int .i64 0,.int .i64 0,.int .i64 0,.int .i64 0,.bool false,.int .i64 0,.int .i64 0,.int .i64 0,.slice none 0 0,.int .i64 0,.int .i64 0,.int .i64 0,.string ⟨#[]⟩] CQ 28;generalize World.setRow _ w8.heap.size CQ=w9 at *;have q0:=(aB hb9 0).1;have q1:=(aB hb9 1).1;have f0:=(aB hb9 0).2;have f1:=(aB hb9 1).2;rw[HCZ.out.2.2.1] at q0;rw[HCZ.out.2.2.2.1] at q1;have HB9:Hid (((w9.setCell ⟨w8.heap.size,0,none⟩ (.int .i64 k)).setCell ⟨w8.heap.size,1,none⟩ (.int .i64 i)).heap[w8.heap.size]? = some (.cells ((CQ.setIfInBounds 0 (.int .i64 k)).setIfInBounds 1 (.int .i64 i)) 28 (0,0))):=eR hb9;have HL9:Hid (Below w8.heap.size w8 ((w9.setCell ⟨w8.heap.size,0,none⟩ (.int .i64 k)).setCell ⟨w8.heap.size,1,none⟩ (.int .i64 i))):=(hl9.setCell (p:=⟨w8.heap.size,0,none⟩) (Nat.le_refl _) _).setCell (p:=⟨w8.heap.size,1,none⟩) (Nat.le_refl _) _;have tok9:=trivial;clear hb9 hl9 _h tok8) | (have _h:=tok9;refine wpList_load_row rfl 28 _ rfl w8.heap.size rfl 28 _ (0,0) _ HB9.out Tryz.underlying28 rfl (by rw[Array.size_setIfInBounds,Array.size_setIfInBounds,HCZ.out.1];exact Tryz.info28) ?_;rw[HCZ.out.2.2.2.2];clear _h) | (have _h:=tok9;refine wpList_store_row rfl 28 _ _ rfl w.heap.size _ rfl rfl 28 #[.int .i64 0,.int .i64 0,.string ⟨#[]⟩,.int .i64 0,.int .i64 0,.int .i64 0,.int .i64 0,.int .i64 0,.bool false,.int .i64 0,.int .i64 0,.int .i64 0,.slice none 0 0,.int .i64 0,.int .i64 0,.int .i64 0,.string ⟨#[]⟩] (HRZ.out _ _ (RdR.below HW8.out HL9.out)).1 Tryz.info28 rfl (by simp[rqc,Value.oneCell']) ?_;clear _h tok9) | (go_at_call 20;refine(HE.out _ HW6.out).mono ?_;rintro e w7 ⟨rfl,rfl⟩))
   have hR9:=RdR.below HW8.out HL9.out
   have hX9:w.heap.size+1 < X:=by have:=HX9.out;rw[HYS.out] at this;exact this
   refine bodyPost_ret (v:=.tuple #[.agg (rqc k i B ((B 7).n == 1) p.ra p.rc),.int .i64 0]) ?_ rfl (HP1.out rfl p X _ hX9 ((BdX.keepB HX8.out HW8.out HX9.out (KeepB.of_below HL9.out)).off (HRZ.out _ _ hR9).1 aG9 (by omega)) (below_setRow (HRZ.out _ _ hR9).2 (Nat.le_refl _) _))
   exact cX (p:=2) (u:=3) (by rfl) _ _ w.heap.size _ _ (by rfl) (by rfl) rfl (setRow_heap _ _ _ _ _ _ (HRZ.out _ _ hR9).1)
def QP (t:Option (Int × Int × Bd)) (w:World) (e:Ending) (w':World):Prop:=Below w.heap.size w w'/\(t=none->e=.returned (.tuple #[.agg z26,.int .i64 13]))/\∀k i b,t=some (k,i,b)->∃p X,w.heap.size+1 < X/\e=.returned (.tuple #[.agg (rqc k i b ((b 7).n == 1) p.ra p.rc),.int .i64 0])/\BdX w' X b p
theorem qR {T:Option (List Nat)} (h:∀r,T=some r->r.Nodup/\∀f,f ∈ r->f < 20):(rowOr T).Nodup/\∀f,f ∈ rowOr T->f < 20:=by
 cases T with
 | none=>exact⟨List.nodup_nil,fun f hf=>by cases hf⟩
 | some r=>exact h r rfl
theorem jK (w:World) (a:Option Addr) (cap:Nat) (l:List Nat) (ht:Tab w) (hr:Row w a l) (hl:l.length<=cap) (hc:cap<=maxLen) (hn:a=none->cap=0) (hbig:l.length<=1000000000000) :
 Calls Tryz.prog 6 #[.slice a l.length cap] w (QP (reqP l) w):=by
 have hys:(w.alloc (.cells #[.int .i64 0,.int .i64 0,.string ⟨#[]⟩,.int .i64 0,.int .i64 0,.int .i64 0,.int .i64 0,.int .i64 0,.bool false,.int .i64 0,.int .i64 0,.int .i64 0,.slice none 0 0,.int .i64 0,.int .i64 0,.int .i64 0,.string ⟨#[]⟩] 28)).heap.size=w.heap.size+1:=by simp
 have htY:Tab (w.alloc (.cells #[.int .i64 0,.int .i64 0,.string ⟨#[]⟩,.int .i64 0,.int .i64 0,.int .i64 0,.int .i64 0,.int .i64 0,.bool false,.int .i64 0,.int .i64 0,.int .i64 0,.slice none 0 0,.int .i64 0,.int .i64 0,.int .i64 0,.string ⟨#[]⟩] 28)):=ht.below (aA _)
 refine wM w a cap l (gNat 1 (some l)).1 (gNat 4 (gNat 1 (some l)).2).1 (rowQ (gNat 1 (some l)).1) _ _ (decide ((reqS l).2=some [])) (gNat 1 (some l)).2 (gNat 4 (gNat 1 (some l)).2).2 (reqS l).2 (reqS l).1.2.2 _ (RdR.new _ a cap l (hr.below (aA _)) hl hc hn hbig) ⟨rfl,rfl⟩ ?_ ?_ (fun x=>kS 0 _ (.inl rfl) x) ?_ ?_ ?_ ?_
 ·intro x hx
  have q:=cY _ x (some l) 1 1 rfl (by decide) (by decide) hx
  rw[hys] at q
  exact q
 ·intro x hx
  have q:=cY _ x _ 4 4 rfl (by decide) (by decide) hx
  rw[hys] at q
  exact q
 ·intro x a2 c2 hx hf
  obtain⟨q1,q2⟩:=qR (T:=rowQ (gNat 1 (some l)).1) (fun r e=>kC e)
  have q:=lP _ x _ a2 c2 _ htY mE q2 q1 hf hx
  rw[hys] at q
  exact q
 ·intro x hx
  have q:=nS _ x _ hx
  rw[hys] at q
  exact q
 ·intro hno w' hb
  have e:reqP l=none:=by
   unfold reqP
   rw[if_neg]
   rintro⟨q1,q2⟩
   rw[show(reqS l).1.1=(gNat 1 (some l)).1 from rfl] at q1
   rw[q1,q2] at hno
   simp at hno
  rw[e]
  exact⟨hb,fun _=>rfl,fun k i b q=>by cases q⟩
 ·intro hyes p X w' hX hx hb
  have e:reqP l=some (reqS l).1:=by
   unfold reqP
   simp only[Bool.and_eq_true,decide_eq_true_eq] at hyes
   rw[if_pos ⟨hyes.1,hyes.2⟩]
  rw[e]
  refine⟨hb,fun q=>(by cases q),fun k i b q=>?_⟩
  simp only[Option.some.injEq] at q
  have q1:k=(reqS l).1.1:=by rw[q]
  have q2:i=(reqS l).1.2.1:=by rw[q]
  have q3:b=(reqS l).1.2.2:=by rw[q]
  subst q1 q2 q3
  exact⟨p,X,hX,rfl,hx⟩
def z40:Array Value:=#[.int .i64 0,.int .i64 0,.int .i64 0,.int .i64 0,.int .i64 0,.int .i64 0,.slice none 0 0,.slice none 0 0,.slice none 0 0]
theorem aFk:∀(j:Nat) (v:Bool) (u:ByteArray),z40[j]? = some (.bool v)->z40[j+1]? = some (.string u)->False:=by
 intro j v u h1 h2
 have hj:j < 9:=by have:=(Array.getElem?_eq_some_iff.1 h1).1;simpa [z40] using this
 unfold z40 at h1 h2
 rcases j with _ | _ | _ | _ | _ | _ | _ | _ | _ | j<;>simp at h1 h2
theorem tE {k c:Int}:(rowOr (ansRow k c)).length<=7:=by
 unfold ansRow rowA
 repeat' split
 all_goals first | decide | simp[rowOr] | (rename_i h;cases h)
def SP (t:Option (Int × Int × Int × Bd)) (w:World) (e:Ending) (w':World):Prop:=Below w.heap.size w w'/\(t=none->e=.returned (.tuple #[.agg z40,.int .i64 13]))/\∀k i d b,t=some (k,i,d,b)->∃p X,w.heap.size+1 < X/\e=.returned (.tuple #[.agg (rsc k i d b p),.int .i64 0])/\BdX w' X b p
theorem xG (w:World) (a:Option Addr) (cap:Nat) (l:List Nat) (k i d:Int) (T:Option (List Nat)) (n:Nat) (ok done:Bool) (s1 s2 s2' s3:Ls) (B:Bd) (P:Ending->World->Prop)
 (HS:Hid (RdR (w.alloc (.cells #[.int .i64 0,.int .i64 0,.int .i64 0,.int .i64 0,.int .i64 0,.int .i64 0,.slice none 0 0,.slice none 0 0,.slice none 0 0] 38)) ((w.alloc (.cells #[.int .i64 0,.int .i64 0,.int .i64 0,.int .i64 0,.int .i64 0,.int .i64 0,.slice none 0 0,.slice none 0 0,.slice none 0 0] 38)).alloc (.cells #[.slice a l.length cap,.bool false] 54)) (some l)))
 (HI:Hid (T.isSome=ok/\(rowOr T).length=n))
 (H1:Hid (∀x,RdR (w.alloc (.cells #[.int .i64 0,.int .i64 0,.int .i64 0,.int .i64 0,.int .i64 0,.int .i64 0,.slice none 0 0,.slice none 0 0,.slice none 0 0] 38)) x (some l)->Calls Tryz.prog 17 #[(.pointer (some ⟨w.heap.size+1,0,none⟩)),.int .i64 1] x (RP (w.alloc (.cells #[.int .i64 0,.int .i64 0,.int .i64 0,.int .i64 0,.int .i64 0,.int .i64 0,.slice none 0 0,.slice none 0 0,.slice none 0 0] 38)) x (.int .i64 k) s1)))
 (H2:Hid (∀x,RdR (w.alloc (.cells #[.int .i64 0,.int .i64 0,.int .i64 0,.int .i64 0,.int .i64 0,.int .i64 0,.slice none 0 0,.slice none 0 0,.slice none 0 0] 38)) x s1->Calls Tryz.prog 17 #[(.pointer (some ⟨w.heap.size+1,0,none⟩)),.int .i64 4] x (RP (w.alloc (.cells #[.int .i64 0,.int .i64 0,.int .i64 0,.int .i64 0,.int .i64 0,.int .i64 0,.slice none 0 0,.slice none 0 0,.slice none 0 0] 38)) x (.int .i64 i) s2)))
 (H3:Hid (∀x,RdR (w.alloc (.cells #[.int .i64 0,.int .i64 0,.int .i64 0,.int .i64 0,.int .i64 0,.int .i64 0,.slice none 0 0,.slice none 0 0,.slice none 0 0] 38)) x s2->Calls Tryz.prog 17 #[(.pointer (some ⟨w.heap.size+1,0,none⟩)),.int .i64 1] x (RP (w.alloc (.cells #[.int .i64 0,.int .i64 0,.int .i64 0,.int .i64 0,.int .i64 0,.int .i64 0,.slice none 0 0,.slice none 0 0,.slice none 0 0] 38)) x (.int .i64 d) s2')))
 (HR:Hid (∀x,Calls Tryz.prog 26 #[.int .i64 k,.int .i64 d] x (RowP T x)))
 (HF:Hid (∀x a c,RdR (w.alloc (.cells #[.int .i64 0,.int .i64 0,.int .i64 0,.int .i64 0,.int .i64 0,.int .i64 0,.slice none 0 0,.slice none 0 0,.slice none 0 0] 38)) x s2'->FRow x a (rowOr T)->Calls Tryz.prog 19 #[(.pointer (some ⟨w.heap.size+1,0,none⟩)),.slice a n c] x (FsP (w.alloc (.cells #[.int .i64 0,.int .i64 0,.int .i64 0,.int .i64 0,.int .i64 0,.int .i64 0,.slice none 0 0,.slice none 0 0,.slice none 0 0] 38)) x B s3)))
 (HE:Hid (∀x,RdR (w.alloc (.cells #[.int .i64 0,.int .i64 0,.int .i64 0,.int .i64 0,.int .i64 0,.int .i64 0,.slice none 0 0,.slice none 0 0,.slice none 0 0] 38)) x s3->Calls Tryz.prog 20 #[(.pointer (some ⟨w.heap.size+1,0,none⟩))] x fun e w'=>e=.returned (.bool done)/\w'=x))
 (HP0:Hid ((ok && done)=false->∀w',Below w.heap.size w w'->P (.returned (.tuple #[.agg #[.int .i64 0,.int .i64 0,.int .i64 0,.int .i64 0,.int .i64 0,.int .i64 0,.slice none 0 0,.slice none 0 0,.slice none 0 0],.int .i64 13])) w'))
 (HP1:Hid ((ok && done)=true->∀p X w',w.heap.size+1 < X->BdX w' X B p->Below w.heap.size w w'->P (.returned (.tuple #[.agg (rsc k i d B p),.int .i64 0])) w')) :
 Calls Tryz.prog 8 #[.slice a l.length cap] w P:=by
 have HYS:Hid ((w.alloc (.cells #[.int .i64 0,.int .i64 0,.int .i64 0,.int .i64 0,.int .i64 0,.int .i64 0,.slice none 0 0,.slice none 0 0,.slice none 0 0] 38)).heap.size=w.heap.size+1):=by show _=_;simp
 have HYB:Hid (Below w.heap.size w (w.alloc (.cells #[.int .i64 0,.int .i64 0,.int .i64 0,.int .i64 0,.int .i64 0,.int .i64 0,.slice none 0 0,.slice none 0 0,.slice none 0 0] 38))):=aA _
 have HRZ:Hid (∀x st,RdR (w.alloc (.cells #[.int .i64 0,.int .i64 0,.int .i64 0,.int .i64 0,.int .i64 0,.int .i64 0,.slice none 0 0,.slice none 0 0,.slice none 0 0] 38)) x st->x.heap[w.heap.size]? = some (.cells #[.int .i64 0,.int .i64 0,.int .i64 0,.int .i64 0,.int .i64 0,.int .i64 0,.slice none 0 0,.slice none 0 0,.slice none 0 0] 38 (0,0))/\Below w.heap.size w x):=fun x st h=>⟨(h.bel.block w.heap.size (by simp)).trans (heap_alloc_new w _),HYB.out.trans (h.bel.mono (by simp))⟩
 have HPQ:Hid (∀b p x,Calls Tryz.prog 27 #[.agg (bdc b p)] x fun e w'=>e=.returned (.agg (rsc 0 0 0 b p))/\Below x.heap.size x w'):=fun b p x=>qD b p x
 have tok1:=trivial
 cases ok
 ·go_enter Tryz.func8,Tryz.ntmps8
  go_wp2_with (first | (have _h:=tok1;go_at_call 17;refine(H1.out _ HS.out).mono ?_;rintro e w2 ⟨rfl,hw2,hk2⟩;have HW2:Hid (RdR (w.alloc (.cells #[.int .i64 0,.int .i64 0,.int .i64 0,.int .i64 0,.int .i64 0,.int .i64 0,.slice none 0 0,.slice none 0 0,.slice none 0 0] 38)) w2 s1):=hw2;have tok2:=trivial;clear hw2 hk2 _h tok1) | (have _h:=tok2;go_at_call 17;refine(H2.out _ HW2.out).mono ?_;rintro e w3 ⟨rfl,hw3,hk3⟩;have HW3':Hid (RdR (w.alloc (.cells #[.int .i64 0,.int .i64 0,.int .i64 0,.int .i64 0,.int .i64 0,.int .i64 0,.slice none 0 0,.slice none 0 0,.slice none 0 0] 38)) w3 s2):=hw3;have tok3:=trivial;clear hw3 hk3 _h tok2) | (have _h:=tok3;go_at_call 17;refine(H3.out _ HW3'.out).mono ?_;rintro e w3' ⟨rfl,hw3,hk3⟩;have HW3:Hid (RdR (w.alloc (.cells #[.int .i64 0,.int .i64 0,.int .i64 0,.int .i64 0,.int .i64 0,.int .i64 0,.slice none 0 0,.slice none 0 0,.slice none 0 0] 38)) w3' s2'):=hw3;clear hw3 hk3 _h tok3) | (go_at_call 26;refine(HR.out _).mono ?_;rintro e w4 ⟨⟨a1,c1,rfl,hf1⟩,hb1⟩;rw[HI.out.1,HI.out.2];have HW4:Hid (RdR (w.alloc (.cells #[.int .i64 0,.int .i64 0,.int .i64 0,.int .i64 0,.int .i64 0,.int .i64 0,.slice none 0 0,.slice none 0 0,.slice none 0 0] 38)) w4 s2'):=RdR.below HW3.out hb1;have HFR:Hid (FRow w4 a1 (rowOr T)):=hf1;clear hf1 hb1) | (go_at_call 19;refine(HF.out _ _ _ HW4.out HFR.out).mono ?_;rintro e w5 ⟨p,X,hX,rfl,hx5,hw5,hk5⟩;have HX5:Hid (BdX w5 X B p):=hx5;have HW5:Hid (RdR (w.alloc (.cells #[.int .i64 0,.int .i64 0,.int .i64 0,.int .i64 0,.int .i64 0,.int .i64 0,.slice none 0 0,.slice none 0 0,.slice none 0 0] 38)) w5 s3):=hw5;have HXX:Hid (w4.heap.size<=X):=hX;have HZ:Hid ((bdc B p).size=44):=cR _ _;have HONE:Hid ((bdc B p).all (·.oneCell')=true):=fF;have HPQ2:Hid _:=HPQ.out B p;obtain⟨CS,HCS⟩:∃CS,Hid (bdc B p=CS):=⟨_,rfl⟩;rw[HCS.out] at HZ HONE HPQ2 ⊢;have tok5:=trivial;clear hx5 hw5 hX hk5) | (have _h:=tok5;refine wpList_store_row rfl 63 _ _ rfl w5.heap.size CS rfl rfl 63 (List.toArray (Value.int .i64 0::Value.int .i64 0::Value.int .i64 0::Value.int .i64 0::Value.int .i64 0::Value.int .i64 0::Value.int .i64 0::Value.int .i64 0::Value.int .i64 0::Value.int .i64 0::Value.int .i64 0::Value.int .i64 0::Value.int .i64 0::Value.int .i64 0::Value.int .i64 0::Value.int .i64 0::Value.int .i64 0::Value.int .i64 0::Value.int .i64 0::Value.int .i64 0::Value.string ⟨#[]⟩::Value.string ⟨#[]⟩::Value.string ⟨#[]⟩::Value.string ⟨#[]⟩::Value.string ⟨#[]⟩::Value.string ⟨#[]⟩::Value.string ⟨#[]⟩::Value.string ⟨#[]⟩::Value.string ⟨#[]⟩::Value.string ⟨#[]⟩::Value.string ⟨#[]⟩::Value.string ⟨#[]⟩::Value.string ⟨#[]⟩::Value.string ⟨#[]⟩::Value.string ⟨#[]⟩::Value.string ⟨#[]⟩::Value.string ⟨#[]⟩::Value.string ⟨#[]⟩::Value.string ⟨#[]⟩::Value.string ⟨#[]⟩::Value.slice none 0 0::Value.slice none 0 0::Value.slice none 0 0::Value.slice none 0 0::[])) (heap_alloc_new w5 _) (by rw[HZ.out];exact Tryz.info63) (by rw[HZ.out];rfl) HONE.out ?_;obtain⟨hb6,hl6⟩:=bI w5 _ CS 63;generalize World.setRow _ w5.heap.size CS=w6 at *;have HB6:Hid (w6.heap[w5.heap.size]? = some (.cells CS 63 (0,0))):=hb6;have HL6:Hid (Below w5.heap.size w5 w6):=hl6;have HW6:Hid (RdR (w.alloc (.cells #[.int .i64 0,.int .i64 0,.int .i64 0,.int .i64 0,.int .i64 0,.int .i64 0,.slice none 0 0,.slice none 0 0,.slice none 0 0] 38)) w6 s3):=RdR.below HW5.out hl6;have tok6:=trivial;clear hb6 hl6 _h tok5) | (have _h:=tok6;refine wpList_load_row rfl 63 _ rfl w5.heap.size rfl 63 CS (0,0) _ HB6.out Tryz.underlying63 rfl (by rw[HZ.out];exact Tryz.info63) ?_;clear _h) | (have _h:=tok6;refine wpList_store_row rfl 38 _ _ rfl w.heap.size #[.int .i64 0,.int .i64 0,.int .i64 0,.int .i64 0,.int .i64 0,.int .i64 0,.slice none 0 0,.slice none 0 0,.slice none 0 0] rfl rfl 38 _ (HRZ.out _ _ HW6.out).1 Tryz.info38 rfl (by simp[Value.oneCell']) ?_;clear _h tok6) | (go_at_call 27;refine(HPQ2.out _).mono ?_;rintro e w8 ⟨rfl,hb8⟩;have HW8:Hid (RdR (w.alloc (.cells #[.int .i64 0,.int .i64 0,.int .i64 0,.int .i64 0,.int .i64 0,.int .i64 0,.slice none 0 0,.slice none 0 0,.slice none 0 0] 38)) w8 s3):=RdR.below HW6.out hb8;have hXX:(w.alloc (.cells #[.int .i64 0,.int .i64 0,.int .i64 0,.int .i64 0,.int .i64 0,.int .i64 0,.slice none 0 0,.slice none 0 0,.slice none 0 0] 38)).heap.size < X:=(by obtain⟨_,_,q,_⟩:=HW4.out.box;have q1:=(Array.getElem?_eq_some_iff.1 q).1;have q2:=HXX.out;omega);have HX8:Hid (BdX w8 X B p):=(BdX.keepB HX5.out HW5.out hXX (KeepB.of_below HL6.out)).keepB HW6.out hXX (KeepB.of_below hb8);have HX9:Hid ((w.alloc (.cells #[.int .i64 0,.int .i64 0,.int .i64 0,.int .i64 0,.int .i64 0,.int .i64 0,.slice none 0 0,.slice none 0 0,.slice none 0 0] 38)).heap.size < X):=hXX;obtain⟨CQ,HCQ⟩:∃CQ,Hid (rsc 0 0 0 B p=CQ):=⟨_,rfl⟩;have HCZ:Hid (CQ.size=9/\CQ.all (·.oneCell')=true/\CQ[0]? = some (.int .i64 0)/\CQ[1]? = some (.int .i64 0)/\CQ[2]? = some (.int .i64 0)/\((CQ.setIfInBounds 0 (.int .i64 k)).setIfInBounds 1 (.int .i64 i)).setIfInBounds 2 (.int .i64 d)=rsc k i d B p):=(by rw[<-HCQ.out];exact⟨rfl,by simp[rsc,Value.oneCell'],rfl,rfl,rfl,rfl⟩);rw[HCQ.out];have tok8:=trivial;clear hb8 hXX tok6) | (have _h:=tok8;refine wpList_store_row rfl 38 _ _ rfl w8.heap.size CQ rfl rfl 38 #[.int .i64 0,.int .i64 0,.int .i64 0,.int .i64 0,.int .i64 0,.int .i64 0,.slice none 0 0,.slice none 0 0,.slice none 0 0] (heap_alloc_new w8 _) (by rw[HCZ.out.1];exact Tryz.info38) (by rw[HCZ.out.1];rfl) HCZ.out.2.1 ?_;obtain⟨hb9,hl9⟩:=bI w8 #[.int .i64 0,.int .i64 0,.int .i64 0,.int .i64 0,.int .i64 0,.int .i64 0,.slice none 0 0,.slice none 0 0,.slice none 0 0] CQ 38;generalize World.setRow _ w8.heap.size CQ=w9 at *;have q0:=(aB hb9 0).1;have q1:=(aB hb9 1).1;have f0:=(aB hb9 0).2;have f1:=(aB hb9 1).2;have q2:=(aB hb9 2).1;have f2:=(aB hb9 2).2;rw[HCZ.out.2.2.2.2.1] at q2;rw[HCZ.out.2.2.1] at q0;rw[HCZ.out.2.2.2.1] at q1;have HB9:Hid ((((w9.setCell ⟨w8.heap.size,0,none⟩ (.int .i64 k)).setCell ⟨w8.heap.size,1,none⟩ (.int .i64 i)).setCell ⟨w8.heap.size,2,none⟩ (.int .i64 d)).heap[w8.heap.size]? = some (.cells (((CQ.setIfInBounds 0 (.int .i64 k)).setIfInBounds 1 (.int .i64 i)).setIfInBounds 2 (.int .i64 d)) 38 (0,0))):=bG (eR hb9) 2 _;have HL9:Hid (Below w8.heap.size w8 (((w9.setCell ⟨w8.heap.size,0,none⟩ (.int .i64 k)).setCell ⟨w8.heap.size,1,none⟩ (.int .i64 i)).setCell ⟨w8.heap.size,2,none⟩ (.int .i64 d))):=(hl9.setCell (p:=⟨w8.heap.size,0,none⟩) (Nat.le_refl _) _).setCell (p:=⟨w8.heap.size,1,none⟩) (Nat.le_refl _) _ |>.setCell (p:=⟨w8.heap.size,2,none⟩) (Nat.le_refl _) _;have tok9:=trivial;clear hb9 hl9 _h tok8) | (have _h:=tok9;refine wpList_load_row rfl 38 _ rfl w8.heap.size rfl 38 _ (0,0) _ HB9.out Tryz.underlying38 rfl (by rw[Array.size_setIfInBounds,Array.size_setIfInBounds,Array.size_setIfInBounds,HCZ.out.1];exact Tryz.info38) ?_;rw[HCZ.out.2.2.2.2.2];clear _h) | (have _h:=tok9;refine wpList_store_row rfl 38 _ _ rfl w.heap.size _ rfl rfl 38 #[.int .i64 0,.int .i64 0,.int .i64 0,.int .i64 0,.int .i64 0,.int .i64 0,.slice none 0 0,.slice none 0 0,.slice none 0 0] (HRZ.out _ _ (RdR.below HW8.out HL9.out)).1 Tryz.info38 rfl (by simp[rsc,Value.oneCell']) ?_;clear _h tok9) | (go_at_call 20;refine(HE.out _ HW6.out).mono ?_;rintro e w7 ⟨rfl,rfl⟩))
  (refine bodyPost_ret (v:=.tuple #[.agg #[.int .i64 0,.int .i64 0,.int .i64 0,.int .i64 0,.int .i64 0,.int .i64 0,.slice none 0 0,.slice none 0 0,.slice none 0 0],.int .i64 13]) ?_ rfl (HP0.out rfl _ (below_setRow (HRZ.out _ _ HW6.out).2 (Nat.le_refl _) _));exact bO (p:=2) (u:=3) (by rfl) _ _ w.heap.size _ _ (by rfl) (by rfl) rfl (setRow_heap _ _ _ _ _ _ (HRZ.out _ _ HW6.out).1))
 ·cases done
  ·go_enter Tryz.func8,Tryz.ntmps8
   go_wp2_with (first | (have _h:=tok1;go_at_call 17;refine(H1.out _ HS.out).mono ?_;rintro e w2 ⟨rfl,hw2,hk2⟩;have HW2:Hid (RdR (w.alloc (.cells #[.int .i64 0,.int .i64 0,.int .i64 0,.int .i64 0,.int .i64 0,.int .i64 0,.slice none 0 0,.slice none 0 0,.slice none 0 0] 38)) w2 s1):=hw2;have tok2:=trivial;clear hw2 hk2 _h tok1) | (have _h:=tok2;go_at_call 17;refine(H2.out _ HW2.out).mono ?_;rintro e w3 ⟨rfl,hw3,hk3⟩;have HW3':Hid (RdR (w.alloc (.cells #[.int .i64 0,.int .i64 0,.int .i64 0,.int .i64 0,.int .i64 0,.int .i64 0,.slice none 0 0,.slice none 0 0,.slice none 0 0] 38)) w3 s2):=hw3;have tok3:=trivial;clear hw3 hk3 _h tok2) | (have _h:=tok3;go_at_call 17;refine(H3.out _ HW3'.out).mono ?_;rintro e w3' ⟨rfl,hw3,hk3⟩;have HW3:Hid (RdR (w.alloc (.cells #[.int .i64 0,.int .i64 0,.int .i64 0,.int .i64 0,.int .i64 0,.int .i64 0,.slice none 0 0,.slice none 0 0,.slice none 0 0] 38)) w3' s2'):=hw3;clear hw3 hk3 _h tok3) | (go_at_call 26;refine(HR.out _).mono ?_;rintro e w4 ⟨⟨a1,c1,rfl,hf1⟩,hb1⟩;rw[HI.out.1,HI.out.2];have HW4:Hid (RdR (w.alloc (.cells #[.int .i64 0,.int .i64 0,.int .i64 0,.int .i64 0,.int .i64 0,.int .i64 0,.slice none 0 0,.slice none 0 0,.slice none 0 0] 38)) w4 s2'):=RdR.below HW3.out hb1;have HFR:Hid (FRow w4 a1 (rowOr T)):=hf1;clear hf1 hb1) | (go_at_call 19;refine(HF.out _ _ _ HW4.out HFR.out).mono ?_;rintro e w5 ⟨p,X,hX,rfl,hx5,hw5,hk5⟩;have HX5:Hid (BdX w5 X B p):=hx5;have HW5:Hid (RdR (w.alloc (.cells #[.int .i64 0,.int .i64 0,.int .i64 0,.int .i64 0,.int .i64 0,.int .i64 0,.slice none 0 0,.slice none 0 0,.slice none 0 0] 38)) w5 s3):=hw5;have HXX:Hid (w4.heap.size<=X):=hX;have HZ:Hid ((bdc B p).size=44):=cR _ _;have HONE:Hid ((bdc B p).all (·.oneCell')=true):=fF;have HPQ2:Hid _:=HPQ.out B p;obtain⟨CS,HCS⟩:∃CS,Hid (bdc B p=CS):=⟨_,rfl⟩;rw[HCS.out] at HZ HONE HPQ2 ⊢;have tok5:=trivial;clear hx5 hw5 hX hk5) | (have _h:=tok5;refine wpList_store_row rfl 63 _ _ rfl w5.heap.size CS rfl rfl 63 (List.toArray (Value.int .i64 0::Value.int .i64 0::Value.int .i64 0::Value.int .i64 0::Value.int .i64 0::Value.int .i64 0::Value.int .i64 0::Value.int .i64 0::Value.int .i64 0::Value.int .i64 0::Value.int .i64 0::Value.int .i64 0::Value.int .i64 0::Value.int .i64 0::Value.int .i64 0::Value.int .i64 0::Value.int .i64 0::Value.int .i64 0::Value.int .i64 0::Value.int .i64 0::Value.string ⟨#[]⟩::Value.string ⟨#[]⟩::Value.string ⟨#[]⟩::Value.string ⟨#[]⟩::Value.string ⟨#[]⟩::Value.string ⟨#[]⟩::Value.string ⟨#[]⟩::Value.string ⟨#[]⟩::Value.string ⟨#[]⟩::Value.string ⟨#[]⟩::Value.string ⟨#[]⟩::Value.string ⟨#[]⟩::Value.string ⟨#[]⟩::Value.string ⟨#[]⟩::Value.string ⟨#[]⟩::Value.string ⟨#[]⟩::Value.string ⟨#[]⟩::Value.string ⟨#[]⟩::Value.string ⟨#[]⟩::Value.string ⟨#[]⟩::Value.slice none 0 0::Value.slice none 0 0::Value.slice none 0 0::Value.slice none 0 0::[])) (heap_alloc_new w5 _) (by rw[HZ.out];exact Tryz.info63) (by rw[HZ.out];rfl) HONE.out ?_;obtain⟨hb6,hl6⟩:=bI w5 _ CS 63;generalize World.setRow _ w5.heap.size CS=w6 at *;have HB6:Hid (w6.heap[w5.heap.size]? = some (.cells CS 63 (0,0))):=hb6;have HL6:Hid (Below w5.heap.size w5 w6):=hl6;have HW6:Hid (RdR (w.alloc (.cells #[.int .i64 0,.int .i64 0,.int .i64 0,.int .i64 0,.int .i64 0,.int .i64 0,.slice none 0 0,.slice none 0 0,.slice none 0 0] 38)) w6 s3):=RdR.below HW5.out hl6;have tok6:=trivial;clear hb6 hl6 _h tok5) | (have _h:=tok6;refine wpList_load_row rfl 63 _ rfl w5.heap.size rfl 63 CS (0,0) _ HB6.out Tryz.underlying63 rfl (by rw[HZ.out];exact Tryz.info63) ?_;clear _h) | (have _h:=tok6;refine wpList_store_row rfl 38 _ _ rfl w.heap.size #[.int .i64 0,.int .i64 0,.int .i64 0,.int .i64 0,.int .i64 0,.int .i64 0,.slice none 0 0,.slice none 0 0,.slice none 0 0] rfl rfl 38 _ (HRZ.out _ _ HW6.out).1 Tryz.info38 rfl (by simp[Value.oneCell']) ?_;clear _h tok6) | (go_at_call 27;refine(HPQ2.out _).mono ?_;rintro e w8 ⟨rfl,hb8⟩;have HW8:Hid (RdR (w.alloc (.cells #[.int .i64 0,.int .i64 0,.int .i64 0,.int .i64 0,.int .i64 0,.int .i64 0,.slice none 0 0,.slice none 0 0,.slice none 0 0] 38)) w8 s3):=RdR.below HW6.out hb8;have hXX:(w.alloc (.cells #[.int .i64 0,.int .i64 0,.int .i64 0,.int .i64 0,.int .i64 0,.int .i64 0,.slice none 0 0,.slice none 0 0,.slice none 0 0] 38)).heap.size < X:=(by obtain⟨_,_,q,_⟩:=HW4.out.box;have q1:=(Array.getElem?_eq_some_iff.1 q).1;have q2:=HXX.out;omega);have HX8:Hid (BdX w8 X B p):=(BdX.keepB HX5.out HW5.out hXX (KeepB.of_below HL6.out)).keepB HW6.out hXX (KeepB.of_below hb8);have HX9:Hid ((w.alloc (.cells #[.int .i64 0,.int .i64 0,.int .i64 0,.int .i64 0,.int .i64 0,.int .i64 0,.slice none 0 0,.slice none 0 0,.slice none 0 0] 38)).heap.size < X):=hXX;obtain⟨CQ,HCQ⟩:∃CQ,Hid (rsc 0 0 0 B p=CQ):=⟨_,rfl⟩;have HCZ:Hid (CQ.size=9/\CQ.all (·.oneCell')=true/\CQ[0]? = some (.int .i64 0)/\CQ[1]? = some (.int .i64 0)/\CQ[2]? = some (.int .i64 0)/\((CQ.setIfInBounds 0 (.int .i64 k)).setIfInBounds 1 (.int .i64 i)).setIfInBounds 2 (.int .i64 d)=rsc k i d B p):=(by rw[<-HCQ.out];exact⟨rfl,by simp[rsc,Value.oneCell'],rfl,rfl,rfl,rfl⟩);rw[HCQ.out];have tok8:=trivial;clear hb8 hXX tok6) | (have _h:=tok8;refine wpList_store_row rfl 38 _ _ rfl w8.heap.size CQ rfl rfl 38 #[.int .i64 0,.int .i64 0,.int .i64 0,.int .i64 0,.int .i64 0,.int .i64 0,.slice none 0 0,.slice none 0 0,.slice none 0 0] (heap_alloc_new w8 _) (by rw[HCZ.out.1];exact Tryz.info38) (by rw[HCZ.out.1];rfl) HCZ.out.2.1 ?_;obtain⟨hb9,hl9⟩:=bI w8 #[.int .i64 0,.int .i64 0,.int .i64 0,.int .i64 0,.int .i64 0,.int .i64 0,.slice none 0 0,.slice none 0 0,.slice none 0 0] CQ 38;generalize World.setRow _ w8.heap.size CQ=w9 at *;have q0:=(aB hb9 0).1;have q1:=(aB hb9 1).1;have f0:=(aB hb9 0).2;have f1:=(aB hb9 1).2;have q2:=(aB hb9 2).1;have f2:=(aB hb9 2).2;rw[HCZ.out.2.2.2.2.1] at q2;rw[HCZ.out.2.2.1] at q0;rw[HCZ.out.2.2.2.1] at q1;have HB9:Hid ((((w9.setCell ⟨w8.heap.size,0,none⟩ (.int .i64 k)).setCell ⟨w8.heap.size,1,none⟩ (.int .i64 i)).setCell ⟨w8.heap.size,2,none⟩ (.int .i64 d)).heap[w8.heap.size]? = some (.cells (((CQ.setIfInBounds 0 (.int .i64 k)).setIfInBounds 1 (.int .i64 i)).setIfInBounds 2 (.int .i64 d)) 38 (0,0))):=bG (eR hb9) 2 _;have HL9:Hid (Below w8.heap.size w8 (((w9.setCell ⟨w8.heap.size,0,none⟩ (.int .i64 k)).setCell ⟨w8.heap.size,1,none⟩ (.int .i64 i)).setCell ⟨w8.heap.size,2,none⟩ (.int .i64 d))):=(hl9.setCell (p:=⟨w8.heap.size,0,none⟩) (Nat.le_refl _) _).setCell (p:=⟨w8.heap.size,1,none⟩) (Nat.le_refl _) _ |>.setCell (p:=⟨w8.heap.size,2,none⟩) (Nat.le_refl _) _;have tok9:=trivial;clear hb9 hl9 _h tok8) | (have _h:=tok9;refine wpList_load_row rfl 38 _ rfl w8.heap.size rfl 38 _ (0,0) _ HB9.out Tryz.underlying38 rfl (by rw[Array.size_setIfInBounds,Array.size_setIfInBounds,Array.size_setIfInBounds,HCZ.out.1];exact Tryz.info38) ?_;rw[HCZ.out.2.2.2.2.2];clear _h) | (have _h:=tok9;refine wpList_store_row rfl 38 _ _ rfl w.heap.size _ rfl rfl 38 #[.int .i64 0,.int .i64 0,.int .i64 0,.int .i64 0,.int .i64 0,.int .i64 0,.slice none 0 0,.slice none 0 0,.slice none 0 0] (HRZ.out _ _ (RdR.below HW8.out HL9.out)).1 Tryz.info38 rfl (by simp[rsc,Value.oneCell']) ?_;clear _h tok9) | (go_at_call 20;refine(HE.out _ HW6.out).mono ?_;rintro e w7 ⟨rfl,rfl⟩))
   (refine bodyPost_ret (v:=.tuple #[.agg #[.int .i64 0,.int .i64 0,.int .i64 0,.int .i64 0,.int .i64 0,.int .i64 0,.slice none 0 0,.slice none 0 0,.slice none 0 0],.int .i64 13]) ?_ rfl (HP0.out rfl _ (below_setRow (HRZ.out _ _ HW6.out).2 (Nat.le_refl _) _));exact bO (p:=2) (u:=3) (by rfl) _ _ w.heap.size _ _ (by rfl) (by rfl) rfl (setRow_heap _ _ _ _ _ _ (HRZ.out _ _ HW6.out).1))
  ·go_enter Tryz.func8,Tryz.ntmps8
   go_wp2_with (first | (have _h:=tok1;go_at_call 17;refine(H1.out _ HS.out).mono ?_;rintro e w2 ⟨rfl,hw2,hk2⟩;have HW2:Hid (RdR (w.alloc (.cells #[.int .i64 0,.int .i64 0,.int .i64 0,.int .i64 0,.int .i64 0,.int .i64 0,.slice none 0 0,.slice none 0 0,.slice none 0 0] 38)) w2 s1):=hw2;have tok2:=trivial;clear hw2 hk2 _h tok1) | (have _h:=tok2;go_at_call 17;refine(H2.out _ HW2.out).mono ?_;rintro e w3 ⟨rfl,hw3,hk3⟩;have HW3':Hid (RdR (w.alloc (.cells #[.int .i64 0,.int .i64 0,.int .i64 0,.int .i64 0,.int .i64 0,.int .i64 0,.slice none 0 0,.slice none 0 0,.slice none 0 0] 38)) w3 s2):=hw3;have tok3:=trivial;clear hw3 hk3 _h tok2) | (have _h:=tok3;go_at_call 17;refine(H3.out _ HW3'.out).mono ?_;rintro e w3' ⟨rfl,hw3,hk3⟩;have HW3:Hid (RdR (w.alloc (.cells #[.int .i64 0,.int .i64 0,.int .i64 0,.int .i64 0,.int .i64 0,.int .i64 0,.slice none 0 0,.slice none 0 0,.slice none 0 0] 38)) w3' s2'):=hw3;clear hw3 hk3 _h tok3) | (go_at_call 26;refine(HR.out _).mono ?_;rintro e w4 ⟨⟨a1,c1,rfl,hf1⟩,hb1⟩;rw[HI.out.1,HI.out.2];have HW4:Hid (RdR (w.alloc (.cells #[.int .i64 0,.int .i64 0,.int .i64 0,.int .i64 0,.int .i64 0,.int .i64 0,.slice none 0 0,.slice none 0 0,.slice none 0 0] 38)) w4 s2'):=RdR.below HW3.out hb1;have HFR:Hid (FRow w4 a1 (rowOr T)):=hf1;clear hf1 hb1) | (go_at_call 19;refine(HF.out _ _ _ HW4.out HFR.out).mono ?_;rintro e w5 ⟨p,X,hX,rfl,hx5,hw5,hk5⟩;have HX5:Hid (BdX w5 X B p):=hx5;have HW5:Hid (RdR (w.alloc (.cells #[.int .i64 0,.int .i64 0,.int .i64 0,.int .i64 0,.int .i64 0,.int .i64 0,.slice none 0 0,.slice none 0 0,.slice none 0 0] 38)) w5 s3):=hw5;have HXX:Hid (w4.heap.size<=X):=hX;have HZ:Hid ((bdc B p).size=44):=cR _ _;have HONE:Hid ((bdc B p).all (·.oneCell')=true):=fF;have HPQ2:Hid _:=HPQ.out B p;obtain⟨CS,HCS⟩:∃CS,Hid (bdc B p=CS):=⟨_,rfl⟩;rw[HCS.out] at HZ HONE HPQ2 ⊢;have tok5:=trivial;clear hx5 hw5 hX hk5) | (have _h:=tok5;refine wpList_store_row rfl 63 _ _ rfl w5.heap.size CS rfl rfl 63 (List.toArray (Value.int .i64 0::Value.int .i64 0::Value.int .i64 0::Value.int .i64 0::Value.int .i64 0::Value.int .i64 0::Value.int .i64 0::Value.int .i64 0::Value.int .i64 0::Value.int .i64 0::Value.int .i64 0::Value.int .i64 0::Value.int .i64 0::Value.int .i64 0::Value.int .i64 0::Value.int .i64 0::Value.int .i64 0::Value.int .i64 0::Value.int .i64 0::Value.int .i64 0::Value.string ⟨#[]⟩::Value.string ⟨#[]⟩::Value.string ⟨#[]⟩::Value.string ⟨#[]⟩::Value.string ⟨#[]⟩::Value.string ⟨#[]⟩::Value.string ⟨#[]⟩::Value.string ⟨#[]⟩::Value.string ⟨#[]⟩::Value.string ⟨#[]⟩::Value.string ⟨#[]⟩::Value.string ⟨#[]⟩::Value.string ⟨#[]⟩::Value.string ⟨#[]⟩::Value.string ⟨#[]⟩::Value.string ⟨#[]⟩::Value.string ⟨#[]⟩::Value.string ⟨#[]⟩::Value.string ⟨#[]⟩::Value.string ⟨#[]⟩::Value.slice none 0 0::Value.slice none 0 0::Value.slice none 0 0::Value.slice none 0 0::[])) (heap_alloc_new w5 _) (by rw[HZ.out];exact Tryz.info63) (by rw[HZ.out];rfl) HONE.out ?_;obtain⟨hb6,hl6⟩:=bI w5 _ CS 63;generalize World.setRow _ w5.heap.size CS=w6 at *;have HB6:Hid (w6.heap[w5.heap.size]? = some (.cells CS 63 (0,0))):=hb6;have HL6:Hid (Below w5.heap.size w5 w6):=hl6;have HW6:Hid (RdR (w.alloc (.cells #[.int .i64 0,.int .i64 0,.int .i64 0,.int .i64 0,.int .i64 0,.int .i64 0,.slice none 0 0,.slice none 0 0,.slice none 0 0] 38)) w6 s3):=RdR.below HW5.out hl6;have tok6:=trivial;clear hb6 hl6 _h tok5) | (have _h:=tok6;refine wpList_load_row rfl 63 _ rfl w5.heap.size rfl 63 CS (0,0) _ HB6.out Tryz.underlying63 rfl (by rw[HZ.out];exact Tryz.info63) ?_;clear _h) | (have _h:=tok6;refine wpList_store_row rfl 38 _ _ rfl w.heap.size #[.int .i64 0,.int .i64 0,.int .i64 0,.int .i64 0,.int .i64 0,.int .i64 0,.slice none 0 0,.slice none 0 0,.slice none 0 0] rfl rfl 38 _ (HRZ.out _ _ HW6.out).1 Tryz.info38 rfl (by simp[Value.oneCell']) ?_;clear _h tok6) | (go_at_call 27;refine(HPQ2.out _).mono ?_;rintro e w8 ⟨rfl,hb8⟩;have HW8:Hid (RdR (w.alloc (.cells #[.int .i64 0,.int .i64 0,.int .i64 0,.int .i64 0,.int .i64 0,.int .i64 0,.slice none 0 0,.slice none 0 0,.slice none 0 0] 38)) w8 s3):=RdR.below HW6.out hb8;have hXX:(w.alloc (.cells #[.int .i64 0,.int .i64 0,.int .i64 0,.int .i64 0,.int .i64 0,.int .i64 0,.slice none 0 0,.slice none 0 0,.slice none 0 0] 38)).heap.size < X:=(by obtain⟨_,_,q,_⟩:=HW4.out.box;have q1:=(Array.getElem?_eq_some_iff.1 q).1;have q2:=HXX.out;omega);have HX8:Hid (BdX w8 X B p):=(BdX.keepB HX5.out HW5.out hXX (KeepB.of_below HL6.out)).keepB HW6.out hXX (KeepB.of_below hb8);have HX9:Hid ((w.alloc (.cells #[.int .i64 0,.int .i64 0,.int .i64 0,.int .i64 0,.int .i64 0,.int .i64 0,.slice none 0 0,.slice none 0 0,.slice none 0 0] 38)).heap.size < X):=hXX;obtain⟨CQ,HCQ⟩:∃CQ,Hid (rsc 0 0 0 B p=CQ):=⟨_,rfl⟩;have HCZ:Hid (CQ.size=9/\CQ.all (·.oneCell')=true/\CQ[0]? = some (.int .i64 0)/\CQ[1]? = some (.int .i64 0)/\CQ[2]? = some (.int .i64 0)/\((CQ.setIfInBounds 0 (.int .i64 k)).setIfInBounds 1 (.int .i64 i)).setIfInBounds 2 (.int .i64 d)=rsc k i d B p):=(by rw[<-HCQ.out];exact⟨rfl,by simp[rsc,Value.oneCell'],rfl,rfl,rfl,rfl⟩);rw[HCQ.out];have tok8:=trivial;clear hb8 hXX tok6) | (have _h:=tok8;refine wpList_store_row rfl 38 _ _ rfl w8.heap.size CQ rfl rfl 38 #[.int .i64 0,.int .i64 0,.int .i64 0,.int .i64 0,.int .i64 0,.int .i64 0,.slice none 0 0,.slice none 0 0,.slice none 0 0] (heap_alloc_new w8 _) (by rw[HCZ.out.1];exact Tryz.info38) (by rw[HCZ.out.1];rfl) HCZ.out.2.1 ?_;obtain⟨hb9,hl9⟩:=bI w8 #[.int .i64 0,.int .i64 0,.int .i64 0,.int .i64 0,.int .i64 0,.int .i64 0,.slice none 0 0,.slice none 0 0,.slice none 0 0] CQ 38;generalize World.setRow _ w8.heap.size CQ=w9 at *;have q0:=(aB hb9 0).1;have q1:=(aB hb9 1).1;have f0:=(aB hb9 0).2;have f1:=(aB hb9 1).2;have q2:=(aB hb9 2).1;have f2:=(aB hb9 2).2;rw[HCZ.out.2.2.2.2.1] at q2;rw[HCZ.out.2.2.1] at q0;rw[HCZ.out.2.2.2.1] at q1;have HB9:Hid ((((w9.setCell ⟨w8.heap.size,0,none⟩ (.int .i64 k)).setCell ⟨w8.heap.size,1,none⟩ (.int .i64 i)).setCell ⟨w8.heap.size,2,none⟩ (.int .i64 d)).heap[w8.heap.size]? = some (.cells (((CQ.setIfInBounds 0 (.int .i64 k)).setIfInBounds 1 (.int .i64 i)).setIfInBounds 2 (.int .i64 d)) 38 (0,0))):=bG (eR hb9) 2 _;have HL9:Hid (Below w8.heap.size w8 (((w9.setCell ⟨w8.heap.size,0,none⟩ (.int .i64 k)).setCell ⟨w8.heap.size,1,none⟩ (.int .i64 i)).setCell ⟨w8.heap.size,2,none⟩ (.int .i64 d))):=(hl9.setCell (p:=⟨w8.heap.size,0,none⟩) (Nat.le_refl _) _).setCell (p:=⟨w8.heap.size,1,none⟩) (Nat.le_refl _) _ |>.setCell (p:=⟨w8.heap.size,2,none⟩) (Nat.le_refl _) _;have tok9:=trivial;clear hb9 hl9 _h tok8) | (have _h:=tok9;refine wpList_load_row rfl 38 _ rfl w8.heap.size rfl 38 _ (0,0) _ HB9.out Tryz.underlying38 rfl (by rw[Array.size_setIfInBounds,Array.size_setIfInBounds,Array.size_setIfInBounds,HCZ.out.1];exact Tryz.info38) ?_;rw[HCZ.out.2.2.2.2.2];clear _h) | (have _h:=tok9;refine wpList_store_row rfl 38 _ _ rfl w.heap.size _ rfl rfl 38 #[.int .i64 0,.int .i64 0,.int .i64 0,.int .i64 0,.int .i64 0,.int .i64 0,.slice none 0 0,.slice none 0 0,.slice none 0 0] (HRZ.out _ _ (RdR.below HW8.out HL9.out)).1 Tryz.info38 rfl (by simp[rsc,Value.oneCell']) ?_;clear _h tok9) | (go_at_call 20;refine(HE.out _ HW6.out).mono ?_;rintro e w7 ⟨rfl,rfl⟩))
   have hR9:=RdR.below HW8.out HL9.out
   have hX9:w.heap.size+1 < X:=by have:=HX9.out;rw[HYS.out] at this;exact this
   refine bodyPost_ret (v:=.tuple #[.agg (rsc k i d B p),.int .i64 0]) ?_ rfl (HP1.out rfl p X _ hX9 ((BdX.keepB HX8.out HW8.out HX9.out (KeepB.of_below HL9.out)).off (HRZ.out _ _ hR9).1 aFk (by omega)) (below_setRow (HRZ.out _ _ hR9).2 (Nat.le_refl _) _))
   exact bO (p:=2) (u:=3) (by rfl) _ _ w.heap.size _ _ (by rfl) (by rfl) rfl (setRow_heap _ _ _ _ _ _ (HRZ.out _ _ hR9).1)
theorem mM (w:World) (a:Option Addr) (cap:Nat) (l:List Nat) (ht:Tab w) (hr:Row w a l) (hl:l.length<=cap) (hc:cap<=maxLen) (hn:a=none->cap=0) (hbig:l.length<=1000000000000) :
 Calls Tryz.prog 8 #[.slice a l.length cap] w (SP (resP l) w):=by
 have hys:(w.alloc (.cells #[.int .i64 0,.int .i64 0,.int .i64 0,.int .i64 0,.int .i64 0,.int .i64 0,.slice none 0 0,.slice none 0 0,.slice none 0 0] 38)).heap.size=w.heap.size+1:=by simp
 have htY:Tab (w.alloc (.cells #[.int .i64 0,.int .i64 0,.int .i64 0,.int .i64 0,.int .i64 0,.int .i64 0,.slice none 0 0,.slice none 0 0,.slice none 0 0] 38)):=ht.below (aA _)
 refine xG w a cap l (gNat 1 (some l)).1 (gNat 4 (gNat 1 (some l)).2).1 (gNat 1 (gNat 4 (gNat 1 (some l)).2).2).1 (ansRow (gNat 1 (some l)).1 (gNat 1 (gNat 4 (gNat 1 (some l)).2).2).1) _ _ (decide ((resS l).2=some [])) (gNat 1 (some l)).2 (gNat 4 (gNat 1 (some l)).2).2 (gNat 1 (gNat 4 (gNat 1 (some l)).2).2).2 (resS l).2 (resS l).1.2.2.2 _ (RdR.new _ a cap l (hr.below (aA _)) hl hc hn hbig) ⟨rfl,rfl⟩ ?_ ?_ ?_ (fun x=>nJ _ _ x) ?_ ?_ ?_ ?_
 ·intro x hx
  have q:=cY _ x (some l) 1 1 rfl (by decide) (by decide) hx
  rw[hys] at q
  exact q
 ·intro x hx
  have q:=cY _ x _ 4 4 rfl (by decide) (by decide) hx
  rw[hys] at q
  exact q
 ·intro x hx
  have q:=cY _ x _ 1 1 rfl (by decide) (by decide) hx
  rw[hys] at q
  exact q
 ·intro x a2 c2 hx hf
  obtain⟨q1,q2⟩:=qR (T:=ansRow (gNat 1 (some l)).1 (gNat 1 (gNat 4 (gNat 1 (some l)).2).2).1) (fun r e=>oO e)
  have q:=lP _ x _ a2 c2 _ htY tE q2 q1 hf hx
  rw[hys] at q
  exact q
 ·intro x hx
  have q:=nS _ x _ hx
  rw[hys] at q
  exact q
 ·intro hno w' hb
  have e:resP l=none:=by
   unfold resP
   rw[if_neg]
   rintro⟨q1,q2⟩
   rw[show ansRow (resS l).1.1 (resS l).1.2.2.1=ansRow (gNat 1 (some l)).1 (gNat 1 (gNat 4 (gNat 1 (some l)).2).2).1 from rfl] at q1
   rw[q1,q2] at hno
   simp at hno
  rw[e]
  exact⟨hb,fun _=>rfl,fun k i d b q=>by cases q⟩
 ·intro hyes p X w' hX hx hb
  have e:resP l=some (resS l).1:=by
   unfold resP
   simp only[Bool.and_eq_true,decide_eq_true_eq] at hyes
   rw[if_pos ⟨hyes.1,hyes.2⟩]
  rw[e]
  refine⟨hb,fun q=>(by cases q),fun k i d b q=>?_⟩
  simp only[Option.some.injEq] at q
  have q1:k=(resS l).1.1:=by rw[q]
  have q2:i=(resS l).1.2.1:=by rw[q]
  have q3:d=(resS l).1.2.2.1:=by rw[q]
  have q4:b=(resS l).1.2.2.2:=by rw[q]
  subst q1 q2 q3 q4
  exact⟨p,X,hX,rfl,hx⟩
theorem sT {b:Bd} (w:World) (ht:Tab w) (h11:(b 11).rs=[]) (h17:(b 17).nm=[]) (h18:(b 18).ct=[]) (h19:(b 19).bs=[]) (ht2:∀f,(b f).t.size<=9223372036854775807) (hf:In64 (b 7).n):BdOk w b (ptR none 0):=by
 refine⟨ht,?_,?_,?_,⟨?_,?_⟩,?_,?_,?_,?_,?_,?_,?_,ht2,hf⟩
 ·intro i hi;rw[h11] at hi;cases hi
 ·intro i hi;rw[h17] at hi;cases hi
 ·intro i hi;rw[h18] at hi;cases hi
 ·intro i hi;cases hi
 ·intro i hi;cases hi
 ·rw[h19];rfl
 ·rw[h11];decide
 ·rw[h17];decide
 ·rw[h18];decide
 ·exact Nat.zero_le _
 ·intro i hi;rw[h11] at hi;cases hi
 ·intro i hi;rw[h17] at hi;cases hi
def bA:Bd:=setB bdz 0 (vt ⟨#[97]⟩)
theorem aCq {t:ByteArray}:VB (setB bdz 0 (vt t)):=by
 refine⟨fun f hf=>?_,fun f hf=>?_⟩
 ·by_cases e:f=0
  ·subst e;simp[setB,kd,VK,vt]
  ·have:setB bdz 0 (vt t) f=fz:=by simp[setB,e,bdz]
   rw[this]
   rcases dJ f with q | q | q | q | q | q | q<;>rw[q]<;>simp[VK,fz,vn,vt,vr',vm,vc,vb,In64]
 ·have e:f≠0:=by omega
  simp[setB,e,bdz]
theorem aH4:RqB bA false:=⟨aCq,rfl,rfl,rfl,rfl,rfl,rfl⟩
theorem aIm:reqE 2 7 bA=some [2,0,0,0,7,0,1,97]:=by decide +kernel
theorem aF6:reqP [2]=none:=by
 cases h:reqP [2] with
 | none=>rfl
 | some x=>
  have:(reqP [2]).isNone=true:=by decide +kernel
  rw[h] at this
  cases this
theorem EncP.some {L:List Nat} {w w':World} {e:Ending} (h:EncP (some L) w e w'):∃a c,e=.returned (.tuple #[.slice a L.length c,.int .i64 0])/\Row w' a L/\(a=none->c=0)/\L.length<=c/\Below w.heap.size w w':=by
 obtain⟨⟨v,z,rfl,hv,_⟩,hb⟩:=h
 obtain⟨rfl,ho,hy,_⟩:=hv L rfl
 obtain⟨a,c,rfl,hr,hn⟩:=bQ ho (cG hy)
 refine⟨a,c,rfl,hr,hn,?_,hb⟩
 rcases ho.2 with⟨e,h0⟩ | ⟨g,cap,cur,e,hB,hg,hle,_⟩
 ·injection e;omega
 ·injection e with e1 e2 e3;omega
theorem below_drewN {B:Nat} {a w:World} (h:Below B a w) (n:Nat):Below B a (w.drewN n):=by
 induction n with
 | zero=>exact h
 | succ k ih=>exact ih.drew
theorem aIo:∀x,Tab x->Calls Tryz.prog 16 #[.agg #[.int .i64 2,.int .i64 7,.string ⟨#[97]⟩,.int .i64 0,.int .i64 0,.int .i64 0,.int .i64 0,.int .i64 0,.bool false,.int .i64 0,.int .i64 0,.int .i64 0,.slice none 0 0,.int .i64 0,.int .i64 0,.int .i64 0,.string ⟨#[]⟩]] x fun e w'=>∃a c,e=.returned (.tuple #[.slice a 8 c,.int .i64 0])/\Row w' a [2,0,0,0,7,0,1,97]/\Below x.heap.size x w':=fun x hx=>by
 have q:=vA 2 7 bA false none 0 x (by unfold In64;decide) (by unfold In64;decide) (by decide) aH4 (sT x hx rfl rfl rfl rfl (fun f=>by unfold bA setB bdz;split<;>decide) (by unfold In64;decide))
 rw[aIm] at q
 refine Calls.mono q ?_
 intro e w' h
 obtain⟨a,c,e1,r,_,_,b⟩:=EncP.some h
 exact⟨a,c,e1,r,b⟩
theorem aIk:∀y,Tab y->Calls Tryz.prog 6 #[.slice (some ⟨y.heap.size,0,none⟩) 1 1] (y.alloc (.cells #[.int .u8 2] 5)) fun e w'=>e=.returned (.tuple #[.agg #[.int .i64 0,.int .i64 0,.string ⟨#[]⟩,.int .i64 0,.int .i64 0,.int .i64 0,.int .i64 0,.int .i64 0,.bool false,.int .i64 0,.int .i64 0,.int .i64 0,.slice none 0 0,.int .i64 0,.int .i64 0,.int .i64 0,.string ⟨#[]⟩],.int .i64 13])/\Below y.heap.size y w':=fun y hy=>by
 have q:=jK (y.alloc (.cells #[.int .u8 2] 5)) (some ⟨y.heap.size,0,none⟩) 1 [2] (hy.below (aA _)) (fO y 2 (by decide)).1 (by decide) (by decide) (fun e=>by cases e) (by decide)
 rw[aF6] at q
 refine Calls.mono q ?_
 rintro e w' ⟨hb,h1,_⟩
 exact⟨h1 rfl,(aA _).trans (hb.mono (by simp))⟩
theorem aIf:∀y a c,Row y a [2,0,0,0,7,0,1,97]->Calls Tryz.prog 15 #[.slice a 8 c,.slice (some ⟨y.heap.size,0,none⟩) 8 8] (y.alloc (.cells #[.int .u8 2,.int .u8 0,.int .u8 0,.int .u8 0,.int .u8 7,.int .u8 0,.int .u8 1,.int .u8 97] 5)) fun e w'=>e=.returned (.bool true)/\Below y.heap.size y w':=fun y a c hr=>by
 have q:=vP a c [2,0,0,0,7,0,1,97] (some ⟨y.heap.size,0,none⟩) 8 [2,0,0,0,7,0,1,97] (y.alloc (.cells #[.int .u8 2,.int .u8 0,.int .u8 0,.int .u8 0,.int .u8 7,.int .u8 0,.int .u8 1,.int .u8 97] 5)) (hr.below (aA _)) (kP y [2,0,0,0,7,0,1,97] (cG (by decide))) (by decide) (by decide)
 refine Calls.mono q ?_
 rintro e w' h
 exact(by obtain⟨e1,n,rfl⟩:=h;exact⟨by rw[e1];rfl,below_drewN (aA _) n⟩)
theorem oE (w:World) (ht:Tab w):Calls Tryz.prog 5 #[] w fun e w'=>e=.returned (.bool true)/\Below w.heap.size w w':=by
 have HQ:Hid (∀x,Tab x->Calls Tryz.prog 16 #[.agg #[.int .i64 2,.int .i64 7,.string ⟨#[97]⟩,.int .i64 0,.int .i64 0,.int .i64 0,.int .i64 0,.int .i64 0,.bool false,.int .i64 0,.int .i64 0,.int .i64 0,.slice none 0 0,.int .i64 0,.int .i64 0,.int .i64 0,.string ⟨#[]⟩]] x fun e w'=>∃a c,e=.returned (.tuple #[.slice a 8 c,.int .i64 0])/\Row w' a [2,0,0,0,7,0,1,97]/\Below x.heap.size x w'):=aIo
 have HP:Hid (∀y,Tab y->Calls Tryz.prog 6 #[.slice (some ⟨y.heap.size,0,none⟩) 1 1] (y.alloc (.cells #[.int .u8 2] 5)) fun e w'=>e=.returned (.tuple #[.agg #[.int .i64 0,.int .i64 0,.string ⟨#[]⟩,.int .i64 0,.int .i64 0,.int .i64 0,.int .i64 0,.int .i64 0,.bool false,.int .i64 0,.int .i64 0,.int .i64 0,.slice none 0 0,.int .i64 0,.int .i64 0,.int .i64 0,.string ⟨#[]⟩],.int .i64 13])/\Below y.heap.size y w'):=aIk
 have HB:Hid (∀y a c,Row y a [2,0,0,0,7,0,1,97]->Calls Tryz.prog 15 #[.slice a 8 c,.slice (some ⟨y.heap.size,0,none⟩) 8 8] (y.alloc (.cells #[.int .u8 2,.int .u8 0,.int .u8 0,.int .u8 0,.int .u8 7,.int .u8 0,.int .u8 1,.int .u8 97] 5)) fun e w'=>e=.returned (.bool true)/\Below y.heap.size y w'):=aIf
 obtain⟨CZ,HCZ⟩:∃CZ:Array Value,Hid (#[.int .i64 0,.int .i64 0,.string ⟨#[]⟩,.int .i64 0,.int .i64 0,.int .i64 0,.int .i64 0,.int .i64 0,.bool false,.int .i64 0,.int .i64 0,.int .i64 0,.slice none 0 0,.int .i64 0,.int .i64 0,.int .i64 0,.string ⟨#[]⟩]=CZ):=⟨_,rfl⟩
 have HZ1:Hid (CZ.size=17):=by rw[<-HCZ.out];rfl
 have HZ2:Hid (CZ.all (·.oneCell')=true):=by show _=_;rw[<-HCZ.out];kernel_rfl
 rw[HCZ.out] at HP
 have HT:Hid (Tab w):=ht
 clear ht
 go_enter Tryz.func5,Tryz.ntmps5
 go_wp2_with (first
  | (go_at_call 16;refine(HQ.out _ HT.out).mono ?_;rintro e w1 ⟨a1,c1,rfl,hr1,hb1⟩;have HR1:Hid (Row w1 a1 [2,0,0,0,7,0,1,97]):=hr1;have HB1:Hid (Below w.heap.size w w1):=hb1;have HT1:Hid (Tab w1):=HT.out.below hb1;clear hr1 hb1)
  | (go_at_call 6;refine(HP.out _ HT1.out).mono ?_;rintro e w2 ⟨rfl,hb2⟩;have HR2:Hid (Row w2 a1 [2,0,0,0,7,0,1,97]):=HR1.out.below hb2;have HB2:Hid (Below w.heap.size w w2):=HB1.out.trans (hb2.mono HB1.out.size);have tok2:=trivial;clear hb2)
  | (have _h:=tok2;refine wpList_store_row rfl 28 _ _ rfl w2.heap.size CZ rfl rfl 28 #[.int .i64 0,.int .i64 0,.string ⟨#[]⟩,.int .i64 0,.int .i64 0,.int .i64 0,.int .i64 0,.int .i64 0,.bool false,.int .i64 0,.int .i64 0,.int .i64 0,.slice none 0 0,.int .i64 0,.int .i64 0,.int .i64 0,.string ⟨#[]⟩] (heap_alloc_new w2 _) (by rw[HZ1.out];exact Tryz.info28) (by rw[HZ1.out];rfl) HZ2.out ?_;obtain⟨hb9,hl9⟩:=bI w2 #[.int .i64 0,.int .i64 0,.string ⟨#[]⟩,.int .i64 0,.int .i64 0,.int .i64 0,.int .i64 0,.int .i64 0,.bool false,.int .i64 0,.int .i64 0,.int .i64 0,.slice none 0 0,.int .i64 0,.int .i64 0,.int .i64 0,.string ⟨#[]⟩] CZ 28;generalize World.setRow _ w2.heap.size CZ=w4 at *;have HR4:Hid (Row w4 a1 [2,0,0,0,7,0,1,97]):=HR2.out.below hl9;have HB4:Hid (Below w.heap.size w w4):=HB2.out.trans (hl9.mono HB2.out.size);clear hb9 hl9 _h tok2)
  | (go_at_call 15;refine(HB.out _ _ _ HR4.out).mono ?_;rintro e w3 ⟨rfl,hb3⟩;have HB3:Hid (Below w.heap.size w w3):=HB4.out.trans (hb3.mono HB4.out.size);clear hb3))
 go_ret
 exact⟨rfl,HB3.out⟩
theorem aA0 (f:Nat->Nat) (n:Nat):sm f (n+1)=f 0+256 * sm (fun j=>f (j+1)) n:=by
 induction n with
 | zero=>simp[sm]
 | succ n ih=>
  rw[sm,ih]
  simp only[sm,Nat.pow_succ,Nat.mul_add]
  have:f (n+1) * (256 ^ n * 256)=256 * (f (n+1) * 256 ^ n):=by rw[<-Nat.mul_assoc,Nat.mul_comm]
  omega
def hv (l:List Nat) (p:Nat):Nat->Nat
 | 0=>0
 | i+1=>hv l p i * 256+l.getD (p+i) 0
theorem aEy (l:List Nat) (p i:Nat):hv l p i=sm (fun j=>l.getD (p+(i - 1 - j)) 0) i:=by
 induction i with
 | zero=>rfl
 | succ i ih=>
  rw[hv,ih,aA0]
  have e:sm (fun j=>l.getD (p+(i+1 - 1 - (j+1))) 0) i=sm (fun j=>l.getD (p+(i - 1 - j)) 0) i:=kG _ _ _ (fun j hj=>by rw[show i+1 - 1 - (j+1)=i - 1 - j by omega])
  rw[e]
  simp
  omega
theorem aHm (l:List Nat) (p i:Nat) (h:∀j,l.getD j 0 < 256):hv l p i < 256 ^ i:=by rw[aEy];exact qW _ (fun j=>h _) i
theorem zP (l:List Nat) (p size:Nat):getV l p size true=hv l p size:=by
 rw[aEy];exact kG _ _ _ (fun j _=>by simp[plc])
theorem horner (V c i:Nat) (hi:i < 8) (hV:V < 256 ^ i) (hc:c < 256):bits .or .u64 (IntKind.u64.wrap ((V:Int) * 256)) (c:Int)=((V * 256+c:Nat):Int):=by
 have h2:=aHb (i+1) (by omega)
 rw[Nat.pow_succ] at h2
 have e:(V:Int) * 256=((V * 256:Nat):Int):=by simp
 rw[e,wu64 _ (by omega) (by omega),u64_or_nat _ _ (by omega) (by omega),nat_join 8 _ _ (by omega) (by omega)]
theorem aCa (a:Option Addr) (cap len:Nat) (p size:Int) (big:Bool) (w:World) (hl:len<=maxLen) (hp:-9223372036854775808<=p) (hp1:p<=9223372036854775807) (hf:fitsB len p size=false) :
 Calls Tryz.prog 40 #[.slice a len cap,.int .i64 p,.int .i64 size,.bool big] w fun e w'=>e=.returned (.tuple #[.int .u64 0,.bool false])/\w'=w:=by
 unfold maxLen at hl
 have hf':¬(1<=size/\size<=8/\0<=p/\p<=len - size):=by simpa [fitsB] using hf
 clear hf
 by_cases h1:size < 1
 ·go_enter Tryz.func40,Tryz.ntmps40
  go_wp2
  go_ret2
  exact⟨rfl,rfl⟩
 by_cases h2:8 < size
 ·go_enter Tryz.func40,Tryz.ntmps40
  go_wp2
  go_ret2
  exact⟨rfl,rfl⟩
 by_cases h3:p < 0
 ·go_enter Tryz.func40,Tryz.ntmps40
  go_wp2
  go_ret2
  exact⟨rfl,rfl⟩
 by_cases h4:(len:Int) < p
 ·go_enter Tryz.func40,Tryz.ntmps40
  go_wp2
  go_ret2
  exact⟨rfl,rfl⟩
 have h5:(len:Int) - p < size:=by omega
 clear hf'
 go_enter Tryz.func40,Tryz.ntmps40
 go_wp2
 go_ret2
 exact⟨rfl,rfl⟩
theorem aZ (a:Option Addr) (cap:Nat) (l:List Nat) (p size:Nat) (big:Bool) (w:World) (hr:Row w a l) (hl:l.length<=1000000) (h1:1<=size) (h2:size<=8) (h3:p+size<=l.length) :
 Calls Tryz.prog 40 #[.slice a l.length cap,.int .i64 p,.int .i64 size,.bool big] w fun e w'=>e=.returned (.tuple #[.int .u64 (getV l p size big:Nat),.bool true])/\w'=w:=by
 have g1:¬(size:Int) < 1:=by omega
 have g2:¬(8:Int) < (size:Int):=by omega
 have g4:¬(l.length:Int) < (p:Int):=by omega
 have g5:¬((l.length:Int) - (p:Int) < (size:Int)):=by omega
 obtain⟨f,HF⟩:∃f:Nat->Nat,Hid (∀i,i < size->f (i+1)=if big then f i * 256+l.getD (p+i) 0 else f i+l.getD (p+i) 0 * 256 ^ i)/\Hid (f 0=0/\(∀i,f i < 256 ^ i)/\f size=getV l p size big):=by
  cases big
  ·refine⟨sm (fun j=>l.getD (p+plc size false j) 0),fun i _=>?_,rfl,qW _ (fun j=>hr.lt _),rfl⟩
   simp[sm,plc]
  ·refine⟨hv l p,fun i _=>?_,rfl,fun i=>aHm l p i hr.lt,(zP l p size).symm⟩
   simp[hv]
 obtain⟨HS,H0⟩:=HF
 go_enter Tryz.func40,Tryz.ntmps40
 go_wp2
 go_loop [10,11] (fun v i=>∃k:Nat,k<=size/\i=.int .i64 k/\v=.int .u64 (f k:Nat)) (fun _ i=>size - (intOf i).toNat)
 case atStart=>exact⟨0,by omega,rfl,by rw[H0.out.1];rfl⟩
 case round=>
  obtain⟨k,hk,rfl,rfl⟩:=hrel
  by_cases hlt:k < size
  ·obtain⟨b,off,rfl,hc,hlt2⟩:=hr (p+k) (by omega)
   have hst:=HS.out k hlt
   have hfk:=H0.out.2.1 k
   generalize l.getD (p+k) 0=c at *
   have hltq:((p:Int)+k) < (l.length:Int):=by omega
   cases big
   ·have HV:Hid (bits .or .u64 (f k:Nat) (IntKind.u64.wrap ((c:Nat) * 2 ^ (8 * k)))=((f (k+1):Nat):Int)):=by
     show _=_
     rw[uO _ _ k (by omega) hfk hlt2,hst];simp
    clear hst hfk hr
    go_wp2
    exact⟨⟨k+1,by omega,by go_num,by rw[HV.out]⟩,by simp[intOf];omega⟩
   ·have HV:Hid (bits .or .u64 (IntKind.u64.wrap ((f k:Nat) * 256)) (c:Nat)=((f (k+1):Nat):Int)):=by
     show _=_
     rw[horner _ _ k (by omega) hfk hlt2,hst];simp
    clear hst hfk hr
    go_wp2
    exact⟨⟨k+1,by omega,by go_num,by rw[HV.out]⟩,by simp[intOf];omega⟩
  ·go_wp2
   go_ret2
   obtain rfl:k=size:=by omega
   exact⟨by rw[<-H0.out.2.2];rfl,rfl⟩
structure EyC (w0:World) (a:Option Addr) (cap:Nat) (l:List Nat):Prop where
 row:Row w0 a l
 len:l.length<=cap
 cam:cap<=maxLen
 big:l.length<=30000
 nil:a=none->cap=0
structure EyR (w0:World) (a:Option Addr) (cap:Nat) (l:List Nat) (w:World) (st:Ls):Prop where
 box:∃I:Nat,I<=l.length/\w.heap[w0.heap.size]? = some (.cells #[.slice a l.length cap,.int .i64 (I:Int),.bool st.isNone] 68 (0,0))/\∀t,st=some t->t=l.drop I
 bel:Below w0.heap.size w0 w
section
variable {w0 w w':World} {a:Option Addr} {cap:Nat} {l:List Nat} {st:Ls}
theorem EyR.below (h:EyR w0 a cap l w st) (hb:Below w.heap.size w w'):EyR w0 a cap l w' st:=by
 obtain⟨I,hI,hx,r⟩:=h.box
 exact⟨⟨I,hI,(hb.block _ (Array.getElem?_eq_some_iff.1 hx).1).trans hx,r⟩,h.bel.trans (hb.mono h.bel.size)⟩
theorem EyR.lt (h:EyR w0 a cap l w st):w0.heap.size < w.heap.size:=by
 obtain⟨I,hI,hx,r⟩:=h.box
 exact(Array.getElem?_eq_some_iff.1 hx).1
theorem EyR.keep (h:EyR w0 a cap l w st) (hb:Below w0.heap.size w0 w') (hx:w'.heap[w0.heap.size]? = w.heap[w0.heap.size]?):EyR w0 a cap l w' st:=by
 obtain⟨I,hI,hy,r⟩:=h.box
 exact⟨⟨I,hI,hx.trans hy,r⟩,hb⟩
theorem EyR.off {x i:Nat} {v:Value} (h:EyR w0 a cap l w st) (hx:w0.heap.size < x):EyR w0 a cap l (w.setCell ⟨x,i,none⟩ v) st:=
 h.keep (h.bel.setCell (p:=⟨x,i,none⟩) (Nat.le_of_lt hx) v) (heap_setCell_other w ⟨x,i,none⟩ w0.heap.size v (by show w0.heap.size≠x;omega))
theorem EyR.offRow {x:Nat} {cs:Array Value} (h:EyR w0 a cap l w st) (hx:w0.heap.size < x):EyR w0 a cap l (w.setRow x cs) st:=
 h.keep (below_setRow h.bel (Nat.le_of_lt hx) _) (setRow_other _ _ _ _ (by omega))
theorem EyR.grown {M:Nat} {e:TypeId} {s:Nat} {v:Value} {n:Nat} {xs:List Value} (h:EyR w0 a cap l w st) (g:w.grownBy w' v.ownBlock) (ho:w.ownsRow M e s v n xs) (hM:w0.heap.size < M):EyR w0 a cap l w' st:=
 h.keep (h.bel.grown g h.bel.size (fun k hk=>by have:=(ho.lt k hk).1;omega)) (g.block _ h.lt (fun q=>by have:=(ho.lt _ q.symm).1;omega))
theorem EyR.bad (h:EyR w0 a cap l w st):EyR w0 a cap l (w.setCell ⟨w0.heap.size,2,none⟩ (.bool true)) none/\KeepB w0.heap.size w (w.setCell ⟨w0.heap.size,2,none⟩ (.bool true)):=by
 obtain⟨I,hI,hx,r⟩:=h.box
 refine⟨⟨⟨I,hI,?_,fun t e=>by cases e⟩,h.bel.setCell (p:=⟨w0.heap.size,2,none⟩) (Nat.le_refl _) _⟩,KeepB.setCell _ _ _ _⟩
 rw[aH hx]
 rfl
theorem EyR.move {I J:Nat} {b:Bool} (hbl:Below w0.heap.size w0 w) (hx:w.heap[w0.heap.size]? = some (.cells #[.slice a l.length cap,.int .i64 (I:Int),.bool b] 68 (0,0))) (hb:b=false) (hJ:J<=l.length):EyR w0 a cap l (w.setCell ⟨w0.heap.size,1,none⟩ (.int .i64 (J:Int))) (some (l.drop J))/\KeepB w0.heap.size w (w.setCell ⟨w0.heap.size,1,none⟩ (.int .i64 (J:Int))):=by
 refine⟨⟨⟨J,hJ,?_,fun t e=>by injection e with e;exact e.symm⟩,hbl.setCell (p:=⟨w0.heap.size,1,none⟩) (Nat.le_refl _) _⟩,KeepB.setCell _ _ _ _⟩
 rw[aH hx,hb]
 rfl
theorem EyR.byt (C:EyC w0 a cap l) (h:EyR w0 a cap l w st):Byt (lft st):=by
 obtain⟨I,hI,hx,r⟩:=h.box
 cases st with
 | none=>intro c hc;cases hc
 | some t=>
  obtain rfl:=r t rfl
  have hb:Byt l:=bF (fun i=>C.row.lt i)
  intro c hc
  exact hb c (List.mem_of_mem_drop hc)
theorem EyR.open (h:EyR w0 a cap l w st):∃I:Nat,I<=l.length/\w.heap[w0.heap.size]? = some (.cells #[.slice a l.length cap,.int .i64 (I:Int),.bool st.isNone] 68 (0,0))/\(∀t,st=some t->t=l.drop I)/\w.cell? ⟨w0.heap.size,0,none⟩=some (.slice a l.length cap)/\w.cell? ⟨w0.heap.size,1,none⟩=some (.int .i64 (I:Int))/\w.cell? ⟨w0.heap.size,2,none⟩=some (.bool st.isNone)/\w.frozen? ⟨w0.heap.size,1,none⟩=false/\w.frozen? ⟨w0.heap.size,2,none⟩=false:=by
 obtain⟨I,hI,hx,r⟩:=h.box
 exact⟨I,hI,hx,r,(aB hx 0).1,(aB hx 1).1,(aB hx 2).1,(aB hx 1).2,(aB hx 2).2⟩
end
def EP (w0:World) (a:Option Addr) (cap:Nat) (l:List Nat) (w:World) (v:Value) (st:Ls) (e:Ending) (w':World):Prop:=e=.returned v/\EyR w0 a cap l w' st/\KeepB w0.heap.size w w'
theorem aDt (l:List Nat) (I n:Nat):getV (l.drop I) 0 n true=getV l I n true:=by
 unfold getV
 congr 1
 funext j
 simp[List.getD,List.getElem?_drop]
theorem aGf {l:List Nat} {I n:Nat} (h:I+n<=l.length):gN n (some (l.drop I))=(getV l I n true,some (l.drop (I+n))):=by
 simp only[gN]
 rw[if_pos (by rw[List.length_drop];omega),aDt,List.drop_drop]
theorem aG8 {l:List Nat} {I n:Nat} (h:¬I+n<=l.length) (hn:1<=n):gN n (some (l.drop I))=(0,none):=by
 simp only[gN]
 rw[if_neg (by rw[List.length_drop];omega)]
theorem aR (w0 w:World) (a:Option Addr) (cap:Nat) (l:List Nat) (st:Ls) (n:Nat) (Z:Int) (hZ:Z=n) (hn1:1<=n) (hn8:n<=8) (C:EyC w0 a cap l) (h:EyR w0 a cap l w st) :
 Calls Tryz.prog 22 #[(.pointer (some ⟨w0.heap.size,0,none⟩)),.int .i64 Z] w (EP w0 a cap l w (.int .u64 ((gN n st).1:Nat)) (gN n st).2):=by
 subst hZ
 obtain⟨I,hI,hx,ht,c0,c1,c2,f1,f2⟩:=h.open
 have hbig:=C.big
 have HE:Hid (EyR w0 a cap l w st):=h
 have HX:Hid _:=hx
 have HB:Hid (∀m,EyR w0 a cap l (w.drewN m) st):=fun m=>h.below (below_drewN (Below.refl _ _) m)
 have HKW:Hid (∀m,KeepB w0.heap.size w (w.drewN m)):=fun m=>KeepB.of_below (below_drewN (Below.refl _ _) m)
 have HR:Hid (∀m,Row (w.drewN m) a l):=fun m=>(C.row.below h.bel).below (below_drewN (Below.refl _ _) m)
 by_cases hle:I+n<=l.length
 ·have HG:Hid (∀m,Calls Tryz.prog 40 #[.slice a l.length cap,.int .i64 (I:Int),.int .i64 (n:Int),.bool true] (w.drewN m) fun e w'=>e=.returned (.tuple #[.int .u64 (getV l I n true:Nat),.bool true])/\w'=w.drewN m):=fun m=>aZ a cap l I n true _ (HR.out m) (by omega) hn1 hn8 hle
  cases st with
  | none=>
   simp only[Option.isNone_none] at c2
   clear h hx ht C HR HX HE
   go_enter Tryz.func22,Tryz.ntmps22
   go_wp2
   go_quiet (first | (go_at_call 40;exact Calls.quiet_of_same (HG.out _)))
   go_wp2
   go_ret
   exact⟨rfl,(HB.out nq).bad.1,(HKW.out nq).trans (HB.out nq).bad.2⟩
  | some t=>
   obtain rfl:=ht t rfl
   simp only[Option.isNone_some] at c2
   rw[aGf hle]
   have HM:Hid (∀m,EyR w0 a cap l ((w.drewN m).setCell ⟨w0.heap.size,1,none⟩ (.int .i64 ((I+n:Nat):Int))) (some (l.drop (I+n)))/\KeepB w0.heap.size (w.drewN m) ((w.drewN m).setCell ⟨w0.heap.size,1,none⟩ (.int .i64 ((I+n:Nat):Int)))):=fun m=>EyR.move (b:=false) (HB.out m).bel (by have:=HX.out;simpa using this) rfl hle
   have e1:IntKind.i64.wrap ((I:Int)+(n:Int))=((I+n:Nat):Int):=by rw[IntKind.wrap_i64];omega
   generalize I+n=J at *
   clear h hx ht C HR HX HE hle
   generalize getV l I n true=V at *
   go_enter Tryz.func22,Tryz.ntmps22
   go_wp2
   go_quiet (first | (go_at_call 40;exact Calls.quiet_of_same (HG.out _)))
   go_wp2
   go_ret
   exact⟨rfl,(HM.out nq).1,(HKW.out nq).trans (HM.out nq).2⟩
 ·have HG:Hid (∀m,Calls Tryz.prog 40 #[.slice a l.length cap,.int .i64 (I:Int),.int .i64 (n:Int),.bool true] (w.drewN m) fun e w'=>e=.returned (.tuple #[.int .u64 0,.bool false])/\w'=w.drewN m):=fun m=>aCa a cap l.length I n true _ (by unfold maxLen;omega) (by omega) (by omega) (by simp[fitsB];omega)
  have e0:gN n st=(0,none):=by
   cases st with
   | none=>rfl
   | some t=>obtain rfl:=ht t rfl;exact aG8 hle hn1
  rw[e0]
  generalize st.isNone=bb at *
  clear h hx ht C HR HX HE hle
  cases bb
  all_goals
   go_enter Tryz.func22,Tryz.ntmps22
   go_wp2
   go_quiet (first | (go_at_call 40;exact Calls.quiet_of_same (HG.out _)))
   go_wp2
   go_ret
   exact⟨rfl,(HB.out nq).bad.1,(HKW.out nq).trans (HB.out nq).bad.2⟩
theorem aGj {st:Ls} (h:(gN 2 st).2=none):gT st=(⟨#[]⟩,none):=by
 unfold gT
 cases hg:gN 2 st with
 | mk V s2=>rw[hg] at h;simp only at h;subst h;rfl
theorem aGo {st:Ls} {l:List Nat} {I V:Nat} (h:gN 2 st=(V,some (l.drop I))) (hV:I+V<=l.length):gT st=(strN ((l.drop I).take V),some (l.drop (I+V))):=by
 unfold gT
 rw[h]
 unfold gB
 simp only
 rw[if_pos (by rw[List.length_drop];omega),List.drop_drop]
theorem aG6 {st:Ls} {l:List Nat} {I V:Nat} (h:gN 2 st=(V,some (l.drop I))) (hV:¬I+V<=l.length) (hI:I<=l.length):gT st=(⟨#[]⟩,none):=by
 unfold gT
 rw[h]
 unfold gB
 simp only
 rw[if_neg (by rw[List.length_drop];omega)]
theorem kZ (w0 w:World) (a:Option Addr) (cap:Nat) (l:List Nat) (st:Ls) (C:EyC w0 a cap l) (h:EyR w0 a cap l w st) :
 Calls Tryz.prog 41 #[(.pointer (some ⟨w0.heap.size,0,none⟩))] w (EP w0 a cap l w (.string (gT st).1) (gT st).2):=by
 have HG:Hid _:=aR w0 w a cap l st 2 2 rfl (by decide) (by decide) C h
 have hlt:(gN 2 st).1 < 65536:=bL 2 st (EyR.byt C h)
 have HC:Hid (EyC w0 a cap l):=C
 have hbig:=C.big
 have HT0:Hid ((gN 2 st).2=none->gT st=(⟨#[]⟩,none)):=aGj
 have HT1:Hid (∀I V,gN 2 st=(V,some (l.drop I))->I+V<=l.length->gT st=(strN ((l.drop I).take V),some (l.drop (I+V)))):=fun I V h1 h2=>aGo h1 h2
 have HT2:Hid (∀I V,gN 2 st=(V,some (l.drop I))->¬I+V<=l.length->I<=l.length->gT st=(⟨#[]⟩,none)):=fun I V h1 h2 h3=>aG6 h1 h2 h3
 generalize gT st=R at *
 cases hg:gN 2 st with
 | mk V s2=>
  rw[hg] at HG hlt HT0 HT1 HT2
  simp only at HG hlt HT0
  clear h hg C
  have e1:IntKind.i64.wrap (V:Int)=(V:Int):=by rw[IntKind.wrap_i64];omega
  cases s2 with
  | none=>
   have hR:=HT0.out rfl
   subst hR
   clear HT1 HT2 HT0
   go_enter Tryz.func41,Tryz.ntmps41
   go_wp2_with (go_at_call 22;refine Calls.mono HG.out ?_;rintro e w1 ⟨rfl,hw1,hk1⟩;obtain⟨I,hI,hx,ht,c0,c1,c2,f1,f2⟩:=hw1.open;simp only[Option.isNone_none] at c2;have HW:Hid (EyR w0 a cap l w1 none):=hw1;have HK:Hid (KeepB w0.heap.size w w1):=hk1;clear hx ht hw1 hk1)
   go_quiet (fail)
   go_wp2
   go_ret
   have hq:=HW.out.below (below_drewN (Below.refl _ _) nq)
   exact⟨rfl,hq.bad.1,(HK.out.trans (KeepB.of_below (below_drewN (Below.refl _ _) nq))).trans hq.bad.2⟩
  | some t=>
   go_enter Tryz.func41,Tryz.ntmps41
   go_wp2_with (go_at_call 22;refine Calls.mono HG.out ?_;rintro e w1 ⟨rfl,hw1,hk1⟩;obtain⟨I,hI,hx,ht,c0,c1,c2,f1,f2⟩:=hw1.open;obtain rfl:=ht t rfl;simp only[Option.isNone_some] at c2 hx;have HX:Hid _:=hx;have HW:Hid (EyR w0 a cap l w1 (some (l.drop I))):=hw1;have HK:Hid (KeepB w0.heap.size w w1):=hk1;clear hx ht hw1 hk1)
   have e2:IntKind.i64.wrap ((l.length:Int) - (I:Int))=(l.length:Int) - (I:Int):=by rw[IntKind.wrap_i64];omega
   by_cases hle:I+V<=l.length
   ·have hR:=HT1.out I V rfl hle
    subst hR
    have g1:¬(V:Int) > (l.length:Int) - (I:Int):=by omega
    have e3:IntKind.i64.wrap ((I:Int)+(V:Int))=((I+V:Nat):Int):=by rw[IntKind.wrap_i64];omega
    have e4:IntKind.i64.wrap (((I+V:Nat):Int) - (V:Int))=(I:Int):=by rw[IntKind.wrap_i64];omega
    have HM:Hid (∀m,EyR w0 a cap l ((w1.drewN m).setCell ⟨w0.heap.size,1,none⟩ (.int .i64 ((I+V:Nat):Int))) (some (l.drop (I+V)))/\KeepB w0.heap.size (w1.drewN m) ((w1.drewN m).setCell ⟨w0.heap.size,1,none⟩ (.int .i64 ((I+V:Nat):Int)))):=fun m=>EyR.move (b:=false) (HW.out.below (below_drewN (Below.refl _ _) m)).bel (by have:=HX.out;simpa using this) rfl hle
    have HRW:Hid (∀x,EyR w0 a cap l x (some (l.drop (I+V)))->(convert 22 9 (.slice (if cap=I then a else Option.map (fun x=>x.add I) a) (I+V - I) (cap - I))).run Tryz.prog x=.ok (.string (strN ((l.drop I).take V))) x):=fun x hx=>by
     have q:=gO (cap - I) (dG cap I (HC.out.row.below hx.bel) HC.out.len) (show ¬(l.drop I).length < V by rw[List.length_drop];omega)
     rw[show I+V - I=V by omega]
     exact q
    have hJc:I+V<=cap:=Nat.le_trans hle HC.out.len
    have hIJ:I<=I+V:=Nat.le_add_right _ _
    have HDD:Hid (∀m,((w1.drewN m).setCell ⟨w0.heap.size,1,none⟩ (.int .i64 ((I+V:Nat):Int))).cell? ⟨w0.heap.size,0,none⟩=some (.slice a l.length cap)/\((w1.drewN m).setCell ⟨w0.heap.size,1,none⟩ (.int .i64 ((I+V:Nat):Int))).cell? ⟨w0.heap.size,1,none⟩=some (.int .i64 ((I+V:Nat):Int))):=fun m=>by
     have q:(w1.drewN m).heap[w0.heap.size]? = some (.cells #[.slice a l.length cap,.int .i64 (I:Int),.bool false] 68 (0,0)):=by have:=HX.out;simpa using this
     exact⟨by rw[(aB (aH q 1 _) 0).1];rfl,by rw[(aB (aH q 1 _) 1).1];rfl⟩
    clear HT0 HT1 HT2 HX HC HG
    generalize I+V=J at *
    generalize strN ((l.drop I).take V)=S at *
    go_quiet (fail)
    go_wp2
    have hM:=HM.out nq
    have HK2:Hid (KeepB w0.heap.size w ((w1.drewN nq).setCell ⟨w0.heap.size,1,none⟩ (.int .i64 (J:Int)))):=(HK.out.trans (KeepB.of_below (below_drewN (Below.refl _ _) nq))).trans hM.2
    have HM2:Hid (EyR w0 a cap l ((w1.drewN nq).setCell ⟨w0.heap.size,1,none⟩ (.int .i64 (J:Int))) (some (l.drop J))):=hM.1
    have HD2:Hid (((w1.drewN nq).setCell ⟨w0.heap.size,1,none⟩ (.int .i64 (J:Int))).cell? ⟨w0.heap.size,0,none⟩=some (.slice a l.length cap)/\((w1.drewN nq).setCell ⟨w0.heap.size,1,none⟩ (.int .i64 (J:Int))).cell? ⟨w0.heap.size,1,none⟩=some (.int .i64 (J:Int))):=HDD.out nq
    generalize ((w1.drewN nq).setCell ⟨w0.heap.size,1,none⟩ (.int .i64 (J:Int)))=w2 at *
    have z2:∀m,(convert 22 9 (.slice (if cap=I then a else Option.map (fun x=>x.add I) a) (J - I) (cap - I))).run Tryz.prog (w2.drewN m)=.ok (.string S) (w2.drewN m):=fun m=>HRW.out _ (HM2.out.below (below_drewN (Below.refl _ _) m))
    obtain⟨d0,d1⟩:=HD2.out
    clear c0 c1 c2 f1 f2 hM HRW HM HW HD2
    go_quiet (fail)
    go_wp2
    all_goals
     go_ret
     try subst_vars
     exact⟨rfl,HM2.out.below (below_drewN (Below.refl _ _) _),HK2.out.trans (KeepB.of_below (below_drewN (Below.refl _ _) _))⟩
   ·have hR:=HT2.out I V rfl hle hI
    subst hR
    have g1:(V:Int) > (l.length:Int) - (I:Int):=by omega
    clear HT0 HT1 HT2 HX HC HG
    go_quiet (fail)
    go_wp2
    go_ret
    have hq:=HW.out.below (below_drewN (Below.refl _ _) nq)
    exact⟨rfl,hq.bad.1,(HK.out.trans (KeepB.of_below (below_drewN (Below.refl _ _) nq))).trans hq.bad.2⟩
end Go.Proofs.YtaooidckmepdeaaGreatDoor
