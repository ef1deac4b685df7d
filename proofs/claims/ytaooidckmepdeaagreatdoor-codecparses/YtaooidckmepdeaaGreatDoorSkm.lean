/- Yp Ys Sq -/
import Derived.Test.YtaooidckmepdeaaGreatDoorSkl
import Derived.Laws.StructEq
namespace Go.Proofs.YtaooidckmepdeaaGreatDoor
set_option linter.unusedSimpArgs false
set_option linter.unusedVariables false
set_option maxRecDepth 100000
set_option maxHeartbeats 6400000
open Go.RowKit
theorem gY (x:World):(Instr.build 28 #[]).run Tryz.prog x=.ok (.agg z26) x:=by
 refine run_build (P:=Tryz.prog) x 28 _ _ ?_
 kernel_rfl
theorem cL (n:Nat) (st:Ls) (h:Byt (lft st)):Byt (lft (gN n st).2):=by
 cases st with
 | none=>exact h
 | some l=>
  simp only[gN]
  split
  ·intro c hc;exact h c (List.mem_of_mem_drop hc)
  ·intro c hc;cases hc
theorem aIa (w:World) (a:Option Addr) (cap:Nat) (l:List Nat) (ht:Tab w) (hr:Row w a l) (hl:l.length<=cap) (hc:cap<=maxLen) (hn:a=none->cap=0) (hbig:l.length<=30000) (im:Nat) (s1 s2:Ls) (h1:gN 1 (some l)=(0,s1)) (h2:gN 4 s1=(im,s2)) (P:Ending->World->Prop) (HP0:Hid (∀w',Below w.heap.size w w'->P (.returned (.tuple #[.agg z26,.int .i64 13])) w')) :
 Calls Tryz.prog 7 #[.slice a l.length cap] w P:=by
 have HC:Hid (EyC (w.alloc (.cells z26 28)) a cap l):=⟨hr.below (aA _),hl,hc,hbig,hn⟩
 have HT:Hid (Tab (w.alloc (.cells z26 28))):=ht.below (aA _)
 have HBW:Hid (Below w.heap.size w (w.alloc (.cells z26 28))):=aA _
 have HRS:Hid ((w.alloc (.cells z26 28)).heap[w.heap.size]? = some (.cells z26 28 (0,0))):=heap_alloc_new w _
 have HYZ:Hid (w.heap.size < (w.alloc (.cells z26 28)).heap.size):=by show _ < _;simp
 have KQ:Hid (∀x:World,(Instr.alloc 28 true (.tuple #[])).run Tryz.prog x=.ok (.pointer (some ⟨x.heap.size,0,none⟩)) (x.alloc (.cells z26 28))):=eY
 have K0:Hid (∀x:World,(Instr.build 28 #[]).run Tryz.prog x=.ok (.agg z26) x):=gY
 have KA:Hid (∀x:World,(Instr.alloc 73 true (.tuple #[])).run Tryz.prog x=.ok (.pointer (some ⟨x.heap.size,0,none⟩)) (x.alloc (.cells zbg 73))):=cI
 have KB:Hid (∀x:World,(Instr.build 73 #[(0,.int .i64 (0:Int)),(1,.int .i64 (im:Int))]).run Tryz.prog x=.ok (.agg (gbc (0:Int) (im:Int) (fun _=>⟨#[]⟩) (fun _=>0) false (.slice none 0 0) (.slice none 0 0) (.slice none 0 0) (.slice none 0 0))) x):=cD (0:Int) (im:Int)
 have HG1:Hid ((gbc (0:Int) (im:Int) (fun _=>⟨#[]⟩) (fun _=>0) false (.slice none 0 0) (.slice none 0 0) (.slice none 0 0) (.slice none 0 0)).size=29):=bP _ _ _ _ _ _ _ _ _
 have HG2:Hid ((gbc (0:Int) (im:Int) (fun _=>⟨#[]⟩) (fun _=>0) false (.slice none 0 0) (.slice none 0 0) (.slice none 0 0) (.slice none 0 0)).all (·.oneCell')=true):=fB _ _ _ _ _ _ _ _ _ _ _ _ _ _ _ _ _
 have HGZ:Hid (zbg.size=29):=bP _ _ _ _ _ _ _ _ _
 have HQZ:Hid (z26.size=17/\z26.all (·.oneCell')=true):=⟨rfl,by simp[z26,Value.oneCell']⟩
 have HBN:Hid (∀(x:World) X s,x.heap[X]? = some (.cells (gbc (0:Int) (im:Int) (fun _=>⟨#[]⟩) (fun _=>0) false (.slice none 0 0) (.slice none 0 0) (.slice none 0 0) (.slice none 0 0)) 73 (0,0))->BagS x X (0:Int) (im:Int) s bdz):=fun x X s h=>BagS.new s h
 have HGC:Hid (∀(x:World) X,x.heap[X]? = some (.cells (gbc (0:Int) (im:Int) (fun _=>⟨#[]⟩) (fun _=>0) false (.slice none 0 0) (.slice none 0 0) (.slice none 0 0) (.slice none 0 0)) 73 (0,0))->x.cell? ⟨X,0,none⟩=some (.int .i64 (0:Int))):=fun x X h=>by rw[(aB h 0).1];exact(eU ..).1
 have HN1:Hid (∀x,EyR (w.alloc (.cells z26 28)) a cap l x (some l)->Calls Tryz.prog 22 #[.pointer (some ⟨(w.alloc (.cells z26 28)).heap.size,0,none⟩),.int .i64 1] x (EP (w.alloc (.cells z26 28)) a cap l x (.int .u64 (0:Int)) s1)):=fun x hx=>by have q:=aR (w.alloc (.cells z26 28)) x a cap l (some l) 1 1 rfl (by decide) (by decide) HC.out hx;rw[h1] at q;exact q
 have HN2:Hid (∀x,EyR (w.alloc (.cells z26 28)) a cap l x s1->Calls Tryz.prog 22 #[.pointer (some ⟨(w.alloc (.cells z26 28)).heap.size,0,none⟩),.int .i64 4] x (EP (w.alloc (.cells z26 28)) a cap l x (.int .u64 (im:Int)) s2)/\im < 4294967296):=fun x hx=>by have q:=aR (w.alloc (.cells z26 28)) x a cap l s1 4 4 rfl (by decide) (by decide) HC.out hx;have q2:=bL 4 s1 (EyR.byt HC.out hx);rw[h2] at q q2;exact⟨q,q2⟩
 have hkl:0 < 256:=by have q:=bL 1 (some l) (show Byt (lft (some l)) from bF (fun i=>hr.lt i));rw[h1] at q;exact q
 have himl:im < 4294967296:=by have q2:Byt (lft s1):=(by have q:=cL 1 (some l) (show Byt (lft (some l)) from bF (fun i=>hr.lt i));rw[h1] at q;exact q);have q:=bL 4 s1 q2;rw[h2] at q;exact q
 have ek:IntKind.i64.wrap (0:Int)=(0:Int):=by decide
 have ei:IntKind.i64.wrap (im:Int)=(im:Int):=by rw[IntKind.wrap_i64];omega
 have HRW:Hid (∀x,Calls Tryz.prog 23 #[.int .i64 (0:Int),.bool false] x (RwP [] x)):=fun x=>qG (0:Int) (by omega) x
 clear ht hr hl hc hn hkl himl h1 h2
 have tokA:=trivial
 generalize z26=ZQ at *
 generalize zbg=ZB at *
 generalize (gbc (0:Int) (im:Int) (fun _=>⟨#[]⟩) (fun _=>0) false (.slice none 0 0) (.slice none 0 0) (.slice none 0 0) (.slice none 0 0))=CS0 at *
 go_enter Tryz.func7,Tryz.ntmps7
 go_wp2_with (first
  | (have _h:=tokA;refine aM KQ.out rfl rfl w.heap.size (by rfl) ?_;simp only[Act.put,sP];generalize hY:w.alloc (.cells ZQ 28)=y0 at *;clear hY _h tokA;have tok1:=trivial)
  | (have _h:=tok1;go_at_call 22;refine(HN1.out _ (EyR.new y0 a cap l)).mono ?_;rintro e w1 ⟨rfl,hw1,hk9⟩;have HE1:Hid (EyR y0 a cap l w1 s1):=hw1;clear hw1 hk9 _h tok1;have tok2:=trivial)
  | (have _h:=tok2;go_at_call 22;refine(HN2.out _ HE1.out).1.mono ?_;rintro e w2 ⟨rfl,hw1,hk9⟩;have HE2:Hid (EyR y0 a cap l w2 s2):=hw1;clear hw1 hk9 _h tok2;have tokD:=trivial)
  | (have _h:=tokD;refine aL (parts:=#[(0,.tmp 13),(1,.tmp 16)]) KB.out rfl rfl (by rfl) ?_;clear _h tokD;have tokE:=trivial;simp only[Act.put,sP])
  | (have _h:=tokE;refine aM KA.out rfl rfl w2.heap.size (by rfl) ?_;clear _h tokE;have tokF:=trivial;simp only[Act.put,sP])
  | (have _h:=tokF;refine wpList_store_row rfl 73 _ _ rfl w2.heap.size CS0 rfl rfl 73 ZB (by exact heap_alloc_new w2 _) (by rw[HG1.out];exact Tryz.info73) (by rw[HG1.out];exact HGZ.out) HG2.out ?_;obtain⟨hx9,hb9⟩:=bI w2 ZB CS0 73;generalize World.setRow _ w2.heap.size CS0=w3 at *;have HX3:Hid (w3.heap[w2.heap.size]? = some (.cells CS0 73 (0,0))):=hx9;have HE3:Hid (EyR y0 a cap l w3 s2):=HE2.out.below hb9;have HZX:Hid (y0.heap.size < w2.heap.size):=HE2.out.lt;have c0:=HGC.out w3 _ HX3.out;clear hx9 hb9;clear _h tokF;obtain⟨I4,_,_,_,e0,e1,e2,e3,e4⟩:=HE3.out.open;have tokG:=trivial)
  | (have _h:=tokG;go_at_call 23;refine(HRW.out _).mono ?_;rintro e w5 ⟨⟨ga,gc,rfl,hw⟩,hb9⟩;have HE5:Hid (EyR y0 a cap l w5 none):=EyR.below (HE3.out.bad.1) hb9;have HB5:Hid (BagS w5 w2.heap.size (0:Int) (im:Int) none bdz):=BagS.below (HBN.out _ _ _ ((HE3.out.bad.2).box HX3.out (by have:=HZX.out;omega))) hb9;have HWB:Hid (WBox w5 ga []):=hw;clear hw hb9 c0 e0 e1 e2 e3 e4 _h tokG))
 go_loopw [7] (fun iv wr=>iv=.int .i64 0/\wr=w5) (fun iv _=>0)
 case atStart=>exact⟨rfl,rfl⟩
 case round=>
  obtain⟨rfl,rfl⟩:=hrel
  have HEE:Hid (EyR y0 a cap l wr none):=HE5.out
  have HPF:Hid (∀w',Below w.heap.size w w'->P (.returned (.tuple #[.agg ZQ,.int .i64 13])) w'):=HP0.out
  obtain⟨J,hJ,_,hJt,y0',y1,y2,_,_⟩:=HEE.out.open
  simp only[Option.isNone_none] at y2
  have tokY:=trivial
  have HRW2:Hid (wr.heap[w.heap.size]? = some (.cells ZQ 28 (0,0))):=(HEE.out.bel.block w.heap.size HYZ.out).trans HRS.out
  have HBW2:Hid (Below w.heap.size w wr):=HBW.out.trans (HEE.out.bel.mono (Nat.le_of_lt HYZ.out))
  go_wp2_with (first
   | (have _h:=tokY;refine aL (parts:=#[]) K0.out rfl rfl (by rfl) ?_;clear _h tokY;have tokZ:=trivial;simp only[Act.put,sP])
   | (have _h:=tokZ;refine wpList_store_row rfl 28 _ _ rfl w.heap.size ZQ rfl rfl 28 ZQ (by exact HRW2.out) (by rw[HQZ.out.1];exact Tryz.info28) rfl HQZ.out.2 ?_;clear _h tokZ))
  refine bodyPost_ret (v:=.tuple #[.agg ZQ,.int .i64 13]) ?_ rfl (HPF.out _ (below_setRow HBW2.out (Nat.le_refl _) _))
  exact cX (p:=2) (u:=3) (by rfl) _ _ w.heap.size _ _ (by rfl) (by rfl) HQZ.out.1 (setRow_heap _ _ _ _ _ _ HRW2.out)
theorem aId (w:World) (a:Option Addr) (cap:Nat) (l:List Nat) (ht:Tab w) (hr:Row w a l) (hl:l.length<=cap) (hc:cap<=maxLen) (hn:a=none->cap=0) (hbig:l.length<=30000) (kn im:Nat) (s1 s2:Ls) (h1:gN 1 (some l)=(kn,s1)) (h2:gN 4 s1=(im,s2)) (hk:8 < kn) (P:Ending->World->Prop) (HP0:Hid (∀w',Below w.heap.size w w'->P (.returned (.tuple #[.agg z26,.int .i64 13])) w')) :
 Calls Tryz.prog 7 #[.slice a l.length cap] w P:=by
 have HC:Hid (EyC (w.alloc (.cells z26 28)) a cap l):=⟨hr.below (aA _),hl,hc,hbig,hn⟩
 have HT:Hid (Tab (w.alloc (.cells z26 28))):=ht.below (aA _)
 have HBW:Hid (Below w.heap.size w (w.alloc (.cells z26 28))):=aA _
 have HRS:Hid ((w.alloc (.cells z26 28)).heap[w.heap.size]? = some (.cells z26 28 (0,0))):=heap_alloc_new w _
 have HYZ:Hid (w.heap.size < (w.alloc (.cells z26 28)).heap.size):=by show _ < _;simp
 have KQ:Hid (∀x:World,(Instr.alloc 28 true (.tuple #[])).run Tryz.prog x=.ok (.pointer (some ⟨x.heap.size,0,none⟩)) (x.alloc (.cells z26 28))):=eY
 have K0:Hid (∀x:World,(Instr.build 28 #[]).run Tryz.prog x=.ok (.agg z26) x):=gY
 have KA:Hid (∀x:World,(Instr.alloc 73 true (.tuple #[])).run Tryz.prog x=.ok (.pointer (some ⟨x.heap.size,0,none⟩)) (x.alloc (.cells zbg 73))):=cI
 have KB:Hid (∀x:World,(Instr.build 73 #[(0,.int .i64 (kn:Int)),(1,.int .i64 (im:Int))]).run Tryz.prog x=.ok (.agg (gbc (kn:Int) (im:Int) (fun _=>⟨#[]⟩) (fun _=>0) false (.slice none 0 0) (.slice none 0 0) (.slice none 0 0) (.slice none 0 0))) x):=cD (kn:Int) (im:Int)
 have HG1:Hid ((gbc (kn:Int) (im:Int) (fun _=>⟨#[]⟩) (fun _=>0) false (.slice none 0 0) (.slice none 0 0) (.slice none 0 0) (.slice none 0 0)).size=29):=bP _ _ _ _ _ _ _ _ _
 have HG2:Hid ((gbc (kn:Int) (im:Int) (fun _=>⟨#[]⟩) (fun _=>0) false (.slice none 0 0) (.slice none 0 0) (.slice none 0 0) (.slice none 0 0)).all (·.oneCell')=true):=fB _ _ _ _ _ _ _ _ _ _ _ _ _ _ _ _ _
 have HGZ:Hid (zbg.size=29):=bP _ _ _ _ _ _ _ _ _
 have HQZ:Hid (z26.size=17/\z26.all (·.oneCell')=true):=⟨rfl,by simp[z26,Value.oneCell']⟩
 have HBN:Hid (∀(x:World) X s,x.heap[X]? = some (.cells (gbc (kn:Int) (im:Int) (fun _=>⟨#[]⟩) (fun _=>0) false (.slice none 0 0) (.slice none 0 0) (.slice none 0 0) (.slice none 0 0)) 73 (0,0))->BagS x X (kn:Int) (im:Int) s bdz):=fun x X s h=>BagS.new s h
 have HGC:Hid (∀(x:World) X,x.heap[X]? = some (.cells (gbc (kn:Int) (im:Int) (fun _=>⟨#[]⟩) (fun _=>0) false (.slice none 0 0) (.slice none 0 0) (.slice none 0 0) (.slice none 0 0)) 73 (0,0))->x.cell? ⟨X,0,none⟩=some (.int .i64 (kn:Int))):=fun x X h=>by rw[(aB h 0).1];exact(eU ..).1
 have HN1:Hid (∀x,EyR (w.alloc (.cells z26 28)) a cap l x (some l)->Calls Tryz.prog 22 #[.pointer (some ⟨(w.alloc (.cells z26 28)).heap.size,0,none⟩),.int .i64 1] x (EP (w.alloc (.cells z26 28)) a cap l x (.int .u64 (kn:Int)) s1)):=fun x hx=>by have q:=aR (w.alloc (.cells z26 28)) x a cap l (some l) 1 1 rfl (by decide) (by decide) HC.out hx;rw[h1] at q;exact q
 have HN2:Hid (∀x,EyR (w.alloc (.cells z26 28)) a cap l x s1->Calls Tryz.prog 22 #[.pointer (some ⟨(w.alloc (.cells z26 28)).heap.size,0,none⟩),.int .i64 4] x (EP (w.alloc (.cells z26 28)) a cap l x (.int .u64 (im:Int)) s2)/\im < 4294967296):=fun x hx=>by have q:=aR (w.alloc (.cells z26 28)) x a cap l s1 4 4 rfl (by decide) (by decide) HC.out hx;have q2:=bL 4 s1 (EyR.byt HC.out hx);rw[h2] at q q2;exact⟨q,q2⟩
 have hkl:kn < 256:=by have q:=bL 1 (some l) (show Byt (lft (some l)) from bF (fun i=>hr.lt i));rw[h1] at q;exact q
 have himl:im < 4294967296:=by have q2:Byt (lft s1):=(by have q:=cL 1 (some l) (show Byt (lft (some l)) from bF (fun i=>hr.lt i));rw[h1] at q;exact q);have q:=bL 4 s1 q2;rw[h2] at q;exact q
 have ek:IntKind.i64.wrap (kn:Int)=(kn:Int):=by rw[IntKind.wrap_i64];omega
 have ei:IntKind.i64.wrap (im:Int)=(im:Int):=by rw[IntKind.wrap_i64];omega
 have HRW:Hid (∀x,Calls Tryz.prog 23 #[.int .i64 (kn:Int),.bool false] x (RwP [] x)):=fun x=>qG (kn:Int) (by omega) x
 have hkI:(kn:Int) > 8:=by omega
 have hk2:¬(kn:Int) < 1:=by omega
 clear ht hr hl hc hn hkl himl h1 h2
 clear hk
 have tokA:=trivial
 generalize z26=ZQ at *
 generalize zbg=ZB at *
 generalize (gbc (kn:Int) (im:Int) (fun _=>⟨#[]⟩) (fun _=>0) false (.slice none 0 0) (.slice none 0 0) (.slice none 0 0) (.slice none 0 0))=CS0 at *
 go_enter Tryz.func7,Tryz.ntmps7
 go_wp2_with (first
  | (have _h:=tokA;refine aM KQ.out rfl rfl w.heap.size (by rfl) ?_;simp only[Act.put,sP];generalize hY:w.alloc (.cells ZQ 28)=y0 at *;clear hY _h tokA;have tok1:=trivial)
  | (have _h:=tok1;go_at_call 22;refine(HN1.out _ (EyR.new y0 a cap l)).mono ?_;rintro e w1 ⟨rfl,hw1,hk9⟩;have HE1:Hid (EyR y0 a cap l w1 s1):=hw1;clear hw1 hk9 _h tok1;have tok2:=trivial)
  | (have _h:=tok2;go_at_call 22;refine(HN2.out _ HE1.out).1.mono ?_;rintro e w2 ⟨rfl,hw1,hk9⟩;have HE2:Hid (EyR y0 a cap l w2 s2):=hw1;clear hw1 hk9 _h tok2;have tokD:=trivial)
  | (have _h:=tokD;refine aL (parts:=#[(0,.tmp 13),(1,.tmp 16)]) KB.out rfl rfl (by rfl) ?_;clear _h tokD;have tokE:=trivial;simp only[Act.put,sP])
  | (have _h:=tokE;refine aM KA.out rfl rfl w2.heap.size (by rfl) ?_;clear _h tokE;have tokF:=trivial;simp only[Act.put,sP])
  | (have _h:=tokF;refine wpList_store_row rfl 73 _ _ rfl w2.heap.size CS0 rfl rfl 73 ZB (by exact heap_alloc_new w2 _) (by rw[HG1.out];exact Tryz.info73) (by rw[HG1.out];exact HGZ.out) HG2.out ?_;obtain⟨hx9,hb9⟩:=bI w2 ZB CS0 73;generalize World.setRow _ w2.heap.size CS0=w3 at *;have HX3:Hid (w3.heap[w2.heap.size]? = some (.cells CS0 73 (0,0))):=hx9;have HE3:Hid (EyR y0 a cap l w3 s2):=HE2.out.below hb9;have HZX:Hid (y0.heap.size < w2.heap.size):=HE2.out.lt;have c0:=HGC.out w3 _ HX3.out;clear hx9 hb9;clear _h tokF;obtain⟨I4,_,_,_,e0,e1,e2,e3,e4⟩:=HE3.out.open;have tokG:=trivial)
  | (have _h:=tokG;go_at_call 23;refine(HRW.out _).mono ?_;rintro e w5 ⟨⟨ga,gc,rfl,hw⟩,hb9⟩;have HE5:Hid (EyR y0 a cap l w5 none):=EyR.below (HE3.out.bad.1) hb9;have HB5:Hid (BagS w5 w2.heap.size (kn:Int) (im:Int) none bdz):=BagS.below (HBN.out _ _ _ ((HE3.out.bad.2).box HX3.out (by have:=HZX.out;omega))) hb9;have HWB:Hid (WBox w5 ga []):=hw;clear hw hb9 c0 e0 e1 e2 e3 e4 _h tokG))
 go_loopw [7] (fun iv wr=>iv=.int .i64 0/\wr=w5) (fun iv _=>0)
 case atStart=>exact⟨rfl,rfl⟩
 case round=>
  obtain⟨rfl,rfl⟩:=hrel
  have HEE:Hid (EyR y0 a cap l wr none):=HE5.out
  have HPF:Hid (∀w',Below w.heap.size w w'->P (.returned (.tuple #[.agg ZQ,.int .i64 13])) w'):=HP0.out
  obtain⟨J,hJ,_,hJt,y0',y1,y2,_,_⟩:=HEE.out.open
  simp only[Option.isNone_none] at y2
  have tokY:=trivial
  have HRW2:Hid (wr.heap[w.heap.size]? = some (.cells ZQ 28 (0,0))):=(HEE.out.bel.block w.heap.size HYZ.out).trans HRS.out
  have HBW2:Hid (Below w.heap.size w wr):=HBW.out.trans (HEE.out.bel.mono (Nat.le_of_lt HYZ.out))
  go_wp2_with (first
   | (have _h:=tokY;refine aL (parts:=#[]) K0.out rfl rfl (by rfl) ?_;clear _h tokY;have tokZ:=trivial;simp only[Act.put,sP])
   | (have _h:=tokZ;refine wpList_store_row rfl 28 _ _ rfl w.heap.size ZQ rfl rfl 28 ZQ (by exact HRW2.out) (by rw[HQZ.out.1];exact Tryz.info28) rfl HQZ.out.2 ?_;clear _h tokZ))
  refine bodyPost_ret (v:=.tuple #[.agg ZQ,.int .i64 13]) ?_ rfl (HPF.out _ (below_setRow HBW2.out (Nat.le_refl _) _))
  exact cX (p:=2) (u:=3) (by rfl) _ _ w.heap.size _ _ (by rfl) (by rfl) HQZ.out.1 (setRow_heap _ _ _ _ _ _ HRW2.out)
theorem aH1 (w:World) (a:Option Addr) (cap:Nat) (l:List Nat) (ht:Tab w) (hr:Row w a l) (hl:l.length<=cap) (hc:cap<=maxLen) (hn:a=none->cap=0) (hbig:l.length<=30000) (kn im:Nat) (s1 s2:Ls) (h1:gN 1 (some l)=(kn,s1)) (h2:gN 4 s1=(im,s2)) (hk1:1<=kn) (hk:kn<=8) (r:List Nat) (hrow:rowQ (kn:Int)=some r) (P:Ending->World->Prop) (S:Ls) (B:Bd) (HSB:Hid (gFs r bdz s2=(B,S))) (HP0:Hid (S≠some []->∀w',Below w.heap.size w w'->P (.returned (.tuple #[.agg z26,.int .i64 13])) w')) (HP1:Hid (S=some []->∀cs w',QVal w' cs (kn:Int) (im:Int) B->Below w.heap.size w w'->P (.returned (.tuple #[.agg cs,.int .i64 0])) w')) :
 Calls Tryz.prog 7 #[.slice a l.length cap] w P:=by
 have HC:Hid (EyC (w.alloc (.cells z26 28)) a cap l):=⟨hr.below (aA _),hl,hc,hbig,hn⟩
 have HT:Hid (Tab (w.alloc (.cells z26 28))):=ht.below (aA _)
 have HBW:Hid (Below w.heap.size w (w.alloc (.cells z26 28))):=aA _
 have HRS:Hid ((w.alloc (.cells z26 28)).heap[w.heap.size]? = some (.cells z26 28 (0,0))):=heap_alloc_new w _
 have HYZ:Hid (w.heap.size < (w.alloc (.cells z26 28)).heap.size):=by show _ < _;simp
 have KQ:Hid (∀x:World,(Instr.alloc 28 true (.tuple #[])).run Tryz.prog x=.ok (.pointer (some ⟨x.heap.size,0,none⟩)) (x.alloc (.cells z26 28))):=eY
 have K0:Hid (∀x:World,(Instr.build 28 #[]).run Tryz.prog x=.ok (.agg z26) x):=gY
 have KA:Hid (∀x:World,(Instr.alloc 73 true (.tuple #[])).run Tryz.prog x=.ok (.pointer (some ⟨x.heap.size,0,none⟩)) (x.alloc (.cells zbg 73))):=cI
 have KB:Hid (∀x:World,(Instr.build 73 #[(0,.int .i64 (kn:Int)),(1,.int .i64 (im:Int))]).run Tryz.prog x=.ok (.agg (gbc (kn:Int) (im:Int) (fun _=>⟨#[]⟩) (fun _=>0) false (.slice none 0 0) (.slice none 0 0) (.slice none 0 0) (.slice none 0 0))) x):=cD (kn:Int) (im:Int)
 have HG1:Hid ((gbc (kn:Int) (im:Int) (fun _=>⟨#[]⟩) (fun _=>0) false (.slice none 0 0) (.slice none 0 0) (.slice none 0 0) (.slice none 0 0)).size=29):=bP _ _ _ _ _ _ _ _ _
 have HG2:Hid ((gbc (kn:Int) (im:Int) (fun _=>⟨#[]⟩) (fun _=>0) false (.slice none 0 0) (.slice none 0 0) (.slice none 0 0) (.slice none 0 0)).all (·.oneCell')=true):=fB _ _ _ _ _ _ _ _ _ _ _ _ _ _ _ _ _
 have HGZ:Hid (zbg.size=29):=bP _ _ _ _ _ _ _ _ _
 have HQZ:Hid (z26.size=17/\z26.all (·.oneCell')=true):=⟨rfl,by simp[z26,Value.oneCell']⟩
 have HBN:Hid (∀(x:World) X s,x.heap[X]? = some (.cells (gbc (kn:Int) (im:Int) (fun _=>⟨#[]⟩) (fun _=>0) false (.slice none 0 0) (.slice none 0 0) (.slice none 0 0) (.slice none 0 0)) 73 (0,0))->BagS x X (kn:Int) (im:Int) s bdz):=fun x X s h=>BagS.new s h
 have HGC:Hid (∀(x:World) X,x.heap[X]? = some (.cells (gbc (kn:Int) (im:Int) (fun _=>⟨#[]⟩) (fun _=>0) false (.slice none 0 0) (.slice none 0 0) (.slice none 0 0) (.slice none 0 0)) 73 (0,0))->x.cell? ⟨X,0,none⟩=some (.int .i64 (kn:Int))):=fun x X h=>by rw[(aB h 0).1];exact(eU ..).1
 have HN1:Hid (∀x,EyR (w.alloc (.cells z26 28)) a cap l x (some l)->Calls Tryz.prog 22 #[.pointer (some ⟨(w.alloc (.cells z26 28)).heap.size,0,none⟩),.int .i64 1] x (EP (w.alloc (.cells z26 28)) a cap l x (.int .u64 (kn:Int)) s1)):=fun x hx=>by have q:=aR (w.alloc (.cells z26 28)) x a cap l (some l) 1 1 rfl (by decide) (by decide) HC.out hx;rw[h1] at q;exact q
 have HN2:Hid (∀x,EyR (w.alloc (.cells z26 28)) a cap l x s1->Calls Tryz.prog 22 #[.pointer (some ⟨(w.alloc (.cells z26 28)).heap.size,0,none⟩),.int .i64 4] x (EP (w.alloc (.cells z26 28)) a cap l x (.int .u64 (im:Int)) s2)/\im < 4294967296):=fun x hx=>by have q:=aR (w.alloc (.cells z26 28)) x a cap l s1 4 4 rfl (by decide) (by decide) HC.out hx;have q2:=bL 4 s1 (EyR.byt HC.out hx);rw[h2] at q q2;exact⟨q,q2⟩
 have hkl:kn < 256:=by have q:=bL 1 (some l) (show Byt (lft (some l)) from bF (fun i=>hr.lt i));rw[h1] at q;exact q
 have himl:im < 4294967296:=by have q2:Byt (lft s1):=(by have q:=cL 1 (some l) (show Byt (lft (some l)) from bF (fun i=>hr.lt i));rw[h1] at q;exact q);have q:=bL 4 s1 q2;rw[h2] at q;exact q
 have ek:IntKind.i64.wrap (kn:Int)=(kn:Int):=by rw[IntKind.wrap_i64];omega
 have ei:IntKind.i64.wrap (im:Int)=(im:Int):=by rw[IntKind.wrap_i64];omega
 have HRW:Hid (∀x,Calls Tryz.prog 23 #[.int .i64 (kn:Int),.bool false] x (RwP r x)):=fun x=>by have q:=vJ (kn:Int) (by omega) (by omega) x;rw[hrow] at q;exact q
 have HRO:Hid (r.Nodup/\(∀f,f ∈ r->f < 20)/\r.length<=7):=⟨(kC hrow).1,(kC hrow).2,by have q:=@mE (kn:Int);rw[hrow] at q;exact q⟩
 have hkI:¬(kn:Int) > 8:=by omega
 have hk2:¬(kn:Int) < 1:=by omega
 have hk3:¬(kn:Int)=0:=by omega
 have HFD:Hid (∀x X s b f,f < 20->b f=fz->(w.alloc (.cells z26 28)).heap.size < X->BagS x X (kn:Int) (im:Int) s b->EyR (w.alloc (.cells z26 28)) a cap l x s->Calls Tryz.prog 24 #[.pointer (some ⟨(w.alloc (.cells z26 28)).heap.size,0,none⟩),.agg #[.int .i64 (wh f),.int .i64 (f:Int)],.pointer (some ⟨X,0,none⟩)] x (FdP (w.alloc (.cells z26 28)) a cap l x X (kn:Int) (im:Int) (setB b f (gK (kd f) s).1) (gK (kd f) s).2)):=fun x X s b f q1 q2 q3 q4 q5=>nD (w.alloc (.cells z26 28)) x a cap l s HC.out HT.out X (kn:Int) (im:Int) b f q1 q2 q3 q4 q5
 have HUB:Hid (∀(B:Bd) (p:Pt) x,Calls Tryz.prog 25 #[.agg (gbx (kn:Int) (im:Int) B p)] x fun e w'=>e=.returned (.agg (rqc (kn:Int) (im:Int) B ((B 7).n == 1) p.ra p.rc))/\Below x.heap.size x w'):=fun B p x=>wP (kn:Int) (im:Int) (fun f=>(B f).t) (bnn B) ((B 7).n == 1) p.ra (B 11).rs.length p.rc _ _ _ x
 clear ht hr hl hc hn hkl himl h1 h2
 clear hk hk1
 clear hrow
 have tokA:=trivial
 generalize z26=ZQ at *
 generalize zbg=ZB at *
 generalize (gbc (kn:Int) (im:Int) (fun _=>⟨#[]⟩) (fun _=>0) false (.slice none 0 0) (.slice none 0 0) (.slice none 0 0) (.slice none 0 0))=CS0 at *
 go_enter Tryz.func7,Tryz.ntmps7
 go_wp2_with (first
  | (have _h:=tokA;refine aM KQ.out rfl rfl w.heap.size (by rfl) ?_;simp only[Act.put,sP];generalize hY:w.alloc (.cells ZQ 28)=y0 at *;clear hY _h tokA;have tok1:=trivial)
  | (have _h:=tok1;go_at_call 22;refine(HN1.out _ (EyR.new y0 a cap l)).mono ?_;rintro e w1 ⟨rfl,hw1,hk9⟩;have HE1:Hid (EyR y0 a cap l w1 s1):=hw1;clear hw1 hk9 _h tok1;have tok2:=trivial)
  | (have _h:=tok2;go_at_call 22;refine(HN2.out _ HE1.out).1.mono ?_;rintro e w2 ⟨rfl,hw1,hk9⟩;have HE2:Hid (EyR y0 a cap l w2 s2):=hw1;clear hw1 hk9 _h tok2;have tokD:=trivial)
  | (have _h:=tokD;refine aL (parts:=#[(0,.tmp 13),(1,.tmp 16)]) KB.out rfl rfl (by rfl) ?_;clear _h tokD;have tokE:=trivial;simp only[Act.put,sP])
  | (have _h:=tokE;refine aM KA.out rfl rfl w2.heap.size (by rfl) ?_;clear _h tokE;have tokF:=trivial;simp only[Act.put,sP])
  | (have _h:=tokF;refine wpList_store_row rfl 73 _ _ rfl w2.heap.size CS0 rfl rfl 73 ZB (by exact heap_alloc_new w2 _) (by rw[HG1.out];exact Tryz.info73) (by rw[HG1.out];exact HGZ.out) HG2.out ?_;obtain⟨hx9,hb9⟩:=bI w2 ZB CS0 73;generalize World.setRow _ w2.heap.size CS0=w3 at *;have HX3:Hid (w3.heap[w2.heap.size]? = some (.cells CS0 73 (0,0))):=hx9;have HE3:Hid (EyR y0 a cap l w3 s2):=HE2.out.below hb9;have HZX:Hid (y0.heap.size < w2.heap.size):=HE2.out.lt;have c0:=HGC.out w3 _ HX3.out;clear hx9 hb9;clear _h tokF;obtain⟨I4,_,_,_,e0,e1,e2,e3,e4⟩:=HE3.out.open;have tokG:=trivial)
  | (have _h:=tokG;go_at_call 23;refine(HRW.out _).mono ?_;rintro e w5 ⟨⟨ga,gc,rfl,hw⟩,hb9⟩;have HE5:Hid (EyR y0 a cap l w5 s2):=EyR.below HE3.out hb9;have HB5:Hid (BagS w5 w2.heap.size (kn:Int) (im:Int) s2 bdz):=BagS.below (HBN.out _ _ _ HX3.out) hb9;have HWB:Hid (WBox w5 ga r):=hw;clear hw hb9 c0 e0 e1 e2 e3 e4 _h tokG))
 obtain⟨F,HF⟩:∃F:Nat->Bd × Ls,Hid (∀j,gFs (r.take j) bdz s2=F j):=⟨_,fun _=>rfl⟩
 have HF0:Hid (F 0=(bdz,s2)):=by show _=_;rw[<-HF.out,List.take_zero];rfl
 have HFN:Hid (F r.length=(B,S)):=by show _=_;rw[<-HF.out,List.take_length];exact HSB.out
 have HFS:Hid (∀j,j < r.length->F (j+1)=(setB (F j).1 (r.getD j 0) (gK (kd (r.getD j 0)) (F j).2).1,(gK (kd (r.getD j 0)) (F j).2).2)/\(F j).1 (r.getD j 0)=fz):=fun j hj=>⟨by rw[<-HF.out,<-HF.out];exact mI r bdz s2 j hj,by rw[<-HF.out];exact pN _ _ _ _ (jH HRO.out.1 hj)⟩
 clear HSB
 go_loopw [7] (fun iv wr=>∃jj:Nat,jj<=r.length/\iv=.int .i64 jj/\EyR y0 a cap l wr (F jj).2/\BagS wr w2.heap.size (kn:Int) (im:Int) (F jj).2 (F jj).1/\WBox wr ga r) (fun iv _=>r.length - (iof iv).toNat)
 case atStart=>exact⟨0,by omega,rfl,by rw[HF0.out];exact HE5.out,by rw[HF0.out];exact HB5.out,HWB.out⟩
 case round=>
  clear HE5 HB5 HWB HF0
  obtain⟨jj,hjj,rfl,hE,hB,hW⟩:=hrel
  have hl7:=HRO.out.2.2
  have HEE0:Hid (EyR y0 a cap l wr (F jj).2):=hE
  have HBB0:Hid (BagS wr w2.heap.size (kn:Int) (im:Int) (F jj).2 (F jj).1):=hB
  have HWW:Hid (WBox wr ga r):=hW
  by_cases hlt:jj < r.length
  ·have hltI:(jj:Int) < (r.length:Int):=by omega
   obtain⟨g,gcs,rfl,hgb,hgc⟩:∃g cs,ga=some ⟨g,0,none⟩/\wr.heap[g]? = some (.cells cs 78 (0,0))/\∀j,j < r.length->cs[j * 2]? = some (.int .i64 (wh (r.getD j 0)))/\cs[j * 2+1]? = some (.int .i64 ((r.getD j 0:Nat):Int)):=by
    rcases hW with e | q
    ·rw[e] at hlt;cases hlt
    ·exact q
   obtain⟨hc1,hc2⟩:=hgc jj hlt
   obtain⟨hfs,hfz⟩:=HFS.out jj hlt
   have hfm:r.getD jj 0 ∈ r:=by rw[List.getD_eq_getElem?_getD,List.getElem?_eq_getElem hlt];exact List.getElem_mem hlt
   have hf20:=HRO.out.2.1 _ hfm
   generalize r.getD jj 0=f at *
   have d0:wr.cell? ⟨g,jj * 2,none⟩=some (.int .i64 (wh f)):=by rw[(aB hgb _).1];exact hc1
   have d1:wr.cell? ⟨g,jj * 2+1,none⟩=some (.int .i64 (f:Int)):=by rw[(aB hgb _).1];exact hc2
   have HCL:Hid (Calls Tryz.prog 24 #[.pointer (some ⟨y0.heap.size,0,none⟩),.agg #[.int .i64 (wh f),.int .i64 (f:Int)],.pointer (some ⟨w2.heap.size,0,none⟩)] wr (FdP y0 a cap l wr w2.heap.size (kn:Int) (im:Int) (F (jj+1)).1 (F (jj+1)).2)):=by
    have q:=HFD.out wr w2.heap.size (F jj).2 (F jj).1 f hf20 hfz HZX.out hB hE
    rw[hfs]
    exact q
   clear hE hB hW hgb hgc hc1 hc2 hfs hfz hfm hf20
   go_wp2_with (go_at_call 24;refine HCL.out.mono ?_;rintro e x1 ⟨rfl,hey,hbag,hkp⟩;have HEY:Hid _:=hey;have HBG:Hid (BagS x1 w2.heap.size (kn:Int) (im:Int) (F (jj+1)).2 (F (jj+1)).1):=hbag;have HWX:Hid (WBox x1 (some ⟨g,0,none⟩) r):=WBox.keepF HWW.out HEE0.out HBB0.out hkp;clear hey hbag hkp)
   exact⟨⟨jj+1,by omega,by go_num,HEY.out,HBG.out,HWX.out⟩,by simp[iof];omega⟩
  ·obtain rfl:jj=r.length:=by omega
   have HEE:Hid (EyR y0 a cap l wr S):=by have q:=hE;rw[HFN.out] at q;exact q
   have HBB:Hid (BagS wr w2.heap.size (kn:Int) (im:Int) S B):=by have q:=hB;rw[HFN.out] at q;exact q
   clear hE hB hW HEE0 HBB0 HFS HFN HF HFD HWW
   obtain⟨J,hJ,_,hJt,y0',y1,y2,_,_⟩:=HEE.out.open
   have tokY:=trivial
   cases S with
   | none=>
    simp only[Option.isNone_none] at y2
    have HPF:Hid (∀w',Below w.heap.size w w'->P (.returned (.tuple #[.agg ZQ,.int .i64 13])) w'):=HP0.out (by simp)
    have HRW2:Hid (wr.heap[w.heap.size]? = some (.cells ZQ 28 (0,0))):=(HEE.out.bel.block w.heap.size HYZ.out).trans HRS.out
    have HBW2:Hid (Below w.heap.size w wr):=HBW.out.trans (HEE.out.bel.mono (Nat.le_of_lt HYZ.out))
    go_wp2_with (first
     | (have _h:=tokY;refine aL (parts:=#[]) K0.out rfl rfl (by rfl) ?_;clear _h tokY;have tokZ:=trivial;simp only[Act.put,sP])
     | (have _h:=tokZ;refine wpList_store_row rfl 28 _ _ rfl w.heap.size ZQ rfl rfl 28 ZQ (by exact HRW2.out) (by rw[HQZ.out.1];exact Tryz.info28) rfl HQZ.out.2 ?_;clear _h tokZ))
    refine bodyPost_ret (v:=.tuple #[.agg ZQ,.int .i64 13]) ?_ rfl (HPF.out _ (below_setRow HBW2.out (Nat.le_refl _) _))
    exact cX (p:=2) (u:=3) (by rfl) _ _ w.heap.size _ _ (by rfl) (by rfl) HQZ.out.1 (setRow_heap _ _ _ _ _ _ HRW2.out)
   | some t=>
    simp only[Option.isNone_some] at y2
    obtain rfl:=hJt t rfl
    by_cases hJ2:J=l.length
    ·have HPD:Hid (∀cs w',QVal w' cs (kn:Int) (im:Int) B->Below w.heap.size w w'->P (.returned (.tuple #[.agg cs,.int .i64 0])) w'):=HP1.out (by rw[(drop_nil hJ).2 hJ2])
     subst hJ2
     obtain⟨cs9,_,hx9,hp9⟩:=HBB.out.box
     obtain⟨p,rfl,hg9⟩:=hp9 (by simp)
     have HBX:Hid (wr.heap[w2.heap.size]? = some (.cells (gbx (kn:Int) (im:Int) B p) 73 (0,0))):=hx9
     have HGR:Hid (GR wr w2.heap.size B p):=hg9
     have HRW2:Hid (wr.heap[w.heap.size]? = some (.cells ZQ 28 (0,0))):=(HEE.out.bel.block w.heap.size HYZ.out).trans HRS.out
     have HBW2:Hid (Below w.heap.size w wr):=HBW.out.trans (HEE.out.bel.mono (Nat.le_of_lt HYZ.out))
     clear hx9 hp9 hg9 hJt
     go_wp2_with (first
      | (have _h:=tokY;refine wpList_load_row rfl 73 _ rfl w2.heap.size rfl 73 (gbx (kn:Int) (im:Int) B p) (0,0) _ (by exact HBX.out) Tryz.underlying73 rfl (by rw[aAw];exact Tryz.info73) ?_;clear _h tokY;have tokZ:=trivial;simp only[Act.put,sP])
      | (go_at_call 25;refine(HUB.out B p _).mono ?_;rintro e w9 ⟨rfl,hb9⟩;have HB9:Hid (Below wr.heap.size wr w9):=hb9;clear hb9)
      | (have _h:=tokZ;refine wpList_store_row rfl 28 _ _ rfl w.heap.size (rqc (kn:Int) (im:Int) B ((B 7).n == 1) p.ra p.rc) rfl rfl 28 ZQ (by exact(HB9.out.block _ (by have:=HYZ.out;have:=HEE.out.lt;omega)).trans HRW2.out) (by exact Tryz.info28) (by rw[HQZ.out.1];rfl) (by simp[rqc,Value.oneCell']) ?_;clear _h tokZ))
     have hg9:=HGR.out.below HB9.out
     have hr9:(w9.heap[w.heap.size]? = some (.cells ZQ 28 (0,0))):=(HB9.out.block _ (by have:=HYZ.out;have:=HEE.out.lt;omega)).trans HRW2.out
     refine bodyPost_ret (v:=.tuple #[.agg (rqc (kn:Int) (im:Int) B ((B 7).n == 1) p.ra p.rc),.int .i64 0]) ?_ rfl (HPD.out _ _ ⟨p.ra,p.rc,rfl,bV hg9.rs (fun j hj b off e=>setRow_other _ _ _ _ (by have:=hg9.l1 _ e;have:=HYZ.out;have:=HZX.out;simp at *;omega))⟩ (below_setRow (HBW2.out.trans (HB9.out.mono HBW2.out.size)) (Nat.le_refl _) _))
     exact cX (p:=2) (u:=3) (by rfl) _ _ w.heap.size _ _ (by rfl) (by rfl) rfl (setRow_heap _ _ _ _ _ _ hr9)
    ·have hne:((J:Int) != (l.length:Int))=true:=by simp;omega
     have HPF:Hid (∀w',Below w.heap.size w w'->P (.returned (.tuple #[.agg ZQ,.int .i64 13])) w'):=HP0.out (fun e=>by injection e with e;exact hJ2 ((drop_nil hJ).1 e))
     clear hJt hJ2
     have HRW2:Hid (wr.heap[w.heap.size]? = some (.cells ZQ 28 (0,0))):=(HEE.out.bel.block w.heap.size HYZ.out).trans HRS.out
     have HBW2:Hid (Below w.heap.size w wr):=HBW.out.trans (HEE.out.bel.mono (Nat.le_of_lt HYZ.out))
     go_wp2_with (first
      | (have _h:=tokY;refine aL (parts:=#[]) K0.out rfl rfl (by rfl) ?_;clear _h tokY;have tokZ:=trivial;simp only[Act.put,sP])
      | (have _h:=tokZ;refine wpList_store_row rfl 28 _ _ rfl w.heap.size ZQ rfl rfl 28 ZQ (by exact HRW2.out) (by rw[HQZ.out.1];exact Tryz.info28) rfl HQZ.out.2 ?_;clear _h tokZ))
     refine bodyPost_ret (v:=.tuple #[.agg ZQ,.int .i64 13]) ?_ rfl (HPF.out _ (below_setRow HBW2.out (Nat.le_refl _) _))
     exact cX (p:=2) (u:=3) (by rfl) _ _ w.heap.size _ _ (by rfl) (by rfl) HQZ.out.1 (setRow_heap _ _ _ _ _ _ HRW2.out)
def PQ (l:List Nat) (w:World) (e:Ending) (w':World):Prop:=(reqP l=none->e=.returned (.tuple #[.agg z26,.int .i64 13]))/\(∀k i b,reqP l=some (k,i,b)->∃cs,e=.returned (.tuple #[.agg cs,.int .i64 0])/\QVal w' cs k i b)/\Below w.heap.size w w'
theorem oF (w:World) (a:Option Addr) (cap:Nat) (l:List Nat) (ht:Tab w) (hr:Row w a l) (hl:l.length<=cap) (hc:cap<=maxLen) (hn:a=none->cap=0) (hbig:l.length<=30000) :
 Calls Tryz.prog 7 #[.slice a l.length cap] w (PQ l w):=by
 obtain⟨kn,s1,h1⟩:∃kn s1,gN 1 (some l)=(kn,s1):=⟨_,_,rfl⟩
 obtain⟨im,s2,h2⟩:∃im s2,gN 4 s1=(im,s2):=⟨_,_,rfl⟩
 have hS:reqS l=(((kn:Int),(im:Int),(gFs (rowOr (rowQ (kn:Int))) bdz s2).1),(gFs (rowOr (rowQ (kn:Int))) bdz s2).2):=by
  unfold reqS gNat
  simp only[h1,h2]
 have no:rowQ (kn:Int)=none->reqP l=none:=fun q=>by unfold reqP;rw[hS];simp[q]
 have pf:reqP l=none->∀w',Below w.heap.size w w'->PQ l w (.returned (.tuple #[.agg z26,.int .i64 13])) w':=fun q w' hb=>⟨fun _=>rfl,fun k i b e=>(by rw[q] at e;cases e),hb⟩
 by_cases h0:kn=0
 ·subst h0
  exact aIa w a cap l ht hr hl hc hn hbig im s1 s2 h1 h2 _ (pf (no rfl))
 by_cases h8:8 < kn
 ·have hq:rowQ (kn:Int)=none:=by
   unfold rowQ
   rw[if_neg (by omega),if_neg (by omega),if_neg (by omega),if_neg (by omega),if_neg (by omega),if_neg (by omega),if_neg (by omega),if_neg (by omega)]
  exact aId w a cap l ht hr hl hc hn hbig kn im s1 s2 h1 h2 h8 _ (pf (no hq))
 obtain⟨r,hrow⟩:∃r,rowQ (kn:Int)=some r:=by
  rcases(show kn=1∨kn=2∨kn=3∨kn=4∨kn=5∨kn=6∨kn=7∨kn=8 by omega) with rfl | rfl | rfl | rfl | rfl | rfl | rfl | rfl<;>exact⟨_,rfl⟩
 have hP:reqP l=if (gFs r bdz s2).2=some [] then some ((kn:Int),(im:Int),(gFs r bdz s2).1) else none:=by
  unfold reqP
  rw[hS]
  simp[hrow,rowOr]
 refine aH1 w a cap l ht hr hl hc hn hbig kn im s1 s2 h1 h2 (by omega) (by omega) r hrow _ (gFs r bdz s2).2 (gFs r bdz s2).1 rfl (fun q=>pf (by rw[hP,if_neg q])) (fun q cs w' hv hb=>⟨fun e=>(by rw[hP,if_pos q] at e;cases e),fun k i b e=>?_,hb⟩)
 rw[hP,if_pos q] at e
 injection e with e
 injection e with e1 e2
 injection e2 with e2 e3
 subst e1 e2 e3
 exact⟨cs,rfl,hv⟩
theorem cP (x:World):(Instr.alloc 38 true (.tuple #[])).run Tryz.prog x=.ok (.pointer (some ⟨x.heap.size,0,none⟩)) (x.alloc (.cells z40 38)):=by
 go_simp
 rfl
theorem dC (x:World):(Instr.build 38 #[]).run Tryz.prog x=.ok (.agg z40) x:=by
 refine run_build (P:=Tryz.prog) x 38 _ _ ?_
 kernel_rfl
theorem wI {k:Int}:(rowOr (rowA k)).length<=7:=by
 unfold rowA
 repeat' split
 all_goals simp[rowOr]
theorem aH7 (w:World) (a:Option Addr) (cap:Nat) (l:List Nat) (ht:Tab w) (hr:Row w a l) (hl:l.length<=cap) (hc:cap<=maxLen) (hn:a=none->cap=0) (hbig:l.length<=30000) (im:Nat) (s1 s2 s3:Ls) (h1:gN 1 (some l)=(0,s1)) (h2:gN 4 s1=(im,s2)) (h3:gN 1 s2=(0,s3)) (P:Ending->World->Prop) (HP0:Hid (∀w',Below w.heap.size w w'->P (.returned (.tuple #[.agg z40,.int .i64 13])) w')) :
 Calls Tryz.prog 9 #[.slice a l.length cap] w P:=by
 have HC:Hid (EyC (w.alloc (.cells z40 38)) a cap l):=⟨hr.below (aA _),hl,hc,hbig,hn⟩
 have HT:Hid (Tab (w.alloc (.cells z40 38))):=ht.below (aA _)
 have HBW:Hid (Below w.heap.size w (w.alloc (.cells z40 38))):=aA _
 have HRS:Hid ((w.alloc (.cells z40 38)).heap[w.heap.size]? = some (.cells z40 38 (0,0))):=heap_alloc_new w _
 have HYZ:Hid (w.heap.size < (w.alloc (.cells z40 38)).heap.size):=by show _ < _;simp
 have KQ:Hid (∀x:World,(Instr.alloc 38 true (.tuple #[])).run Tryz.prog x=.ok (.pointer (some ⟨x.heap.size,0,none⟩)) (x.alloc (.cells z40 38))):=cP
 have K0:Hid (∀x:World,(Instr.build 38 #[]).run Tryz.prog x=.ok (.agg z40) x):=dC
 have KA:Hid (∀x:World,(Instr.alloc 73 true (.tuple #[])).run Tryz.prog x=.ok (.pointer (some ⟨x.heap.size,0,none⟩)) (x.alloc (.cells zbg 73))):=cI
 have KB:Hid (∀x:World,(Instr.build 73 #[(0,.int .i64 (0:Int)),(1,.int .i64 (im:Int))]).run Tryz.prog x=.ok (.agg (gbc (0:Int) (im:Int) (fun _=>⟨#[]⟩) (fun _=>0) false (.slice none 0 0) (.slice none 0 0) (.slice none 0 0) (.slice none 0 0))) x):=cD (0:Int) (im:Int)
 have HG1:Hid ((gbc (0:Int) (im:Int) (fun _=>⟨#[]⟩) (fun _=>0) false (.slice none 0 0) (.slice none 0 0) (.slice none 0 0) (.slice none 0 0)).size=29):=bP _ _ _ _ _ _ _ _ _
 have HG2:Hid ((gbc (0:Int) (im:Int) (fun _=>⟨#[]⟩) (fun _=>0) false (.slice none 0 0) (.slice none 0 0) (.slice none 0 0) (.slice none 0 0)).all (·.oneCell')=true):=fB _ _ _ _ _ _ _ _ _ _ _ _ _ _ _ _ _
 have HGZ:Hid (zbg.size=29):=bP _ _ _ _ _ _ _ _ _
 have HQZ:Hid (z40.size=9/\z40.all (·.oneCell')=true):=⟨rfl,by simp[z40,Value.oneCell']⟩
 have HBN:Hid (∀(x:World) X s,x.heap[X]? = some (.cells (gbc (0:Int) (im:Int) (fun _=>⟨#[]⟩) (fun _=>0) false (.slice none 0 0) (.slice none 0 0) (.slice none 0 0) (.slice none 0 0)) 73 (0,0))->BagS x X (0:Int) (im:Int) s bdz):=fun x X s h=>BagS.new s h
 have HGC:Hid (∀(x:World) X,x.heap[X]? = some (.cells (gbc (0:Int) (im:Int) (fun _=>⟨#[]⟩) (fun _=>0) false (.slice none 0 0) (.slice none 0 0) (.slice none 0 0) (.slice none 0 0)) 73 (0,0))->x.cell? ⟨X,0,none⟩=some (.int .i64 (0:Int))):=fun x X h=>by rw[(aB h 0).1];exact(eU ..).1
 have HN1:Hid (∀x,EyR (w.alloc (.cells z40 38)) a cap l x (some l)->Calls Tryz.prog 22 #[.pointer (some ⟨(w.alloc (.cells z40 38)).heap.size,0,none⟩),.int .i64 1] x (EP (w.alloc (.cells z40 38)) a cap l x (.int .u64 (0:Int)) s1)):=fun x hx=>by have q:=aR (w.alloc (.cells z40 38)) x a cap l (some l) 1 1 rfl (by decide) (by decide) HC.out hx;rw[h1] at q;exact q
 have HN2:Hid (∀x,EyR (w.alloc (.cells z40 38)) a cap l x s1->Calls Tryz.prog 22 #[.pointer (some ⟨(w.alloc (.cells z40 38)).heap.size,0,none⟩),.int .i64 4] x (EP (w.alloc (.cells z40 38)) a cap l x (.int .u64 (im:Int)) s2)/\im < 4294967296):=fun x hx=>by have q:=aR (w.alloc (.cells z40 38)) x a cap l s1 4 4 rfl (by decide) (by decide) HC.out hx;have q2:=bL 4 s1 (EyR.byt HC.out hx);rw[h2] at q q2;exact⟨q,q2⟩
 have HN3:Hid (∀x,EyR (w.alloc (.cells z40 38)) a cap l x s2->Calls Tryz.prog 22 #[.pointer (some ⟨(w.alloc (.cells z40 38)).heap.size,0,none⟩),.int .i64 1] x (EP (w.alloc (.cells z40 38)) a cap l x (.int .u64 (0:Int)) s3)):=fun x hx=>by have q:=aR (w.alloc (.cells z40 38)) x a cap l s2 1 1 rfl (by decide) (by decide) HC.out hx;rw[h3] at q;exact q
 have hkl:0 < 256:=by have q:=bL 1 (some l) (show Byt (lft (some l)) from bF (fun i=>hr.lt i));rw[h1] at q;exact q
 have hdl:0 < 256:=by
  have q1:Byt (lft s1):=by have q:=cL 1 (some l) (show Byt (lft (some l)) from bF (fun i=>hr.lt i));rw[h1] at q;exact q
  have q2:Byt (lft s2):=by have q:=cL 4 s1 q1;rw[h2] at q;exact q
  have q:=bL 1 s2 q2
  rw[h3] at q
  exact q
 have himl:im < 4294967296:=by have q2:Byt (lft s1):=(by have q:=cL 1 (some l) (show Byt (lft (some l)) from bF (fun i=>hr.lt i));rw[h1] at q;exact q);have q:=bL 4 s1 q2;rw[h2] at q;exact q
 have ek:IntKind.i64.wrap (0:Int)=(0:Int):=by decide
 have ei:IntKind.i64.wrap (im:Int)=(im:Int):=by rw[IntKind.wrap_i64];omega
 have ed:IntKind.i64.wrap (0:Int)=(0:Int):=by decide
 have HRW:Hid (∀x,Calls Tryz.prog 23 #[.int .i64 (0:Int),.bool true] x (RwP [] x)):=fun x=>mW (0:Int) (by omega) x
 clear ht hr hl hc hn hkl himl h1 h2 h3 hdl
 have tokA:=trivial
 generalize z40=ZQ at *
 generalize zbg=ZB at *
 generalize (gbc (0:Int) (im:Int) (fun _=>⟨#[]⟩) (fun _=>0) false (.slice none 0 0) (.slice none 0 0) (.slice none 0 0) (.slice none 0 0))=CS0 at *
 go_enter Tryz.func9,Tryz.ntmps9
 go_wp2_with (first
  | (have _h:=tokA;refine aM KQ.out rfl rfl w.heap.size (by rfl) ?_;simp only[Act.put,sP];generalize hY:w.alloc (.cells ZQ 38)=y0 at *;clear hY _h tokA;have tok1:=trivial)
  | (have _h:=tok1;go_at_call 22;refine(HN1.out _ (EyR.new y0 a cap l)).mono ?_;rintro e w1 ⟨rfl,hw1,hk9⟩;have HE1:Hid (EyR y0 a cap l w1 s1):=hw1;clear hw1 hk9 _h tok1;have tok2:=trivial)
  | (have _h:=tok2;go_at_call 22;refine(HN2.out _ HE1.out).1.mono ?_;rintro e w2 ⟨rfl,hw1,hk9⟩;have HE2:Hid (EyR y0 a cap l w2 s2):=hw1;clear hw1 hk9 _h tok2;have tokD:=trivial)
  | (have _h:=tokD;refine aL (parts:=#[(0,.tmp 14),(1,.tmp 17)]) KB.out rfl rfl (by rfl) ?_;clear _h tokD;have tokE:=trivial;simp only[Act.put,sP])
  | (have _h:=tokE;refine aM KA.out rfl rfl w2.heap.size (by rfl) ?_;clear _h tokE;have tokF:=trivial;simp only[Act.put,sP])
  | (have _h:=tokF;refine wpList_store_row rfl 73 _ _ rfl w2.heap.size CS0 rfl rfl 73 ZB (by exact heap_alloc_new w2 _) (by rw[HG1.out];exact Tryz.info73) (by rw[HG1.out];exact HGZ.out) HG2.out ?_;obtain⟨hx9,hb9⟩:=bI w2 ZB CS0 73;generalize World.setRow _ w2.heap.size CS0=w3 at *;have HX3:Hid (w3.heap[w2.heap.size]? = some (.cells CS0 73 (0,0))):=hx9;have HE3:Hid (EyR y0 a cap l w3 s2):=HE2.out.below hb9;have HZX:Hid (y0.heap.size < w2.heap.size):=HE2.out.lt;have c0:=HGC.out w3 _ HX3.out;clear hx9 hb9;clear _h tokF;have tokG:=trivial)
  | (have _h:=tokG;go_at_call 22;refine(HN3.out _ HE3.out).mono ?_;rintro e w4 ⟨rfl,hw1,hk9⟩;have HE4:Hid (EyR y0 a cap l w4 s3):=hw1;have HX4:Hid (w4.heap[w2.heap.size]? = some (.cells CS0 73 (0,0))):=hk9.box HX3.out (by have:=HZX.out;omega);clear c0;have c0:=HGC.out w4 _ HX4.out;clear hw1 hk9 _h tokG;obtain⟨I4,_,_,_,e0,e1,e2,e3,e4⟩:=HE4.out.open;have tokH:=trivial)
  | (have _h:=tokH;go_at_call 23;refine(HRW.out _).mono ?_;rintro e w5 ⟨⟨ga,gc,rfl,hw⟩,hb9⟩;have HE5:Hid (EyR y0 a cap l w5 none):=EyR.below (HE4.out.bad.1) hb9;have HB5:Hid (BagS w5 w2.heap.size (0:Int) (im:Int) none bdz):=BagS.below (HBN.out _ _ _ ((HE4.out.bad.2).box HX4.out (by have:=HZX.out;omega))) hb9;have HWB:Hid (WBox w5 ga []):=hw;clear hw hb9 c0 e0 e1 e2 e3 e4 _h tokH))
 go_loopw [8] (fun iv wr=>iv=.int .i64 0/\wr=w5) (fun iv _=>0)
 case atStart=>exact⟨rfl,rfl⟩
 case round=>
  obtain⟨rfl,rfl⟩:=hrel
  have HEE:Hid (EyR y0 a cap l wr none):=HE5.out
  have HPF:Hid (∀w',Below w.heap.size w w'->P (.returned (.tuple #[.agg ZQ,.int .i64 13])) w'):=HP0.out
  obtain⟨J,hJ,_,hJt,y0',y1,y2,_,_⟩:=HEE.out.open
  simp only[Option.isNone_none] at y2
  have tokY:=trivial
  have HRW2:Hid (wr.heap[w.heap.size]? = some (.cells ZQ 38 (0,0))):=(HEE.out.bel.block w.heap.size HYZ.out).trans HRS.out
  have HBW2:Hid (Below w.heap.size w wr):=HBW.out.trans (HEE.out.bel.mono (Nat.le_of_lt HYZ.out))
  go_wp2_with (first
   | (have _h:=tokY;refine aL (parts:=#[]) K0.out rfl rfl (by rfl) ?_;clear _h tokY;have tokZ:=trivial;simp only[Act.put,sP])
   | (have _h:=tokZ;refine wpList_store_row rfl 38 _ _ rfl w.heap.size ZQ rfl rfl 38 ZQ (by exact HRW2.out) (by rw[HQZ.out.1];exact Tryz.info38) rfl HQZ.out.2 ?_;clear _h tokZ))
  refine bodyPost_ret (v:=.tuple #[.agg ZQ,.int .i64 13]) ?_ rfl (HPF.out _ (below_setRow HBW2.out (Nat.le_refl _) _))
  exact bO (p:=2) (u:=3) (by rfl) _ _ w.heap.size _ _ (by rfl) (by rfl) HQZ.out.1 (setRow_heap _ _ _ _ _ _ HRW2.out)
theorem aH2 (w:World) (a:Option Addr) (cap:Nat) (l:List Nat) (ht:Tab w) (hr:Row w a l) (hl:l.length<=cap) (hc:cap<=maxLen) (hn:a=none->cap=0) (hbig:l.length<=30000) (kn im:Nat) (s1 s2 s3:Ls) (h1:gN 1 (some l)=(kn,s1)) (h2:gN 4 s1=(im,s2)) (h3:gN 1 s2=(0,s3)) (hk:8 < kn) (P:Ending->World->Prop) (HP0:Hid (∀w',Below w.heap.size w w'->P (.returned (.tuple #[.agg z40,.int .i64 13])) w')) :
 Calls Tryz.prog 9 #[.slice a l.length cap] w P:=by
 have HC:Hid (EyC (w.alloc (.cells z40 38)) a cap l):=⟨hr.below (aA _),hl,hc,hbig,hn⟩
 have HT:Hid (Tab (w.alloc (.cells z40 38))):=ht.below (aA _)
 have HBW:Hid (Below w.heap.size w (w.alloc (.cells z40 38))):=aA _
 have HRS:Hid ((w.alloc (.cells z40 38)).heap[w.heap.size]? = some (.cells z40 38 (0,0))):=heap_alloc_new w _
 have HYZ:Hid (w.heap.size < (w.alloc (.cells z40 38)).heap.size):=by show _ < _;simp
 have KQ:Hid (∀x:World,(Instr.alloc 38 true (.tuple #[])).run Tryz.prog x=.ok (.pointer (some ⟨x.heap.size,0,none⟩)) (x.alloc (.cells z40 38))):=cP
 have K0:Hid (∀x:World,(Instr.build 38 #[]).run Tryz.prog x=.ok (.agg z40) x):=dC
 have KA:Hid (∀x:World,(Instr.alloc 73 true (.tuple #[])).run Tryz.prog x=.ok (.pointer (some ⟨x.heap.size,0,none⟩)) (x.alloc (.cells zbg 73))):=cI
 have KB:Hid (∀x:World,(Instr.build 73 #[(0,.int .i64 (kn:Int)),(1,.int .i64 (im:Int))]).run Tryz.prog x=.ok (.agg (gbc (kn:Int) (im:Int) (fun _=>⟨#[]⟩) (fun _=>0) false (.slice none 0 0) (.slice none 0 0) (.slice none 0 0) (.slice none 0 0))) x):=cD (kn:Int) (im:Int)
 have HG1:Hid ((gbc (kn:Int) (im:Int) (fun _=>⟨#[]⟩) (fun _=>0) false (.slice none 0 0) (.slice none 0 0) (.slice none 0 0) (.slice none 0 0)).size=29):=bP _ _ _ _ _ _ _ _ _
 have HG2:Hid ((gbc (kn:Int) (im:Int) (fun _=>⟨#[]⟩) (fun _=>0) false (.slice none 0 0) (.slice none 0 0) (.slice none 0 0) (.slice none 0 0)).all (·.oneCell')=true):=fB _ _ _ _ _ _ _ _ _ _ _ _ _ _ _ _ _
 have HGZ:Hid (zbg.size=29):=bP _ _ _ _ _ _ _ _ _
 have HQZ:Hid (z40.size=9/\z40.all (·.oneCell')=true):=⟨rfl,by simp[z40,Value.oneCell']⟩
 have HBN:Hid (∀(x:World) X s,x.heap[X]? = some (.cells (gbc (kn:Int) (im:Int) (fun _=>⟨#[]⟩) (fun _=>0) false (.slice none 0 0) (.slice none 0 0) (.slice none 0 0) (.slice none 0 0)) 73 (0,0))->BagS x X (kn:Int) (im:Int) s bdz):=fun x X s h=>BagS.new s h
 have HGC:Hid (∀(x:World) X,x.heap[X]? = some (.cells (gbc (kn:Int) (im:Int) (fun _=>⟨#[]⟩) (fun _=>0) false (.slice none 0 0) (.slice none 0 0) (.slice none 0 0) (.slice none 0 0)) 73 (0,0))->x.cell? ⟨X,0,none⟩=some (.int .i64 (kn:Int))):=fun x X h=>by rw[(aB h 0).1];exact(eU ..).1
 have HN1:Hid (∀x,EyR (w.alloc (.cells z40 38)) a cap l x (some l)->Calls Tryz.prog 22 #[.pointer (some ⟨(w.alloc (.cells z40 38)).heap.size,0,none⟩),.int .i64 1] x (EP (w.alloc (.cells z40 38)) a cap l x (.int .u64 (kn:Int)) s1)):=fun x hx=>by have q:=aR (w.alloc (.cells z40 38)) x a cap l (some l) 1 1 rfl (by decide) (by decide) HC.out hx;rw[h1] at q;exact q
 have HN2:Hid (∀x,EyR (w.alloc (.cells z40 38)) a cap l x s1->Calls Tryz.prog 22 #[.pointer (some ⟨(w.alloc (.cells z40 38)).heap.size,0,none⟩),.int .i64 4] x (EP (w.alloc (.cells z40 38)) a cap l x (.int .u64 (im:Int)) s2)/\im < 4294967296):=fun x hx=>by have q:=aR (w.alloc (.cells z40 38)) x a cap l s1 4 4 rfl (by decide) (by decide) HC.out hx;have q2:=bL 4 s1 (EyR.byt HC.out hx);rw[h2] at q q2;exact⟨q,q2⟩
 have HN3:Hid (∀x,EyR (w.alloc (.cells z40 38)) a cap l x s2->Calls Tryz.prog 22 #[.pointer (some ⟨(w.alloc (.cells z40 38)).heap.size,0,none⟩),.int .i64 1] x (EP (w.alloc (.cells z40 38)) a cap l x (.int .u64 (0:Int)) s3)):=fun x hx=>by have q:=aR (w.alloc (.cells z40 38)) x a cap l s2 1 1 rfl (by decide) (by decide) HC.out hx;rw[h3] at q;exact q
 have hkl:kn < 256:=by have q:=bL 1 (some l) (show Byt (lft (some l)) from bF (fun i=>hr.lt i));rw[h1] at q;exact q
 have hdl:0 < 256:=by
  have q1:Byt (lft s1):=by have q:=cL 1 (some l) (show Byt (lft (some l)) from bF (fun i=>hr.lt i));rw[h1] at q;exact q
  have q2:Byt (lft s2):=by have q:=cL 4 s1 q1;rw[h2] at q;exact q
  have q:=bL 1 s2 q2
  rw[h3] at q
  exact q
 have himl:im < 4294967296:=by have q2:Byt (lft s1):=(by have q:=cL 1 (some l) (show Byt (lft (some l)) from bF (fun i=>hr.lt i));rw[h1] at q;exact q);have q:=bL 4 s1 q2;rw[h2] at q;exact q
 have ek:IntKind.i64.wrap (kn:Int)=(kn:Int):=by rw[IntKind.wrap_i64];omega
 have ei:IntKind.i64.wrap (im:Int)=(im:Int):=by rw[IntKind.wrap_i64];omega
 have ed:IntKind.i64.wrap (0:Int)=(0:Int):=by decide
 have HRW:Hid (∀x,Calls Tryz.prog 23 #[.int .i64 (kn:Int),.bool true] x (RwP [] x)):=fun x=>mW (kn:Int) (by omega) x
 have hkI:(kn:Int) > 8:=by omega
 have hk2:¬(kn:Int) < 1:=by omega
 clear ht hr hl hc hn hkl himl h1 h2 h3 hdl
 clear hk
 have tokA:=trivial
 generalize z40=ZQ at *
 generalize zbg=ZB at *
 generalize (gbc (kn:Int) (im:Int) (fun _=>⟨#[]⟩) (fun _=>0) false (.slice none 0 0) (.slice none 0 0) (.slice none 0 0) (.slice none 0 0))=CS0 at *
 go_enter Tryz.func9,Tryz.ntmps9
 go_wp2_with (first
  | (have _h:=tokA;refine aM KQ.out rfl rfl w.heap.size (by rfl) ?_;simp only[Act.put,sP];generalize hY:w.alloc (.cells ZQ 38)=y0 at *;clear hY _h tokA;have tok1:=trivial)
  | (have _h:=tok1;go_at_call 22;refine(HN1.out _ (EyR.new y0 a cap l)).mono ?_;rintro e w1 ⟨rfl,hw1,hk9⟩;have HE1:Hid (EyR y0 a cap l w1 s1):=hw1;clear hw1 hk9 _h tok1;have tok2:=trivial)
  | (have _h:=tok2;go_at_call 22;refine(HN2.out _ HE1.out).1.mono ?_;rintro e w2 ⟨rfl,hw1,hk9⟩;have HE2:Hid (EyR y0 a cap l w2 s2):=hw1;clear hw1 hk9 _h tok2;have tokD:=trivial)
  | (have _h:=tokD;refine aL (parts:=#[(0,.tmp 14),(1,.tmp 17)]) KB.out rfl rfl (by rfl) ?_;clear _h tokD;have tokE:=trivial;simp only[Act.put,sP])
  | (have _h:=tokE;refine aM KA.out rfl rfl w2.heap.size (by rfl) ?_;clear _h tokE;have tokF:=trivial;simp only[Act.put,sP])
  | (have _h:=tokF;refine wpList_store_row rfl 73 _ _ rfl w2.heap.size CS0 rfl rfl 73 ZB (by exact heap_alloc_new w2 _) (by rw[HG1.out];exact Tryz.info73) (by rw[HG1.out];exact HGZ.out) HG2.out ?_;obtain⟨hx9,hb9⟩:=bI w2 ZB CS0 73;generalize World.setRow _ w2.heap.size CS0=w3 at *;have HX3:Hid (w3.heap[w2.heap.size]? = some (.cells CS0 73 (0,0))):=hx9;have HE3:Hid (EyR y0 a cap l w3 s2):=HE2.out.below hb9;have HZX:Hid (y0.heap.size < w2.heap.size):=HE2.out.lt;have c0:=HGC.out w3 _ HX3.out;clear hx9 hb9;clear _h tokF;have tokG:=trivial)
  | (have _h:=tokG;go_at_call 22;refine(HN3.out _ HE3.out).mono ?_;rintro e w4 ⟨rfl,hw1,hk9⟩;have HE4:Hid (EyR y0 a cap l w4 s3):=hw1;have HX4:Hid (w4.heap[w2.heap.size]? = some (.cells CS0 73 (0,0))):=hk9.box HX3.out (by have:=HZX.out;omega);clear c0;have c0:=HGC.out w4 _ HX4.out;clear hw1 hk9 _h tokG;obtain⟨I4,_,_,_,e0,e1,e2,e3,e4⟩:=HE4.out.open;have tokH:=trivial)
  | (have _h:=tokH;go_at_call 23;refine(HRW.out _).mono ?_;rintro e w5 ⟨⟨ga,gc,rfl,hw⟩,hb9⟩;have HE5:Hid (EyR y0 a cap l w5 none):=EyR.below (HE4.out.bad.1) hb9;have HB5:Hid (BagS w5 w2.heap.size (kn:Int) (im:Int) none bdz):=BagS.below (HBN.out _ _ _ ((HE4.out.bad.2).box HX4.out (by have:=HZX.out;omega))) hb9;have HWB:Hid (WBox w5 ga []):=hw;clear hw hb9 c0 e0 e1 e2 e3 e4 _h tokH))
 go_loopw [8] (fun iv wr=>iv=.int .i64 0/\wr=w5) (fun iv _=>0)
 case atStart=>exact⟨rfl,rfl⟩
 case round=>
  obtain⟨rfl,rfl⟩:=hrel
  have HEE:Hid (EyR y0 a cap l wr none):=HE5.out
  have HPF:Hid (∀w',Below w.heap.size w w'->P (.returned (.tuple #[.agg ZQ,.int .i64 13])) w'):=HP0.out
  obtain⟨J,hJ,_,hJt,y0',y1,y2,_,_⟩:=HEE.out.open
  simp only[Option.isNone_none] at y2
  have tokY:=trivial
  have HRW2:Hid (wr.heap[w.heap.size]? = some (.cells ZQ 38 (0,0))):=(HEE.out.bel.block w.heap.size HYZ.out).trans HRS.out
  have HBW2:Hid (Below w.heap.size w wr):=HBW.out.trans (HEE.out.bel.mono (Nat.le_of_lt HYZ.out))
  go_wp2_with (first
   | (have _h:=tokY;refine aL (parts:=#[]) K0.out rfl rfl (by rfl) ?_;clear _h tokY;have tokZ:=trivial;simp only[Act.put,sP])
   | (have _h:=tokZ;refine wpList_store_row rfl 38 _ _ rfl w.heap.size ZQ rfl rfl 38 ZQ (by exact HRW2.out) (by rw[HQZ.out.1];exact Tryz.info38) rfl HQZ.out.2 ?_;clear _h tokZ))
  refine bodyPost_ret (v:=.tuple #[.agg ZQ,.int .i64 13]) ?_ rfl (HPF.out _ (below_setRow HBW2.out (Nat.le_refl _) _))
  exact bO (p:=2) (u:=3) (by rfl) _ _ w.heap.size _ _ (by rfl) (by rfl) HQZ.out.1 (setRow_heap _ _ _ _ _ _ HRW2.out)
theorem aIe (w:World) (a:Option Addr) (cap:Nat) (l:List Nat) (ht:Tab w) (hr:Row w a l) (hl:l.length<=cap) (hc:cap<=maxLen) (hn:a=none->cap=0) (hbig:l.length<=30000) (kn im dn:Nat) (s1 s2 s3:Ls) (h1:gN 1 (some l)=(kn,s1)) (h2:gN 4 s1=(im,s2)) (h3:gN 1 s2=(dn,s3)) (hk:8 < kn) (hd:¬(dn:Int)=0) (P:Ending->World->Prop) (HP0:Hid (∀w',Below w.heap.size w w'->P (.returned (.tuple #[.agg z40,.int .i64 13])) w')) :
 Calls Tryz.prog 9 #[.slice a l.length cap] w P:=by
 have HC:Hid (EyC (w.alloc (.cells z40 38)) a cap l):=⟨hr.below (aA _),hl,hc,hbig,hn⟩
 have HT:Hid (Tab (w.alloc (.cells z40 38))):=ht.below (aA _)
 have HBW:Hid (Below w.heap.size w (w.alloc (.cells z40 38))):=aA _
 have HRS:Hid ((w.alloc (.cells z40 38)).heap[w.heap.size]? = some (.cells z40 38 (0,0))):=heap_alloc_new w _
 have HYZ:Hid (w.heap.size < (w.alloc (.cells z40 38)).heap.size):=by show _ < _;simp
 have KQ:Hid (∀x:World,(Instr.alloc 38 true (.tuple #[])).run Tryz.prog x=.ok (.pointer (some ⟨x.heap.size,0,none⟩)) (x.alloc (.cells z40 38))):=cP
 have K0:Hid (∀x:World,(Instr.build 38 #[]).run Tryz.prog x=.ok (.agg z40) x):=dC
 have KA:Hid (∀x:World,(Instr.alloc 73 true (.tuple #[])).run Tryz.prog x=.ok (.pointer (some ⟨x.heap.size,0,none⟩)) (x.alloc (.cells zbg 73))):=cI
 have KB:Hid (∀x:World,(Instr.build 73 #[(0,.int .i64 (kn:Int)),(1,.int .i64 (im:Int))]).run Tryz.prog x=.ok (.agg (gbc (kn:Int) (im:Int) (fun _=>⟨#[]⟩) (fun _=>0) false (.slice none 0 0) (.slice none 0 0) (.slice none 0 0) (.slice none 0 0))) x):=cD (kn:Int) (im:Int)
 have HG1:Hid ((gbc (kn:Int) (im:Int) (fun _=>⟨#[]⟩) (fun _=>0) false (.slice none 0 0) (.slice none 0 0) (.slice none 0 0) (.slice none 0 0)).size=29):=bP _ _ _ _ _ _ _ _ _
 have HG2:Hid ((gbc (kn:Int) (im:Int) (fun _=>⟨#[]⟩) (fun _=>0) false (.slice none 0 0) (.slice none 0 0) (.slice none 0 0) (.slice none 0 0)).all (·.oneCell')=true):=fB _ _ _ _ _ _ _ _ _ _ _ _ _ _ _ _ _
 have HGZ:Hid (zbg.size=29):=bP _ _ _ _ _ _ _ _ _
 have HQZ:Hid (z40.size=9/\z40.all (·.oneCell')=true):=⟨rfl,by simp[z40,Value.oneCell']⟩
 have HBN:Hid (∀(x:World) X s,x.heap[X]? = some (.cells (gbc (kn:Int) (im:Int) (fun _=>⟨#[]⟩) (fun _=>0) false (.slice none 0 0) (.slice none 0 0) (.slice none 0 0) (.slice none 0 0)) 73 (0,0))->BagS x X (kn:Int) (im:Int) s bdz):=fun x X s h=>BagS.new s h
 have HGC:Hid (∀(x:World) X,x.heap[X]? = some (.cells (gbc (kn:Int) (im:Int) (fun _=>⟨#[]⟩) (fun _=>0) false (.slice none 0 0) (.slice none 0 0) (.slice none 0 0) (.slice none 0 0)) 73 (0,0))->x.cell? ⟨X,0,none⟩=some (.int .i64 (kn:Int))):=fun x X h=>by rw[(aB h 0).1];exact(eU ..).1
 have HN1:Hid (∀x,EyR (w.alloc (.cells z40 38)) a cap l x (some l)->Calls Tryz.prog 22 #[.pointer (some ⟨(w.alloc (.cells z40 38)).heap.size,0,none⟩),.int .i64 1] x (EP (w.alloc (.cells z40 38)) a cap l x (.int .u64 (kn:Int)) s1)):=fun x hx=>by have q:=aR (w.alloc (.cells z40 38)) x a cap l (some l) 1 1 rfl (by decide) (by decide) HC.out hx;rw[h1] at q;exact q
 have HN2:Hid (∀x,EyR (w.alloc (.cells z40 38)) a cap l x s1->Calls Tryz.prog 22 #[.pointer (some ⟨(w.alloc (.cells z40 38)).heap.size,0,none⟩),.int .i64 4] x (EP (w.alloc (.cells z40 38)) a cap l x (.int .u64 (im:Int)) s2)/\im < 4294967296):=fun x hx=>by have q:=aR (w.alloc (.cells z40 38)) x a cap l s1 4 4 rfl (by decide) (by decide) HC.out hx;have q2:=bL 4 s1 (EyR.byt HC.out hx);rw[h2] at q q2;exact⟨q,q2⟩
 have HN3:Hid (∀x,EyR (w.alloc (.cells z40 38)) a cap l x s2->Calls Tryz.prog 22 #[.pointer (some ⟨(w.alloc (.cells z40 38)).heap.size,0,none⟩),.int .i64 1] x (EP (w.alloc (.cells z40 38)) a cap l x (.int .u64 (dn:Int)) s3)):=fun x hx=>by have q:=aR (w.alloc (.cells z40 38)) x a cap l s2 1 1 rfl (by decide) (by decide) HC.out hx;rw[h3] at q;exact q
 have hkl:kn < 256:=by have q:=bL 1 (some l) (show Byt (lft (some l)) from bF (fun i=>hr.lt i));rw[h1] at q;exact q
 have hdl:dn < 256:=by
  have q1:Byt (lft s1):=by have q:=cL 1 (some l) (show Byt (lft (some l)) from bF (fun i=>hr.lt i));rw[h1] at q;exact q
  have q2:Byt (lft s2):=by have q:=cL 4 s1 q1;rw[h2] at q;exact q
  have q:=bL 1 s2 q2
  rw[h3] at q
  exact q
 have himl:im < 4294967296:=by have q2:Byt (lft s1):=(by have q:=cL 1 (some l) (show Byt (lft (some l)) from bF (fun i=>hr.lt i));rw[h1] at q;exact q);have q:=bL 4 s1 q2;rw[h2] at q;exact q
 have ek:IntKind.i64.wrap (kn:Int)=(kn:Int):=by rw[IntKind.wrap_i64];omega
 have ei:IntKind.i64.wrap (im:Int)=(im:Int):=by rw[IntKind.wrap_i64];omega
 have ed:IntKind.i64.wrap (dn:Int)=(dn:Int):=by rw[IntKind.wrap_i64];omega
 have HRW:Hid (∀x,Calls Tryz.prog 23 #[.int .i64 (kn:Int),.bool true] x (RwP [] x)):=fun x=>mW (kn:Int) (by omega) x
 have hkI:(kn:Int) > 8:=by omega
 have hd2:((dn:Int) != 0)=true:=by simpa using hd
 clear ht hr hl hc hn hkl himl h1 h2 h3 hdl
 clear hk
 have tokA:=trivial
 generalize z40=ZQ at *
 generalize zbg=ZB at *
 generalize (gbc (kn:Int) (im:Int) (fun _=>⟨#[]⟩) (fun _=>0) false (.slice none 0 0) (.slice none 0 0) (.slice none 0 0) (.slice none 0 0))=CS0 at *
 go_enter Tryz.func9,Tryz.ntmps9
 go_wp2_with (first
  | (have _h:=tokA;refine aM KQ.out rfl rfl w.heap.size (by rfl) ?_;simp only[Act.put,sP];generalize hY:w.alloc (.cells ZQ 38)=y0 at *;clear hY _h tokA;have tok1:=trivial)
  | (have _h:=tok1;go_at_call 22;refine(HN1.out _ (EyR.new y0 a cap l)).mono ?_;rintro e w1 ⟨rfl,hw1,hk9⟩;have HE1:Hid (EyR y0 a cap l w1 s1):=hw1;clear hw1 hk9 _h tok1;have tok2:=trivial)
  | (have _h:=tok2;go_at_call 22;refine(HN2.out _ HE1.out).1.mono ?_;rintro e w2 ⟨rfl,hw1,hk9⟩;have HE2:Hid (EyR y0 a cap l w2 s2):=hw1;clear hw1 hk9 _h tok2;have tokD:=trivial)
  | (have _h:=tokD;refine aL (parts:=#[(0,.tmp 14),(1,.tmp 17)]) KB.out rfl rfl (by rfl) ?_;clear _h tokD;have tokE:=trivial;simp only[Act.put,sP])
  | (have _h:=tokE;refine aM KA.out rfl rfl w2.heap.size (by rfl) ?_;clear _h tokE;have tokF:=trivial;simp only[Act.put,sP])
  | (have _h:=tokF;refine wpList_store_row rfl 73 _ _ rfl w2.heap.size CS0 rfl rfl 73 ZB (by exact heap_alloc_new w2 _) (by rw[HG1.out];exact Tryz.info73) (by rw[HG1.out];exact HGZ.out) HG2.out ?_;obtain⟨hx9,hb9⟩:=bI w2 ZB CS0 73;generalize World.setRow _ w2.heap.size CS0=w3 at *;have HX3:Hid (w3.heap[w2.heap.size]? = some (.cells CS0 73 (0,0))):=hx9;have HE3:Hid (EyR y0 a cap l w3 s2):=HE2.out.below hb9;have HZX:Hid (y0.heap.size < w2.heap.size):=HE2.out.lt;have c0:=HGC.out w3 _ HX3.out;clear hx9 hb9;clear _h tokF;have tokG:=trivial)
  | (have _h:=tokG;go_at_call 22;refine(HN3.out _ HE3.out).mono ?_;rintro e w4 ⟨rfl,hw1,hk9⟩;have HE4:Hid (EyR y0 a cap l w4 s3):=hw1;have HX4:Hid (w4.heap[w2.heap.size]? = some (.cells CS0 73 (0,0))):=hk9.box HX3.out (by have:=HZX.out;omega);clear c0;have c0:=HGC.out w4 _ HX4.out;clear hw1 hk9 _h tokG;obtain⟨I4,_,_,_,e0,e1,e2,e3,e4⟩:=HE4.out.open;have tokH:=trivial)
  | (have _h:=tokH;go_at_call 23;refine(HRW.out _).mono ?_;rintro e w5 ⟨⟨ga,gc,rfl,hw⟩,hb9⟩;have HE5:Hid (EyR y0 a cap l w5 none):=EyR.below (HE4.out.bad.1) hb9;have HB5:Hid (BagS w5 w2.heap.size (kn:Int) (im:Int) none bdz):=BagS.below (HBN.out _ _ _ ((HE4.out.bad.2).box HX4.out (by have:=HZX.out;omega))) hb9;have HWB:Hid (WBox w5 ga []):=hw;clear hw hb9 c0 e0 e1 e2 e3 e4 _h tokH))
 go_loopw [8] (fun iv wr=>iv=.int .i64 0/\wr=w5) (fun iv _=>0)
 case atStart=>exact⟨rfl,rfl⟩
 case round=>
  obtain⟨rfl,rfl⟩:=hrel
  have HEE:Hid (EyR y0 a cap l wr none):=HE5.out
  have HPF:Hid (∀w',Below w.heap.size w w'->P (.returned (.tuple #[.agg ZQ,.int .i64 13])) w'):=HP0.out
  obtain⟨J,hJ,_,hJt,y0',y1,y2,_,_⟩:=HEE.out.open
  simp only[Option.isNone_none] at y2
  have tokY:=trivial
  have HRW2:Hid (wr.heap[w.heap.size]? = some (.cells ZQ 38 (0,0))):=(HEE.out.bel.block w.heap.size HYZ.out).trans HRS.out
  have HBW2:Hid (Below w.heap.size w wr):=HBW.out.trans (HEE.out.bel.mono (Nat.le_of_lt HYZ.out))
  go_wp2_with (first
   | (have _h:=tokY;refine aL (parts:=#[]) K0.out rfl rfl (by rfl) ?_;clear _h tokY;have tokZ:=trivial;simp only[Act.put,sP])
   | (have _h:=tokZ;refine wpList_store_row rfl 38 _ _ rfl w.heap.size ZQ rfl rfl 38 ZQ (by exact HRW2.out) (by rw[HQZ.out.1];exact Tryz.info38) rfl HQZ.out.2 ?_;clear _h tokZ))
  refine bodyPost_ret (v:=.tuple #[.agg ZQ,.int .i64 13]) ?_ rfl (HPF.out _ (below_setRow HBW2.out (Nat.le_refl _) _))
  exact bO (p:=2) (u:=3) (by rfl) _ _ w.heap.size _ _ (by rfl) (by rfl) HQZ.out.1 (setRow_heap _ _ _ _ _ _ HRW2.out)
theorem aH8 (w:World) (a:Option Addr) (cap:Nat) (l:List Nat) (ht:Tab w) (hr:Row w a l) (hl:l.length<=cap) (hc:cap<=maxLen) (hn:a=none->cap=0) (hbig:l.length<=30000) (kn im dn:Nat) (s1 s2 s3:Ls) (h1:gN 1 (some l)=(kn,s1)) (h2:gN 4 s1=(im,s2)) (h3:gN 1 s2=(dn,s3)) (hk1:1<=kn) (hk:kn<=8) (hd:¬(dn:Int)=0) (P:Ending->World->Prop) (S:Ls) (B:Bd) (HSB:Hid (gFs ([]:List Nat) bdz s3=(B,S))) (HP0:Hid (S≠some []->∀w',Below w.heap.size w w'->P (.returned (.tuple #[.agg z40,.int .i64 13])) w')) (HP1:Hid (S=some []->∀cs w',SVal w' cs (kn:Int) (im:Int) (dn:Int) B->Below w.heap.size w w'->P (.returned (.tuple #[.agg cs,.int .i64 0])) w')) :
 Calls Tryz.prog 9 #[.slice a l.length cap] w P:=by
 have HC:Hid (EyC (w.alloc (.cells z40 38)) a cap l):=⟨hr.below (aA _),hl,hc,hbig,hn⟩
 have HT:Hid (Tab (w.alloc (.cells z40 38))):=ht.below (aA _)
 have HBW:Hid (Below w.heap.size w (w.alloc (.cells z40 38))):=aA _
 have HRS:Hid ((w.alloc (.cells z40 38)).heap[w.heap.size]? = some (.cells z40 38 (0,0))):=heap_alloc_new w _
 have HYZ:Hid (w.heap.size < (w.alloc (.cells z40 38)).heap.size):=by show _ < _;simp
 have KQ:Hid (∀x:World,(Instr.alloc 38 true (.tuple #[])).run Tryz.prog x=.ok (.pointer (some ⟨x.heap.size,0,none⟩)) (x.alloc (.cells z40 38))):=cP
 have K0:Hid (∀x:World,(Instr.build 38 #[]).run Tryz.prog x=.ok (.agg z40) x):=dC
 have KA:Hid (∀x:World,(Instr.alloc 73 true (.tuple #[])).run Tryz.prog x=.ok (.pointer (some ⟨x.heap.size,0,none⟩)) (x.alloc (.cells zbg 73))):=cI
 have KB:Hid (∀x:World,(Instr.build 73 #[(0,.int .i64 (kn:Int)),(1,.int .i64 (im:Int))]).run Tryz.prog x=.ok (.agg (gbc (kn:Int) (im:Int) (fun _=>⟨#[]⟩) (fun _=>0) false (.slice none 0 0) (.slice none 0 0) (.slice none 0 0) (.slice none 0 0))) x):=cD (kn:Int) (im:Int)
 have HG1:Hid ((gbc (kn:Int) (im:Int) (fun _=>⟨#[]⟩) (fun _=>0) false (.slice none 0 0) (.slice none 0 0) (.slice none 0 0) (.slice none 0 0)).size=29):=bP _ _ _ _ _ _ _ _ _
 have HG2:Hid ((gbc (kn:Int) (im:Int) (fun _=>⟨#[]⟩) (fun _=>0) false (.slice none 0 0) (.slice none 0 0) (.slice none 0 0) (.slice none 0 0)).all (·.oneCell')=true):=fB _ _ _ _ _ _ _ _ _ _ _ _ _ _ _ _ _
 have HGZ:Hid (zbg.size=29):=bP _ _ _ _ _ _ _ _ _
 have HQZ:Hid (z40.size=9/\z40.all (·.oneCell')=true):=⟨rfl,by simp[z40,Value.oneCell']⟩
 have HBN:Hid (∀(x:World) X s,x.heap[X]? = some (.cells (gbc (kn:Int) (im:Int) (fun _=>⟨#[]⟩) (fun _=>0) false (.slice none 0 0) (.slice none 0 0) (.slice none 0 0) (.slice none 0 0)) 73 (0,0))->BagS x X (kn:Int) (im:Int) s bdz):=fun x X s h=>BagS.new s h
 have HGC:Hid (∀(x:World) X,x.heap[X]? = some (.cells (gbc (kn:Int) (im:Int) (fun _=>⟨#[]⟩) (fun _=>0) false (.slice none 0 0) (.slice none 0 0) (.slice none 0 0) (.slice none 0 0)) 73 (0,0))->x.cell? ⟨X,0,none⟩=some (.int .i64 (kn:Int))):=fun x X h=>by rw[(aB h 0).1];exact(eU ..).1
 have HN1:Hid (∀x,EyR (w.alloc (.cells z40 38)) a cap l x (some l)->Calls Tryz.prog 22 #[.pointer (some ⟨(w.alloc (.cells z40 38)).heap.size,0,none⟩),.int .i64 1] x (EP (w.alloc (.cells z40 38)) a cap l x (.int .u64 (kn:Int)) s1)):=fun x hx=>by have q:=aR (w.alloc (.cells z40 38)) x a cap l (some l) 1 1 rfl (by decide) (by decide) HC.out hx;rw[h1] at q;exact q
 have HN2:Hid (∀x,EyR (w.alloc (.cells z40 38)) a cap l x s1->Calls Tryz.prog 22 #[.pointer (some ⟨(w.alloc (.cells z40 38)).heap.size,0,none⟩),.int .i64 4] x (EP (w.alloc (.cells z40 38)) a cap l x (.int .u64 (im:Int)) s2)/\im < 4294967296):=fun x hx=>by have q:=aR (w.alloc (.cells z40 38)) x a cap l s1 4 4 rfl (by decide) (by decide) HC.out hx;have q2:=bL 4 s1 (EyR.byt HC.out hx);rw[h2] at q q2;exact⟨q,q2⟩
 have HN3:Hid (∀x,EyR (w.alloc (.cells z40 38)) a cap l x s2->Calls Tryz.prog 22 #[.pointer (some ⟨(w.alloc (.cells z40 38)).heap.size,0,none⟩),.int .i64 1] x (EP (w.alloc (.cells z40 38)) a cap l x (.int .u64 (dn:Int)) s3)):=fun x hx=>by have q:=aR (w.alloc (.cells z40 38)) x a cap l s2 1 1 rfl (by decide) (by decide) HC.out hx;rw[h3] at q;exact q
 have hkl:kn < 256:=by have q:=bL 1 (some l) (show Byt (lft (some l)) from bF (fun i=>hr.lt i));rw[h1] at q;exact q
 have hdl:dn < 256:=by
  have q1:Byt (lft s1):=by have q:=cL 1 (some l) (show Byt (lft (some l)) from bF (fun i=>hr.lt i));rw[h1] at q;exact q
  have q2:Byt (lft s2):=by have q:=cL 4 s1 q1;rw[h2] at q;exact q
  have q:=bL 1 s2 q2
  rw[h3] at q
  exact q
 have himl:im < 4294967296:=by have q2:Byt (lft s1):=(by have q:=cL 1 (some l) (show Byt (lft (some l)) from bF (fun i=>hr.lt i));rw[h1] at q;exact q);have q:=bL 4 s1 q2;rw[h2] at q;exact q
 have ek:IntKind.i64.wrap (kn:Int)=(kn:Int):=by rw[IntKind.wrap_i64];omega
 have ei:IntKind.i64.wrap (im:Int)=(im:Int):=by rw[IntKind.wrap_i64];omega
 have ed:IntKind.i64.wrap (dn:Int)=(dn:Int):=by rw[IntKind.wrap_i64];omega
 have HRW:Hid (∀x,Calls Tryz.prog 23 #[.int .i64 (kn:Int),.bool true] x (RwP (rowOr (rowA (kn:Int))) x)):=fun x=>kW (kn:Int) (by omega) (by omega) x
 have hkI:¬(kn:Int) > 8:=by omega
 have hk3:¬(kn:Int)=0:=by omega
 have hd2:((dn:Int) != 0)=true:=by simpa using hd
 have hd3:((dn:Int) == 0)=false:=by simpa using hd
 clear ht hr hl hc hn hkl himl h1 h2 h3 hdl
 clear hk hk1
 have tokA:=trivial
 generalize z40=ZQ at *
 generalize zbg=ZB at *
 generalize (gbc (kn:Int) (im:Int) (fun _=>⟨#[]⟩) (fun _=>0) false (.slice none 0 0) (.slice none 0 0) (.slice none 0 0) (.slice none 0 0))=CS0 at *
 go_enter Tryz.func9,Tryz.ntmps9
 go_wp2_with (first
  | (have _h:=tokA;refine aM KQ.out rfl rfl w.heap.size (by rfl) ?_;simp only[Act.put,sP];generalize hY:w.alloc (.cells ZQ 38)=y0 at *;clear hY _h tokA;have tok1:=trivial)
  | (have _h:=tok1;go_at_call 22;refine(HN1.out _ (EyR.new y0 a cap l)).mono ?_;rintro e w1 ⟨rfl,hw1,hk9⟩;have HE1:Hid (EyR y0 a cap l w1 s1):=hw1;clear hw1 hk9 _h tok1;have tok2:=trivial)
  | (have _h:=tok2;go_at_call 22;refine(HN2.out _ HE1.out).1.mono ?_;rintro e w2 ⟨rfl,hw1,hk9⟩;have HE2:Hid (EyR y0 a cap l w2 s2):=hw1;clear hw1 hk9 _h tok2;have tokD:=trivial)
  | (have _h:=tokD;refine aL (parts:=#[(0,.tmp 14),(1,.tmp 17)]) KB.out rfl rfl (by rfl) ?_;clear _h tokD;have tokE:=trivial;simp only[Act.put,sP])
  | (have _h:=tokE;refine aM KA.out rfl rfl w2.heap.size (by rfl) ?_;clear _h tokE;have tokF:=trivial;simp only[Act.put,sP])
  | (have _h:=tokF;refine wpList_store_row rfl 73 _ _ rfl w2.heap.size CS0 rfl rfl 73 ZB (by exact heap_alloc_new w2 _) (by rw[HG1.out];exact Tryz.info73) (by rw[HG1.out];exact HGZ.out) HG2.out ?_;obtain⟨hx9,hb9⟩:=bI w2 ZB CS0 73;generalize World.setRow _ w2.heap.size CS0=w3 at *;have HX3:Hid (w3.heap[w2.heap.size]? = some (.cells CS0 73 (0,0))):=hx9;have HE3:Hid (EyR y0 a cap l w3 s2):=HE2.out.below hb9;have HZX:Hid (y0.heap.size < w2.heap.size):=HE2.out.lt;have c0:=HGC.out w3 _ HX3.out;clear hx9 hb9;clear _h tokF;have tokG:=trivial)
  | (have _h:=tokG;go_at_call 22;refine(HN3.out _ HE3.out).mono ?_;rintro e w4 ⟨rfl,hw1,hk9⟩;have HE4:Hid (EyR y0 a cap l w4 s3):=hw1;have HX4:Hid (w4.heap[w2.heap.size]? = some (.cells CS0 73 (0,0))):=hk9.box HX3.out (by have:=HZX.out;omega);clear c0;have c0:=HGC.out w4 _ HX4.out;clear hw1 hk9 _h tokG;obtain⟨I4,_,_,_,e0,e1,e2,e3,e4⟩:=HE4.out.open;have tokH:=trivial)
  | (have _h:=tokH;go_at_call 23;refine(HRW.out _).mono ?_;rintro e w5 ⟨⟨ga,gc,rfl,hw⟩,hb9⟩;have HE5:Hid (EyR y0 a cap l w5 s3):=EyR.below HE4.out hb9;have HB5:Hid (BagS w5 w2.heap.size (kn:Int) (im:Int) s3 bdz):=BagS.below (HBN.out _ _ _ HX4.out) hb9;have HWB:Hid (WBox w5 ga (rowOr (rowA (kn:Int)))):=hw;clear hw hb9 c0 e0 e1 e2 e3 e4 _h tokH))
 go_loopw [8] (fun iv wr=>iv=.int .i64 0/\wr=w5) (fun iv _=>0)
 case atStart=>exact⟨rfl,rfl⟩
 case round=>
  obtain⟨rfl,rfl⟩:=hrel
  have hSB:bdz=B/\s3=S:=by have q:=HSB.out;simp only[gFs,Prod.mk.injEq] at q;exact q
  obtain⟨rfl,rfl⟩:=hSB
  have HEE:Hid (EyR y0 a cap l wr s3):=HE5.out
  have HBB:Hid (BagS wr w2.heap.size (kn:Int) (im:Int) s3 bdz):=HB5.out
  clear HE5 HB5 HSB
  generalize s3=S at *
  generalize bdz=B at *
  obtain⟨J,hJ,_,hJt,y0',y1,y2,_,_⟩:=HEE.out.open
  have tokY:=trivial
  cases S with
  | none=>
   simp only[Option.isNone_none] at y2
   have HPF:Hid (∀w',Below w.heap.size w w'->P (.returned (.tuple #[.agg ZQ,.int .i64 13])) w'):=HP0.out (by simp)
   have HRW2:Hid (wr.heap[w.heap.size]? = some (.cells ZQ 38 (0,0))):=(HEE.out.bel.block w.heap.size HYZ.out).trans HRS.out
   have HBW2:Hid (Below w.heap.size w wr):=HBW.out.trans (HEE.out.bel.mono (Nat.le_of_lt HYZ.out))
   go_wp2_with (first
    | (have _h:=tokY;refine aL (parts:=#[]) K0.out rfl rfl (by rfl) ?_;clear _h tokY;have tokZ:=trivial;simp only[Act.put,sP])
    | (have _h:=tokZ;refine wpList_store_row rfl 38 _ _ rfl w.heap.size ZQ rfl rfl 38 ZQ (by exact HRW2.out) (by rw[HQZ.out.1];exact Tryz.info38) rfl HQZ.out.2 ?_;clear _h tokZ))
   refine bodyPost_ret (v:=.tuple #[.agg ZQ,.int .i64 13]) ?_ rfl (HPF.out _ (below_setRow HBW2.out (Nat.le_refl _) _))
   exact bO (p:=2) (u:=3) (by rfl) _ _ w.heap.size _ _ (by rfl) (by rfl) HQZ.out.1 (setRow_heap _ _ _ _ _ _ HRW2.out)
  | some t=>
   simp only[Option.isNone_some] at y2
   obtain rfl:=hJt t rfl
   by_cases hJ2:J=l.length
   ·have HPD:Hid (∀cs w',SVal w' cs (kn:Int) (im:Int) (dn:Int) B->Below w.heap.size w w'->P (.returned (.tuple #[.agg cs,.int .i64 0])) w'):=HP1.out (by rw[(drop_nil hJ).2 hJ2])
    subst hJ2
    obtain⟨cs9,_,hx9,hp9⟩:=HBB.out.box
    obtain⟨p,rfl,hg9⟩:=hp9 (by simp)
    have HBX:Hid (wr.heap[w2.heap.size]? = some (.cells (gbx (kn:Int) (im:Int) B p) 73 (0,0))):=hx9
    have HGR:Hid (GR wr w2.heap.size B p):=hg9
    have HRW2:Hid (wr.heap[w.heap.size]? = some (.cells ZQ 38 (0,0))):=(HEE.out.bel.block w.heap.size HYZ.out).trans HRS.out
    have HBW2:Hid (Below w.heap.size w wr):=HBW.out.trans (HEE.out.bel.mono (Nat.le_of_lt HYZ.out))
    clear hx9 hp9 hg9 hJt
    obtain⟨z0,z1⟩:wr.cell? ⟨w2.heap.size,0,none⟩=some (.int .i64 (kn:Int))/\wr.cell? ⟨w2.heap.size,1,none⟩=some (.int .i64 (im:Int)):=⟨by rw[(aB HBX.out 0).1];exact(eU ..).1,by rw[(aB HBX.out 1).1];exact(eU ..).2⟩
    have z2:wr.cell? ⟨w2.heap.size,16,none⟩=some (.int .i64 (B 12).n):=by rw[(aB HBX.out 16).1];exact dV _ _ _ _ _ _ _ _ _ 12 (by decide)
    have z3:wr.cell? ⟨w2.heap.size,19,none⟩=some (.int .i64 (B 15).n):=by rw[(aB HBX.out 19).1];exact dV _ _ _ _ _ _ _ _ _ 15 (by decide)
    have z4:wr.cell? ⟨w2.heap.size,20,none⟩=some (.int .i64 (B 16).n):=by rw[(aB HBX.out 20).1];exact dV _ _ _ _ _ _ _ _ _ 16 (by decide)
    have z5:wr.cell? ⟨w2.heap.size,27,none⟩=some (.slice p.na (B 17).nm.length p.nc):=by rw[(aB HBX.out 27).1];exact(fU ..).2.2.2.1
    have z6:wr.cell? ⟨w2.heap.size,28,none⟩=some (.slice p.ca (B 18).ct.length p.cc):=by rw[(aB HBX.out 28).1];exact(fU ..).2.2.2.2
    have z7:wr.cell? ⟨w2.heap.size,26,none⟩=some (.slice p.ba p.bs.length p.bc):=by rw[(aB HBX.out 26).1];exact(fU ..).2.2.1
    go_wp2_with (have _h:=tokY;refine wpList_store_row rfl 38 _ _ rfl w.heap.size (rsc (kn:Int) (im:Int) (dn:Int) B p) rfl rfl 38 ZQ (by exact HRW2.out) (by exact Tryz.info38) (by rw[HQZ.out.1];rfl) (by simp[rsc,Value.oneCell']) ?_;clear _h tokY)
    have hlow:∀b,w2.heap.size < b->b≠w.heap.size:=fun b hb=>by have:=HYZ.out;have:=HZX.out;omega
    have hq:SRows (World.setRow wr w.heap.size (rsc (kn:Int) (im:Int) (dn:Int) B p)) B ⟨none,0,p.na,p.nc,p.ca,p.cc,p.ba,p.bc,p.bs⟩:=⟨⟨rfl,rfl⟩,dT HGR.out.nm (fun j hj b off e=>setRow_other _ _ _ _ (hlow _ (HGR.out.l2 _ e))),dU HGR.out.ct (fun j hj b off e=>setRow_other _ _ _ _ (hlow _ (HGR.out.l3 _ e))),HGR.out.bs.keepG HGR.out.l4 HGR.out.l5 (fun b h1 h2=>setRow_other _ _ _ _ (hlow b h1)),HGR.out.bb⟩
    refine bodyPost_ret (v:=.tuple #[.agg (rsc (kn:Int) (im:Int) (dn:Int) B p),.int .i64 0]) ?_ rfl (HPD.out _ _ ⟨⟨none,0,p.na,p.nc,p.ca,p.cc,p.ba,p.bc,p.bs⟩,rfl,hq⟩ (below_setRow HBW2.out (Nat.le_refl _) _))
    exact bO (p:=2) (u:=3) (by rfl) _ _ w.heap.size _ _ (by rfl) (by rfl) rfl (setRow_heap _ _ _ _ _ _ HRW2.out)
   ·have hne:((J:Int) != (l.length:Int))=true:=by simp;omega
    have HPF:Hid (∀w',Below w.heap.size w w'->P (.returned (.tuple #[.agg ZQ,.int .i64 13])) w'):=HP0.out (fun e=>by injection e with e;exact hJ2 ((drop_nil hJ).1 e))
    clear hJt hJ2
    have HRW2:Hid (wr.heap[w.heap.size]? = some (.cells ZQ 38 (0,0))):=(HEE.out.bel.block w.heap.size HYZ.out).trans HRS.out
    have HBW2:Hid (Below w.heap.size w wr):=HBW.out.trans (HEE.out.bel.mono (Nat.le_of_lt HYZ.out))
    go_wp2_with (first
     | (have _h:=tokY;refine aL (parts:=#[]) K0.out rfl rfl (by rfl) ?_;clear _h tokY;have tokZ:=trivial;simp only[Act.put,sP])
     | (have _h:=tokZ;refine wpList_store_row rfl 38 _ _ rfl w.heap.size ZQ rfl rfl 38 ZQ (by exact HRW2.out) (by rw[HQZ.out.1];exact Tryz.info38) rfl HQZ.out.2 ?_;clear _h tokZ))
    refine bodyPost_ret (v:=.tuple #[.agg ZQ,.int .i64 13]) ?_ rfl (HPF.out _ (below_setRow HBW2.out (Nat.le_refl _) _))
    exact bO (p:=2) (u:=3) (by rfl) _ _ w.heap.size _ _ (by rfl) (by rfl) HQZ.out.1 (setRow_heap _ _ _ _ _ _ HRW2.out)
theorem aIh (w:World) (a:Option Addr) (cap:Nat) (l:List Nat) (ht:Tab w) (hr:Row w a l) (hl:l.length<=cap) (hc:cap<=maxLen) (hn:a=none->cap=0) (hbig:l.length<=30000) (im dn:Nat) (s1 s2 s3:Ls) (h1:gN 1 (some l)=(0,s1)) (h2:gN 4 s1=(im,s2)) (h3:gN 1 s2=(dn,s3)) (hd:¬(dn:Int)=0) (P:Ending->World->Prop) (S:Ls) (B:Bd) (HSB:Hid (gFs ([]:List Nat) bdz s3=(B,S))) (HP0:Hid (S≠some []->∀w',Below w.heap.size w w'->P (.returned (.tuple #[.agg z40,.int .i64 13])) w')) (HP1:Hid (S=some []->∀cs w',SVal w' cs (0:Int) (im:Int) (dn:Int) B->Below w.heap.size w w'->P (.returned (.tuple #[.agg cs,.int .i64 0])) w')) :
 Calls Tryz.prog 9 #[.slice a l.length cap] w P:=by
 have HC:Hid (EyC (w.alloc (.cells z40 38)) a cap l):=⟨hr.below (aA _),hl,hc,hbig,hn⟩
 have HT:Hid (Tab (w.alloc (.cells z40 38))):=ht.below (aA _)
 have HBW:Hid (Below w.heap.size w (w.alloc (.cells z40 38))):=aA _
 have HRS:Hid ((w.alloc (.cells z40 38)).heap[w.heap.size]? = some (.cells z40 38 (0,0))):=heap_alloc_new w _
 have HYZ:Hid (w.heap.size < (w.alloc (.cells z40 38)).heap.size):=by show _ < _;simp
 have KQ:Hid (∀x:World,(Instr.alloc 38 true (.tuple #[])).run Tryz.prog x=.ok (.pointer (some ⟨x.heap.size,0,none⟩)) (x.alloc (.cells z40 38))):=cP
 have K0:Hid (∀x:World,(Instr.build 38 #[]).run Tryz.prog x=.ok (.agg z40) x):=dC
 have KA:Hid (∀x:World,(Instr.alloc 73 true (.tuple #[])).run Tryz.prog x=.ok (.pointer (some ⟨x.heap.size,0,none⟩)) (x.alloc (.cells zbg 73))):=cI
 have KB:Hid (∀x:World,(Instr.build 73 #[(0,.int .i64 (0:Int)),(1,.int .i64 (im:Int))]).run Tryz.prog x=.ok (.agg (gbc (0:Int) (im:Int) (fun _=>⟨#[]⟩) (fun _=>0) false (.slice none 0 0) (.slice none 0 0) (.slice none 0 0) (.slice none 0 0))) x):=cD (0:Int) (im:Int)
 have HG1:Hid ((gbc (0:Int) (im:Int) (fun _=>⟨#[]⟩) (fun _=>0) false (.slice none 0 0) (.slice none 0 0) (.slice none 0 0) (.slice none 0 0)).size=29):=bP _ _ _ _ _ _ _ _ _
 have HG2:Hid ((gbc (0:Int) (im:Int) (fun _=>⟨#[]⟩) (fun _=>0) false (.slice none 0 0) (.slice none 0 0) (.slice none 0 0) (.slice none 0 0)).all (·.oneCell')=true):=fB _ _ _ _ _ _ _ _ _ _ _ _ _ _ _ _ _
 have HGZ:Hid (zbg.size=29):=bP _ _ _ _ _ _ _ _ _
 have HQZ:Hid (z40.size=9/\z40.all (·.oneCell')=true):=⟨rfl,by simp[z40,Value.oneCell']⟩
 have HBN:Hid (∀(x:World) X s,x.heap[X]? = some (.cells (gbc (0:Int) (im:Int) (fun _=>⟨#[]⟩) (fun _=>0) false (.slice none 0 0) (.slice none 0 0) (.slice none 0 0) (.slice none 0 0)) 73 (0,0))->BagS x X (0:Int) (im:Int) s bdz):=fun x X s h=>BagS.new s h
 have HGC:Hid (∀(x:World) X,x.heap[X]? = some (.cells (gbc (0:Int) (im:Int) (fun _=>⟨#[]⟩) (fun _=>0) false (.slice none 0 0) (.slice none 0 0) (.slice none 0 0) (.slice none 0 0)) 73 (0,0))->x.cell? ⟨X,0,none⟩=some (.int .i64 (0:Int))):=fun x X h=>by rw[(aB h 0).1];exact(eU ..).1
 have HN1:Hid (∀x,EyR (w.alloc (.cells z40 38)) a cap l x (some l)->Calls Tryz.prog 22 #[.pointer (some ⟨(w.alloc (.cells z40 38)).heap.size,0,none⟩),.int .i64 1] x (EP (w.alloc (.cells z40 38)) a cap l x (.int .u64 (0:Int)) s1)):=fun x hx=>by have q:=aR (w.alloc (.cells z40 38)) x a cap l (some l) 1 1 rfl (by decide) (by decide) HC.out hx;rw[h1] at q;exact q
 have HN2:Hid (∀x,EyR (w.alloc (.cells z40 38)) a cap l x s1->Calls Tryz.prog 22 #[.pointer (some ⟨(w.alloc (.cells z40 38)).heap.size,0,none⟩),.int .i64 4] x (EP (w.alloc (.cells z40 38)) a cap l x (.int .u64 (im:Int)) s2)/\im < 4294967296):=fun x hx=>by have q:=aR (w.alloc (.cells z40 38)) x a cap l s1 4 4 rfl (by decide) (by decide) HC.out hx;have q2:=bL 4 s1 (EyR.byt HC.out hx);rw[h2] at q q2;exact⟨q,q2⟩
 have HN3:Hid (∀x,EyR (w.alloc (.cells z40 38)) a cap l x s2->Calls Tryz.prog 22 #[.pointer (some ⟨(w.alloc (.cells z40 38)).heap.size,0,none⟩),.int .i64 1] x (EP (w.alloc (.cells z40 38)) a cap l x (.int .u64 (dn:Int)) s3)):=fun x hx=>by have q:=aR (w.alloc (.cells z40 38)) x a cap l s2 1 1 rfl (by decide) (by decide) HC.out hx;rw[h3] at q;exact q
 have hkl:0 < 256:=by have q:=bL 1 (some l) (show Byt (lft (some l)) from bF (fun i=>hr.lt i));rw[h1] at q;exact q
 have hdl:dn < 256:=by
  have q1:Byt (lft s1):=by have q:=cL 1 (some l) (show Byt (lft (some l)) from bF (fun i=>hr.lt i));rw[h1] at q;exact q
  have q2:Byt (lft s2):=by have q:=cL 4 s1 q1;rw[h2] at q;exact q
  have q:=bL 1 s2 q2
  rw[h3] at q
  exact q
 have himl:im < 4294967296:=by have q2:Byt (lft s1):=(by have q:=cL 1 (some l) (show Byt (lft (some l)) from bF (fun i=>hr.lt i));rw[h1] at q;exact q);have q:=bL 4 s1 q2;rw[h2] at q;exact q
 have ek:IntKind.i64.wrap (0:Int)=(0:Int):=by decide
 have ei:IntKind.i64.wrap (im:Int)=(im:Int):=by rw[IntKind.wrap_i64];omega
 have ed:IntKind.i64.wrap (dn:Int)=(dn:Int):=by rw[IntKind.wrap_i64];omega
 have HRW:Hid (∀x,Calls Tryz.prog 23 #[.int .i64 (0:Int),.bool true] x (RwP (rowOr (rowA (0:Int))) x)):=fun x=>kW (0:Int) (by omega) (by omega) x
 have hd2:((dn:Int) != 0)=true:=by simpa using hd
 have hd3:((dn:Int) == 0)=false:=by simpa using hd
 clear ht hr hl hc hn hkl himl h1 h2 h3 hdl
 have tokA:=trivial
 generalize z40=ZQ at *
 generalize zbg=ZB at *
 generalize (gbc (0:Int) (im:Int) (fun _=>⟨#[]⟩) (fun _=>0) false (.slice none 0 0) (.slice none 0 0) (.slice none 0 0) (.slice none 0 0))=CS0 at *
 go_enter Tryz.func9,Tryz.ntmps9
 go_wp2_with (first
  | (have _h:=tokA;refine aM KQ.out rfl rfl w.heap.size (by rfl) ?_;simp only[Act.put,sP];generalize hY:w.alloc (.cells ZQ 38)=y0 at *;clear hY _h tokA;have tok1:=trivial)
  | (have _h:=tok1;go_at_call 22;refine(HN1.out _ (EyR.new y0 a cap l)).mono ?_;rintro e w1 ⟨rfl,hw1,hk9⟩;have HE1:Hid (EyR y0 a cap l w1 s1):=hw1;clear hw1 hk9 _h tok1;have tok2:=trivial)
  | (have _h:=tok2;go_at_call 22;refine(HN2.out _ HE1.out).1.mono ?_;rintro e w2 ⟨rfl,hw1,hk9⟩;have HE2:Hid (EyR y0 a cap l w2 s2):=hw1;clear hw1 hk9 _h tok2;have tokD:=trivial)
  | (have _h:=tokD;refine aL (parts:=#[(0,.tmp 14),(1,.tmp 17)]) KB.out rfl rfl (by rfl) ?_;clear _h tokD;have tokE:=trivial;simp only[Act.put,sP])
  | (have _h:=tokE;refine aM KA.out rfl rfl w2.heap.size (by rfl) ?_;clear _h tokE;have tokF:=trivial;simp only[Act.put,sP])
  | (have _h:=tokF;refine wpList_store_row rfl 73 _ _ rfl w2.heap.size CS0 rfl rfl 73 ZB (by exact heap_alloc_new w2 _) (by rw[HG1.out];exact Tryz.info73) (by rw[HG1.out];exact HGZ.out) HG2.out ?_;obtain⟨hx9,hb9⟩:=bI w2 ZB CS0 73;generalize World.setRow _ w2.heap.size CS0=w3 at *;have HX3:Hid (w3.heap[w2.heap.size]? = some (.cells CS0 73 (0,0))):=hx9;have HE3:Hid (EyR y0 a cap l w3 s2):=HE2.out.below hb9;have HZX:Hid (y0.heap.size < w2.heap.size):=HE2.out.lt;have c0:=HGC.out w3 _ HX3.out;clear hx9 hb9;clear _h tokF;have tokG:=trivial)
  | (have _h:=tokG;go_at_call 22;refine(HN3.out _ HE3.out).mono ?_;rintro e w4 ⟨rfl,hw1,hk9⟩;have HE4:Hid (EyR y0 a cap l w4 s3):=hw1;have HX4:Hid (w4.heap[w2.heap.size]? = some (.cells CS0 73 (0,0))):=hk9.box HX3.out (by have:=HZX.out;omega);clear c0;have c0:=HGC.out w4 _ HX4.out;clear hw1 hk9 _h tokG;obtain⟨I4,_,_,_,e0,e1,e2,e3,e4⟩:=HE4.out.open;have tokH:=trivial)
  | (have _h:=tokH;go_at_call 23;refine(HRW.out _).mono ?_;rintro e w5 ⟨⟨ga,gc,rfl,hw⟩,hb9⟩;have HE5:Hid (EyR y0 a cap l w5 s3):=EyR.below HE4.out hb9;have HB5:Hid (BagS w5 w2.heap.size (0:Int) (im:Int) s3 bdz):=BagS.below (HBN.out _ _ _ HX4.out) hb9;have HWB:Hid (WBox w5 ga (rowOr (rowA (0:Int)))):=hw;clear hw hb9 c0 e0 e1 e2 e3 e4 _h tokH))
 go_loopw [8] (fun iv wr=>iv=.int .i64 0/\wr=w5) (fun iv _=>0)
 case atStart=>exact⟨rfl,rfl⟩
 case round=>
  obtain⟨rfl,rfl⟩:=hrel
  have hSB:bdz=B/\s3=S:=by have q:=HSB.out;simp only[gFs,Prod.mk.injEq] at q;exact q
  obtain⟨rfl,rfl⟩:=hSB
  have HEE:Hid (EyR y0 a cap l wr s3):=HE5.out
  have HBB:Hid (BagS wr w2.heap.size (0:Int) (im:Int) s3 bdz):=HB5.out
  clear HE5 HB5 HSB
  generalize s3=S at *
  generalize bdz=B at *
  obtain⟨J,hJ,_,hJt,y0',y1,y2,_,_⟩:=HEE.out.open
  have tokY:=trivial
  cases S with
  | none=>
   simp only[Option.isNone_none] at y2
   have HPF:Hid (∀w',Below w.heap.size w w'->P (.returned (.tuple #[.agg ZQ,.int .i64 13])) w'):=HP0.out (by simp)
   have HRW2:Hid (wr.heap[w.heap.size]? = some (.cells ZQ 38 (0,0))):=(HEE.out.bel.block w.heap.size HYZ.out).trans HRS.out
   have HBW2:Hid (Below w.heap.size w wr):=HBW.out.trans (HEE.out.bel.mono (Nat.le_of_lt HYZ.out))
   go_wp2_with (first
    | (have _h:=tokY;refine aL (parts:=#[]) K0.out rfl rfl (by rfl) ?_;clear _h tokY;have tokZ:=trivial;simp only[Act.put,sP])
    | (have _h:=tokZ;refine wpList_store_row rfl 38 _ _ rfl w.heap.size ZQ rfl rfl 38 ZQ (by exact HRW2.out) (by rw[HQZ.out.1];exact Tryz.info38) rfl HQZ.out.2 ?_;clear _h tokZ))
   refine bodyPost_ret (v:=.tuple #[.agg ZQ,.int .i64 13]) ?_ rfl (HPF.out _ (below_setRow HBW2.out (Nat.le_refl _) _))
   exact bO (p:=2) (u:=3) (by rfl) _ _ w.heap.size _ _ (by rfl) (by rfl) HQZ.out.1 (setRow_heap _ _ _ _ _ _ HRW2.out)
  | some t=>
   simp only[Option.isNone_some] at y2
   obtain rfl:=hJt t rfl
   by_cases hJ2:J=l.length
   ·have HPD:Hid (∀cs w',SVal w' cs (0:Int) (im:Int) (dn:Int) B->Below w.heap.size w w'->P (.returned (.tuple #[.agg cs,.int .i64 0])) w'):=HP1.out (by rw[(drop_nil hJ).2 hJ2])
    subst hJ2
    obtain⟨cs9,_,hx9,hp9⟩:=HBB.out.box
    obtain⟨p,rfl,hg9⟩:=hp9 (by simp)
    have HBX:Hid (wr.heap[w2.heap.size]? = some (.cells (gbx (0:Int) (im:Int) B p) 73 (0,0))):=hx9
    have HGR:Hid (GR wr w2.heap.size B p):=hg9
    have HRW2:Hid (wr.heap[w.heap.size]? = some (.cells ZQ 38 (0,0))):=(HEE.out.bel.block w.heap.size HYZ.out).trans HRS.out
    have HBW2:Hid (Below w.heap.size w wr):=HBW.out.trans (HEE.out.bel.mono (Nat.le_of_lt HYZ.out))
    clear hx9 hp9 hg9 hJt
    obtain⟨z0,z1⟩:wr.cell? ⟨w2.heap.size,0,none⟩=some (.int .i64 (0:Int))/\wr.cell? ⟨w2.heap.size,1,none⟩=some (.int .i64 (im:Int)):=⟨by rw[(aB HBX.out 0).1];exact(eU ..).1,by rw[(aB HBX.out 1).1];exact(eU ..).2⟩
    have z2:wr.cell? ⟨w2.heap.size,16,none⟩=some (.int .i64 (B 12).n):=by rw[(aB HBX.out 16).1];exact dV _ _ _ _ _ _ _ _ _ 12 (by decide)
    have z3:wr.cell? ⟨w2.heap.size,19,none⟩=some (.int .i64 (B 15).n):=by rw[(aB HBX.out 19).1];exact dV _ _ _ _ _ _ _ _ _ 15 (by decide)
    have z4:wr.cell? ⟨w2.heap.size,20,none⟩=some (.int .i64 (B 16).n):=by rw[(aB HBX.out 20).1];exact dV _ _ _ _ _ _ _ _ _ 16 (by decide)
    have z5:wr.cell? ⟨w2.heap.size,27,none⟩=some (.slice p.na (B 17).nm.length p.nc):=by rw[(aB HBX.out 27).1];exact(fU ..).2.2.2.1
    have z6:wr.cell? ⟨w2.heap.size,28,none⟩=some (.slice p.ca (B 18).ct.length p.cc):=by rw[(aB HBX.out 28).1];exact(fU ..).2.2.2.2
    have z7:wr.cell? ⟨w2.heap.size,26,none⟩=some (.slice p.ba p.bs.length p.bc):=by rw[(aB HBX.out 26).1];exact(fU ..).2.2.1
    go_wp2_with (have _h:=tokY;refine wpList_store_row rfl 38 _ _ rfl w.heap.size (rsc (0:Int) (im:Int) (dn:Int) B p) rfl rfl 38 ZQ (by exact HRW2.out) (by exact Tryz.info38) (by rw[HQZ.out.1];rfl) (by simp[rsc,Value.oneCell']) ?_;clear _h tokY)
    have hlow:∀b,w2.heap.size < b->b≠w.heap.size:=fun b hb=>by have:=HYZ.out;have:=HZX.out;omega
    have hq:SRows (World.setRow wr w.heap.size (rsc (0:Int) (im:Int) (dn:Int) B p)) B ⟨none,0,p.na,p.nc,p.ca,p.cc,p.ba,p.bc,p.bs⟩:=⟨⟨rfl,rfl⟩,dT HGR.out.nm (fun j hj b off e=>setRow_other _ _ _ _ (hlow _ (HGR.out.l2 _ e))),dU HGR.out.ct (fun j hj b off e=>setRow_other _ _ _ _ (hlow _ (HGR.out.l3 _ e))),HGR.out.bs.keepG HGR.out.l4 HGR.out.l5 (fun b h1 h2=>setRow_other _ _ _ _ (hlow b h1)),HGR.out.bb⟩
    refine bodyPost_ret (v:=.tuple #[.agg (rsc (0:Int) (im:Int) (dn:Int) B p),.int .i64 0]) ?_ rfl (HPD.out _ _ ⟨⟨none,0,p.na,p.nc,p.ca,p.cc,p.ba,p.bc,p.bs⟩,rfl,hq⟩ (below_setRow HBW2.out (Nat.le_refl _) _))
    exact bO (p:=2) (u:=3) (by rfl) _ _ w.heap.size _ _ (by rfl) (by rfl) rfl (setRow_heap _ _ _ _ _ _ HRW2.out)
   ·have hne:((J:Int) != (l.length:Int))=true:=by simp;omega
    have HPF:Hid (∀w',Below w.heap.size w w'->P (.returned (.tuple #[.agg ZQ,.int .i64 13])) w'):=HP0.out (fun e=>by injection e with e;exact hJ2 ((drop_nil hJ).1 e))
    clear hJt hJ2
    have HRW2:Hid (wr.heap[w.heap.size]? = some (.cells ZQ 38 (0,0))):=(HEE.out.bel.block w.heap.size HYZ.out).trans HRS.out
    have HBW2:Hid (Below w.heap.size w wr):=HBW.out.trans (HEE.out.bel.mono (Nat.le_of_lt HYZ.out))
    go_wp2_with (first
     | (have _h:=tokY;refine aL (parts:=#[]) K0.out rfl rfl (by rfl) ?_;clear _h tokY;have tokZ:=trivial;simp only[Act.put,sP])
     | (have _h:=tokZ;refine wpList_store_row rfl 38 _ _ rfl w.heap.size ZQ rfl rfl 38 ZQ (by exact HRW2.out) (by rw[HQZ.out.1];exact Tryz.info38) rfl HQZ.out.2 ?_;clear _h tokZ))
    refine bodyPost_ret (v:=.tuple #[.agg ZQ,.int .i64 13]) ?_ rfl (HPF.out _ (below_setRow HBW2.out (Nat.le_refl _) _))
    exact bO (p:=2) (u:=3) (by rfl) _ _ w.heap.size _ _ (by rfl) (by rfl) HQZ.out.1 (setRow_heap _ _ _ _ _ _ HRW2.out)
theorem aIj (w:World) (a:Option Addr) (cap:Nat) (l:List Nat) (ht:Tab w) (hr:Row w a l) (hl:l.length<=cap) (hc:cap<=maxLen) (hn:a=none->cap=0) (hbig:l.length<=30000) (kn im:Nat) (s1 s2 s3:Ls) (h1:gN 1 (some l)=(kn,s1)) (h2:gN 4 s1=(im,s2)) (h3:gN 1 s2=(0,s3)) (hk1:1<=kn) (hk:kn<=8) (r:List Nat) (hrow:rowA (kn:Int)=some r) (P:Ending->World->Prop) (S:Ls) (B:Bd) (HSB:Hid (gFs r bdz s3=(B,S))) (HP0:Hid (S≠some []->∀w',Below w.heap.size w w'->P (.returned (.tuple #[.agg z40,.int .i64 13])) w')) (HP1:Hid (S=some []->∀cs w',SVal w' cs (kn:Int) (im:Int) (0:Int) B->Below w.heap.size w w'->P (.returned (.tuple #[.agg cs,.int .i64 0])) w')) :
 Calls Tryz.prog 9 #[.slice a l.length cap] w P:=by
 have HC:Hid (EyC (w.alloc (.cells z40 38)) a cap l):=⟨hr.below (aA _),hl,hc,hbig,hn⟩
 have HT:Hid (Tab (w.alloc (.cells z40 38))):=ht.below (aA _)
 have HBW:Hid (Below w.heap.size w (w.alloc (.cells z40 38))):=aA _
 have HRS:Hid ((w.alloc (.cells z40 38)).heap[w.heap.size]? = some (.cells z40 38 (0,0))):=heap_alloc_new w _
 have HYZ:Hid (w.heap.size < (w.alloc (.cells z40 38)).heap.size):=by show _ < _;simp
 have KQ:Hid (∀x:World,(Instr.alloc 38 true (.tuple #[])).run Tryz.prog x=.ok (.pointer (some ⟨x.heap.size,0,none⟩)) (x.alloc (.cells z40 38))):=cP
 have K0:Hid (∀x:World,(Instr.build 38 #[]).run Tryz.prog x=.ok (.agg z40) x):=dC
 have KA:Hid (∀x:World,(Instr.alloc 73 true (.tuple #[])).run Tryz.prog x=.ok (.pointer (some ⟨x.heap.size,0,none⟩)) (x.alloc (.cells zbg 73))):=cI
 have KB:Hid (∀x:World,(Instr.build 73 #[(0,.int .i64 (kn:Int)),(1,.int .i64 (im:Int))]).run Tryz.prog x=.ok (.agg (gbc (kn:Int) (im:Int) (fun _=>⟨#[]⟩) (fun _=>0) false (.slice none 0 0) (.slice none 0 0) (.slice none 0 0) (.slice none 0 0))) x):=cD (kn:Int) (im:Int)
 have HG1:Hid ((gbc (kn:Int) (im:Int) (fun _=>⟨#[]⟩) (fun _=>0) false (.slice none 0 0) (.slice none 0 0) (.slice none 0 0) (.slice none 0 0)).size=29):=bP _ _ _ _ _ _ _ _ _
 have HG2:Hid ((gbc (kn:Int) (im:Int) (fun _=>⟨#[]⟩) (fun _=>0) false (.slice none 0 0) (.slice none 0 0) (.slice none 0 0) (.slice none 0 0)).all (·.oneCell')=true):=fB _ _ _ _ _ _ _ _ _ _ _ _ _ _ _ _ _
 have HGZ:Hid (zbg.size=29):=bP _ _ _ _ _ _ _ _ _
 have HQZ:Hid (z40.size=9/\z40.all (·.oneCell')=true):=⟨rfl,by simp[z40,Value.oneCell']⟩
 have HBN:Hid (∀(x:World) X s,x.heap[X]? = some (.cells (gbc (kn:Int) (im:Int) (fun _=>⟨#[]⟩) (fun _=>0) false (.slice none 0 0) (.slice none 0 0) (.slice none 0 0) (.slice none 0 0)) 73 (0,0))->BagS x X (kn:Int) (im:Int) s bdz):=fun x X s h=>BagS.new s h
 have HGC:Hid (∀(x:World) X,x.heap[X]? = some (.cells (gbc (kn:Int) (im:Int) (fun _=>⟨#[]⟩) (fun _=>0) false (.slice none 0 0) (.slice none 0 0) (.slice none 0 0) (.slice none 0 0)) 73 (0,0))->x.cell? ⟨X,0,none⟩=some (.int .i64 (kn:Int))):=fun x X h=>by rw[(aB h 0).1];exact(eU ..).1
 have HN1:Hid (∀x,EyR (w.alloc (.cells z40 38)) a cap l x (some l)->Calls Tryz.prog 22 #[.pointer (some ⟨(w.alloc (.cells z40 38)).heap.size,0,none⟩),.int .i64 1] x (EP (w.alloc (.cells z40 38)) a cap l x (.int .u64 (kn:Int)) s1)):=fun x hx=>by have q:=aR (w.alloc (.cells z40 38)) x a cap l (some l) 1 1 rfl (by decide) (by decide) HC.out hx;rw[h1] at q;exact q
 have HN2:Hid (∀x,EyR (w.alloc (.cells z40 38)) a cap l x s1->Calls Tryz.prog 22 #[.pointer (some ⟨(w.alloc (.cells z40 38)).heap.size,0,none⟩),.int .i64 4] x (EP (w.alloc (.cells z40 38)) a cap l x (.int .u64 (im:Int)) s2)/\im < 4294967296):=fun x hx=>by have q:=aR (w.alloc (.cells z40 38)) x a cap l s1 4 4 rfl (by decide) (by decide) HC.out hx;have q2:=bL 4 s1 (EyR.byt HC.out hx);rw[h2] at q q2;exact⟨q,q2⟩
 have HN3:Hid (∀x,EyR (w.alloc (.cells z40 38)) a cap l x s2->Calls Tryz.prog 22 #[.pointer (some ⟨(w.alloc (.cells z40 38)).heap.size,0,none⟩),.int .i64 1] x (EP (w.alloc (.cells z40 38)) a cap l x (.int .u64 (0:Int)) s3)):=fun x hx=>by have q:=aR (w.alloc (.cells z40 38)) x a cap l s2 1 1 rfl (by decide) (by decide) HC.out hx;rw[h3] at q;exact q
 have hkl:kn < 256:=by have q:=bL 1 (some l) (show Byt (lft (some l)) from bF (fun i=>hr.lt i));rw[h1] at q;exact q
 have hdl:0 < 256:=by
  have q1:Byt (lft s1):=by have q:=cL 1 (some l) (show Byt (lft (some l)) from bF (fun i=>hr.lt i));rw[h1] at q;exact q
  have q2:Byt (lft s2):=by have q:=cL 4 s1 q1;rw[h2] at q;exact q
  have q:=bL 1 s2 q2
  rw[h3] at q
  exact q
 have himl:im < 4294967296:=by have q2:Byt (lft s1):=(by have q:=cL 1 (some l) (show Byt (lft (some l)) from bF (fun i=>hr.lt i));rw[h1] at q;exact q);have q:=bL 4 s1 q2;rw[h2] at q;exact q
 have ek:IntKind.i64.wrap (kn:Int)=(kn:Int):=by rw[IntKind.wrap_i64];omega
 have ei:IntKind.i64.wrap (im:Int)=(im:Int):=by rw[IntKind.wrap_i64];omega
 have ed:IntKind.i64.wrap (0:Int)=(0:Int):=by decide
 have HRW:Hid (∀x,Calls Tryz.prog 23 #[.int .i64 (kn:Int),.bool true] x (RwP r x)):=fun x=>by have q:=kW (kn:Int) (by omega) (by omega) x;rw[hrow] at q;exact q
 have HRO:Hid (r.Nodup/\(∀f,f ∈ r->f < 20)/\r.length<=7):=⟨(pR hrow).1,(pR hrow).2,by have q:=@wI (kn:Int);rw[hrow] at q;exact q⟩
 have hkI:¬(kn:Int) > 8:=by omega
 have hk2:¬(kn:Int) < 1:=by omega
 have hk3:¬(kn:Int)=0:=by omega
 have HFD:Hid (∀x X s b f,f < 20->b f=fz->(w.alloc (.cells z40 38)).heap.size < X->BagS x X (kn:Int) (im:Int) s b->EyR (w.alloc (.cells z40 38)) a cap l x s->Calls Tryz.prog 24 #[.pointer (some ⟨(w.alloc (.cells z40 38)).heap.size,0,none⟩),.agg #[.int .i64 (wh f),.int .i64 (f:Int)],.pointer (some ⟨X,0,none⟩)] x (FdP (w.alloc (.cells z40 38)) a cap l x X (kn:Int) (im:Int) (setB b f (gK (kd f) s).1) (gK (kd f) s).2)):=fun x X s b f q1 q2 q3 q4 q5=>nD (w.alloc (.cells z40 38)) x a cap l s HC.out HT.out X (kn:Int) (im:Int) b f q1 q2 q3 q4 q5
 clear ht hr hl hc hn hkl himl h1 h2 h3 hdl
 clear hk hk1
 clear hrow
 have tokA:=trivial
 generalize z40=ZQ at *
 generalize zbg=ZB at *
 generalize (gbc (kn:Int) (im:Int) (fun _=>⟨#[]⟩) (fun _=>0) false (.slice none 0 0) (.slice none 0 0) (.slice none 0 0) (.slice none 0 0))=CS0 at *
 go_enter Tryz.func9,Tryz.ntmps9
 go_wp2_with (first
  | (have _h:=tokA;refine aM KQ.out rfl rfl w.heap.size (by rfl) ?_;simp only[Act.put,sP];generalize hY:w.alloc (.cells ZQ 38)=y0 at *;clear hY _h tokA;have tok1:=trivial)
  | (have _h:=tok1;go_at_call 22;refine(HN1.out _ (EyR.new y0 a cap l)).mono ?_;rintro e w1 ⟨rfl,hw1,hk9⟩;have HE1:Hid (EyR y0 a cap l w1 s1):=hw1;clear hw1 hk9 _h tok1;have tok2:=trivial)
  | (have _h:=tok2;go_at_call 22;refine(HN2.out _ HE1.out).1.mono ?_;rintro e w2 ⟨rfl,hw1,hk9⟩;have HE2:Hid (EyR y0 a cap l w2 s2):=hw1;clear hw1 hk9 _h tok2;have tokD:=trivial)
  | (have _h:=tokD;refine aL (parts:=#[(0,.tmp 14),(1,.tmp 17)]) KB.out rfl rfl (by rfl) ?_;clear _h tokD;have tokE:=trivial;simp only[Act.put,sP])
  | (have _h:=tokE;refine aM KA.out rfl rfl w2.heap.size (by rfl) ?_;clear _h tokE;have tokF:=trivial;simp only[Act.put,sP])
  | (have _h:=tokF;refine wpList_store_row rfl 73 _ _ rfl w2.heap.size CS0 rfl rfl 73 ZB (by exact heap_alloc_new w2 _) (by rw[HG1.out];exact Tryz.info73) (by rw[HG1.out];exact HGZ.out) HG2.out ?_;obtain⟨hx9,hb9⟩:=bI w2 ZB CS0 73;generalize World.setRow _ w2.heap.size CS0=w3 at *;have HX3:Hid (w3.heap[w2.heap.size]? = some (.cells CS0 73 (0,0))):=hx9;have HE3:Hid (EyR y0 a cap l w3 s2):=HE2.out.below hb9;have HZX:Hid (y0.heap.size < w2.heap.size):=HE2.out.lt;have c0:=HGC.out w3 _ HX3.out;clear hx9 hb9;clear _h tokF;have tokG:=trivial)
  | (have _h:=tokG;go_at_call 22;refine(HN3.out _ HE3.out).mono ?_;rintro e w4 ⟨rfl,hw1,hk9⟩;have HE4:Hid (EyR y0 a cap l w4 s3):=hw1;have HX4:Hid (w4.heap[w2.heap.size]? = some (.cells CS0 73 (0,0))):=hk9.box HX3.out (by have:=HZX.out;omega);clear c0;have c0:=HGC.out w4 _ HX4.out;clear hw1 hk9 _h tokG;obtain⟨I4,_,_,_,e0,e1,e2,e3,e4⟩:=HE4.out.open;have tokH:=trivial)
  | (have _h:=tokH;go_at_call 23;refine(HRW.out _).mono ?_;rintro e w5 ⟨⟨ga,gc,rfl,hw⟩,hb9⟩;have HE5:Hid (EyR y0 a cap l w5 s3):=EyR.below HE4.out hb9;have HB5:Hid (BagS w5 w2.heap.size (kn:Int) (im:Int) s3 bdz):=BagS.below (HBN.out _ _ _ HX4.out) hb9;have HWB:Hid (WBox w5 ga r):=hw;clear hw hb9 c0 e0 e1 e2 e3 e4 _h tokH))
 obtain⟨F,HF⟩:∃F:Nat->Bd × Ls,Hid (∀j,gFs (r.take j) bdz s3=F j):=⟨_,fun _=>rfl⟩
 have HF0:Hid (F 0=(bdz,s3)):=by show _=_;rw[<-HF.out,List.take_zero];rfl
 have HFN:Hid (F r.length=(B,S)):=by show _=_;rw[<-HF.out,List.take_length];exact HSB.out
 have HFS:Hid (∀j,j < r.length->F (j+1)=(setB (F j).1 (r.getD j 0) (gK (kd (r.getD j 0)) (F j).2).1,(gK (kd (r.getD j 0)) (F j).2).2)/\(F j).1 (r.getD j 0)=fz):=fun j hj=>⟨by rw[<-HF.out,<-HF.out];exact mI r bdz s3 j hj,by rw[<-HF.out];exact pN _ _ _ _ (jH HRO.out.1 hj)⟩
 clear HSB
 go_loopw [8] (fun iv wr=>∃jj:Nat,jj<=r.length/\iv=.int .i64 jj/\EyR y0 a cap l wr (F jj).2/\BagS wr w2.heap.size (kn:Int) (im:Int) (F jj).2 (F jj).1/\WBox wr ga r) (fun iv _=>r.length - (iof iv).toNat)
 case atStart=>exact⟨0,by omega,rfl,by rw[HF0.out];exact HE5.out,by rw[HF0.out];exact HB5.out,HWB.out⟩
 case round=>
  clear HE5 HB5 HWB HF0
  obtain⟨jj,hjj,rfl,hE,hB,hW⟩:=hrel
  have hl7:=HRO.out.2.2
  have HEE0:Hid (EyR y0 a cap l wr (F jj).2):=hE
  have HBB0:Hid (BagS wr w2.heap.size (kn:Int) (im:Int) (F jj).2 (F jj).1):=hB
  have HWW:Hid (WBox wr ga r):=hW
  by_cases hlt:jj < r.length
  ·have hltI:(jj:Int) < (r.length:Int):=by omega
   obtain⟨g,gcs,rfl,hgb,hgc⟩:∃g cs,ga=some ⟨g,0,none⟩/\wr.heap[g]? = some (.cells cs 78 (0,0))/\∀j,j < r.length->cs[j * 2]? = some (.int .i64 (wh (r.getD j 0)))/\cs[j * 2+1]? = some (.int .i64 ((r.getD j 0:Nat):Int)):=by
    rcases hW with e | q
    ·rw[e] at hlt;cases hlt
    ·exact q
   obtain⟨hc1,hc2⟩:=hgc jj hlt
   obtain⟨hfs,hfz⟩:=HFS.out jj hlt
   have hfm:r.getD jj 0 ∈ r:=by rw[List.getD_eq_getElem?_getD,List.getElem?_eq_getElem hlt];exact List.getElem_mem hlt
   have hf20:=HRO.out.2.1 _ hfm
   generalize r.getD jj 0=f at *
   have d0:wr.cell? ⟨g,jj * 2,none⟩=some (.int .i64 (wh f)):=by rw[(aB hgb _).1];exact hc1
   have d1:wr.cell? ⟨g,jj * 2+1,none⟩=some (.int .i64 (f:Int)):=by rw[(aB hgb _).1];exact hc2
   have HCL:Hid (Calls Tryz.prog 24 #[.pointer (some ⟨y0.heap.size,0,none⟩),.agg #[.int .i64 (wh f),.int .i64 (f:Int)],.pointer (some ⟨w2.heap.size,0,none⟩)] wr (FdP y0 a cap l wr w2.heap.size (kn:Int) (im:Int) (F (jj+1)).1 (F (jj+1)).2)):=by
    have q:=HFD.out wr w2.heap.size (F jj).2 (F jj).1 f hf20 hfz HZX.out hB hE
    rw[hfs]
    exact q
   clear hE hB hW hgb hgc hc1 hc2 hfs hfz hfm hf20
   go_wp2_with (go_at_call 24;refine HCL.out.mono ?_;rintro e x1 ⟨rfl,hey,hbag,hkp⟩;have HEY:Hid _:=hey;have HBG:Hid (BagS x1 w2.heap.size (kn:Int) (im:Int) (F (jj+1)).2 (F (jj+1)).1):=hbag;have HWX:Hid (WBox x1 (some ⟨g,0,none⟩) r):=WBox.keepF HWW.out HEE0.out HBB0.out hkp;clear hey hbag hkp)
   exact⟨⟨jj+1,by omega,by go_num,HEY.out,HBG.out,HWX.out⟩,by simp[iof];omega⟩
  ·obtain rfl:jj=r.length:=by omega
   have HEE:Hid (EyR y0 a cap l wr S):=by have q:=hE;rw[HFN.out] at q;exact q
   have HBB:Hid (BagS wr w2.heap.size (kn:Int) (im:Int) S B):=by have q:=hB;rw[HFN.out] at q;exact q
   clear hE hB hW HEE0 HBB0 HFS HFN HF HFD HWW
   obtain⟨J,hJ,_,hJt,y0',y1,y2,_,_⟩:=HEE.out.open
   have tokY:=trivial
   cases S with
   | none=>
    simp only[Option.isNone_none] at y2
    have HPF:Hid (∀w',Below w.heap.size w w'->P (.returned (.tuple #[.agg ZQ,.int .i64 13])) w'):=HP0.out (by simp)
    have HRW2:Hid (wr.heap[w.heap.size]? = some (.cells ZQ 38 (0,0))):=(HEE.out.bel.block w.heap.size HYZ.out).trans HRS.out
    have HBW2:Hid (Below w.heap.size w wr):=HBW.out.trans (HEE.out.bel.mono (Nat.le_of_lt HYZ.out))
    go_wp2_with (first
     | (have _h:=tokY;refine aL (parts:=#[]) K0.out rfl rfl (by rfl) ?_;clear _h tokY;have tokZ:=trivial;simp only[Act.put,sP])
     | (have _h:=tokZ;refine wpList_store_row rfl 38 _ _ rfl w.heap.size ZQ rfl rfl 38 ZQ (by exact HRW2.out) (by rw[HQZ.out.1];exact Tryz.info38) rfl HQZ.out.2 ?_;clear _h tokZ))
    refine bodyPost_ret (v:=.tuple #[.agg ZQ,.int .i64 13]) ?_ rfl (HPF.out _ (below_setRow HBW2.out (Nat.le_refl _) _))
    exact bO (p:=2) (u:=3) (by rfl) _ _ w.heap.size _ _ (by rfl) (by rfl) HQZ.out.1 (setRow_heap _ _ _ _ _ _ HRW2.out)
   | some t=>
    simp only[Option.isNone_some] at y2
    obtain rfl:=hJt t rfl
    by_cases hJ2:J=l.length
    ·have HPD:Hid (∀cs w',SVal w' cs (kn:Int) (im:Int) (0:Int) B->Below w.heap.size w w'->P (.returned (.tuple #[.agg cs,.int .i64 0])) w'):=HP1.out (by rw[(drop_nil hJ).2 hJ2])
     subst hJ2
     obtain⟨cs9,_,hx9,hp9⟩:=HBB.out.box
     obtain⟨p,rfl,hg9⟩:=hp9 (by simp)
     have HBX:Hid (wr.heap[w2.heap.size]? = some (.cells (gbx (kn:Int) (im:Int) B p) 73 (0,0))):=hx9
     have HGR:Hid (GR wr w2.heap.size B p):=hg9
     have HRW2:Hid (wr.heap[w.heap.size]? = some (.cells ZQ 38 (0,0))):=(HEE.out.bel.block w.heap.size HYZ.out).trans HRS.out
     have HBW2:Hid (Below w.heap.size w wr):=HBW.out.trans (HEE.out.bel.mono (Nat.le_of_lt HYZ.out))
     clear hx9 hp9 hg9 hJt
     obtain⟨z0,z1⟩:wr.cell? ⟨w2.heap.size,0,none⟩=some (.int .i64 (kn:Int))/\wr.cell? ⟨w2.heap.size,1,none⟩=some (.int .i64 (im:Int)):=⟨by rw[(aB HBX.out 0).1];exact(eU ..).1,by rw[(aB HBX.out 1).1];exact(eU ..).2⟩
     have z2:wr.cell? ⟨w2.heap.size,16,none⟩=some (.int .i64 (B 12).n):=by rw[(aB HBX.out 16).1];exact dV _ _ _ _ _ _ _ _ _ 12 (by decide)
     have z3:wr.cell? ⟨w2.heap.size,19,none⟩=some (.int .i64 (B 15).n):=by rw[(aB HBX.out 19).1];exact dV _ _ _ _ _ _ _ _ _ 15 (by decide)
     have z4:wr.cell? ⟨w2.heap.size,20,none⟩=some (.int .i64 (B 16).n):=by rw[(aB HBX.out 20).1];exact dV _ _ _ _ _ _ _ _ _ 16 (by decide)
     have z5:wr.cell? ⟨w2.heap.size,27,none⟩=some (.slice p.na (B 17).nm.length p.nc):=by rw[(aB HBX.out 27).1];exact(fU ..).2.2.2.1
     have z6:wr.cell? ⟨w2.heap.size,28,none⟩=some (.slice p.ca (B 18).ct.length p.cc):=by rw[(aB HBX.out 28).1];exact(fU ..).2.2.2.2
     have z7:wr.cell? ⟨w2.heap.size,26,none⟩=some (.slice p.ba p.bs.length p.bc):=by rw[(aB HBX.out 26).1];exact(fU ..).2.2.1
     go_wp2_with (have _h:=tokY;refine wpList_store_row rfl 38 _ _ rfl w.heap.size (rsc (kn:Int) (im:Int) (0:Int) B p) rfl rfl 38 ZQ (by exact HRW2.out) (by exact Tryz.info38) (by rw[HQZ.out.1];rfl) (by simp[rsc,Value.oneCell']) ?_;clear _h tokY)
     have hlow:∀b,w2.heap.size < b->b≠w.heap.size:=fun b hb=>by have:=HYZ.out;have:=HZX.out;omega
     have hq:SRows (World.setRow wr w.heap.size (rsc (kn:Int) (im:Int) (0:Int) B p)) B ⟨none,0,p.na,p.nc,p.ca,p.cc,p.ba,p.bc,p.bs⟩:=⟨⟨rfl,rfl⟩,dT HGR.out.nm (fun j hj b off e=>setRow_other _ _ _ _ (hlow _ (HGR.out.l2 _ e))),dU HGR.out.ct (fun j hj b off e=>setRow_other _ _ _ _ (hlow _ (HGR.out.l3 _ e))),HGR.out.bs.keepG HGR.out.l4 HGR.out.l5 (fun b h1 h2=>setRow_other _ _ _ _ (hlow b h1)),HGR.out.bb⟩
     refine bodyPost_ret (v:=.tuple #[.agg (rsc (kn:Int) (im:Int) (0:Int) B p),.int .i64 0]) ?_ rfl (HPD.out _ _ ⟨⟨none,0,p.na,p.nc,p.ca,p.cc,p.ba,p.bc,p.bs⟩,rfl,hq⟩ (below_setRow HBW2.out (Nat.le_refl _) _))
     exact bO (p:=2) (u:=3) (by rfl) _ _ w.heap.size _ _ (by rfl) (by rfl) rfl (setRow_heap _ _ _ _ _ _ HRW2.out)
    ·have hne:((J:Int) != (l.length:Int))=true:=by simp;omega
     have HPF:Hid (∀w',Below w.heap.size w w'->P (.returned (.tuple #[.agg ZQ,.int .i64 13])) w'):=HP0.out (fun e=>by injection e with e;exact hJ2 ((drop_nil hJ).1 e))
     clear hJt hJ2
     have HRW2:Hid (wr.heap[w.heap.size]? = some (.cells ZQ 38 (0,0))):=(HEE.out.bel.block w.heap.size HYZ.out).trans HRS.out
     have HBW2:Hid (Below w.heap.size w wr):=HBW.out.trans (HEE.out.bel.mono (Nat.le_of_lt HYZ.out))
     go_wp2_with (first
      | (have _h:=tokY;refine aL (parts:=#[]) K0.out rfl rfl (by rfl) ?_;clear _h tokY;have tokZ:=trivial;simp only[Act.put,sP])
      | (have _h:=tokZ;refine wpList_store_row rfl 38 _ _ rfl w.heap.size ZQ rfl rfl 38 ZQ (by exact HRW2.out) (by rw[HQZ.out.1];exact Tryz.info38) rfl HQZ.out.2 ?_;clear _h tokZ))
     refine bodyPost_ret (v:=.tuple #[.agg ZQ,.int .i64 13]) ?_ rfl (HPF.out _ (below_setRow HBW2.out (Nat.le_refl _) _))
     exact bO (p:=2) (u:=3) (by rfl) _ _ w.heap.size _ _ (by rfl) (by rfl) HQZ.out.1 (setRow_heap _ _ _ _ _ _ HRW2.out)
def PR (l:List Nat) (w:World) (e:Ending) (w':World):Prop:=(resP l=none->e=.returned (.tuple #[.agg z40,.int .i64 13]))/\(∀k i d b,resP l=some (k,i,d,b)->∃cs,e=.returned (.tuple #[.agg cs,.int .i64 0])/\SVal w' cs k i d b)/\Below w.heap.size w w'
theorem oC (w:World) (a:Option Addr) (cap:Nat) (l:List Nat) (ht:Tab w) (hr:Row w a l) (hl:l.length<=cap) (hc:cap<=maxLen) (hn:a=none->cap=0) (hbig:l.length<=30000) :
 Calls Tryz.prog 9 #[.slice a l.length cap] w (PR l w):=by
 obtain⟨kn,s1,h1⟩:∃kn s1,gN 1 (some l)=(kn,s1):=⟨_,_,rfl⟩
 obtain⟨im,s2,h2⟩:∃im s2,gN 4 s1=(im,s2):=⟨_,_,rfl⟩
 obtain⟨dn,s3,h3⟩:∃dn s3,gN 1 s2=(dn,s3):=⟨_,_,rfl⟩
 have hS:resS l=(((kn:Int),(im:Int),(dn:Int),(gFs (rowOr (ansRow (kn:Int) (dn:Int))) bdz s3).1),(gFs (rowOr (ansRow (kn:Int) (dn:Int))) bdz s3).2):=by
  unfold resS gNat
  simp only[h1,h2,h3]
 have no:ansRow (kn:Int) (dn:Int)=none->resP l=none:=fun q=>by unfold resP;rw[hS];simp[q]
 have pf:resP l=none->∀w',Below w.heap.size w w'->PR l w (.returned (.tuple #[.agg z40,.int .i64 13])) w':=fun q w' hb=>⟨fun _=>rfl,fun k i d b e=>(by rw[q] at e;cases e),hb⟩
 have pd:∀r,ansRow (kn:Int) (dn:Int)=some r->(gFs r bdz s3).2=some []->∀cs w',SVal w' cs (kn:Int) (im:Int) (dn:Int) (gFs r bdz s3).1->Below w.heap.size w w'->PR l w (.returned (.tuple #[.agg cs,.int .i64 0])) w':=fun r hrow q cs w' hv hb=>by
  have hP:resP l=some ((kn:Int),(im:Int),(dn:Int),(gFs r bdz s3).1):=by
   unfold resP
   rw[hS]
   simp[hrow,rowOr,q]
  refine⟨fun e=>(by rw[hP] at e;cases e),fun k i d b e=>?_,hb⟩
  rw[hP] at e
  injection e with e
  injection e with e1 e2
  injection e2 with e2 e3
  injection e3 with e3 e4
  subst e1 e2 e3 e4
  exact⟨cs,rfl,hv⟩
 have pn:∀r,ansRow (kn:Int) (dn:Int)=some r->(gFs r bdz s3).2≠some []->resP l=none:=fun r hrow q=>by
  unfold resP
  rw[hS]
  simp[hrow,rowOr,q]
 by_cases h8:8 < kn
 ·have hq:rowA (kn:Int)=none:=by
   unfold rowA
   rw[if_neg (by omega),if_neg (by omega),if_neg (by omega),if_neg (by omega),if_neg (by omega),if_neg (by omega),if_neg (by omega),if_neg (by omega),if_neg (by omega)]
  have hq2:ansRow (kn:Int) (dn:Int)=none:=by unfold ansRow;rw[hq];split<;>(try split)<;>rfl
  by_cases hd:dn=0
  ·subst hd
   exact aH2 w a cap l ht hr hl hc hn hbig kn im s1 s2 s3 h1 h2 h3 h8 _ (pf (no hq2))
  ·exact aIe w a cap l ht hr hl hc hn hbig kn im dn s1 s2 s3 h1 h2 h3 h8 (by omega) _ (pf (no hq2))
 obtain⟨ra,hra⟩:∃ra,rowA (kn:Int)=some ra:=by
  rcases(show kn=0∨kn=1∨kn=2∨kn=3∨kn=4∨kn=5∨kn=6∨kn=7∨kn=8 by omega) with rfl | rfl | rfl | rfl | rfl | rfl | rfl | rfl | rfl<;>exact⟨_,rfl⟩
 by_cases hd:dn=0
 ·subst hd
  by_cases h0:kn=0
  ·subst h0
   exact aH7 w a cap l ht hr hl hc hn hbig im s1 s2 s3 h1 h2 h3 _ (pf (no rfl))
  ·have ha:ansRow (kn:Int) ((0:Nat):Int)=some ra:=by unfold ansRow;rw[if_pos (show((0:Nat):Int)=0 from rfl),if_neg (by omega)];exact hra
   exact aIj w a cap l ht hr hl hc hn hbig kn im s1 s2 s3 h1 h2 h3 (by omega) (by omega) ra hra _ _ _ rfl (fun q=>pf (pn ra ha q)) (fun q cs w' hv hb=>pd ra ha q cs w' hv hb)
 ·have ha:ansRow (kn:Int) (dn:Int)=some []:=by unfold ansRow;rw[if_neg (by omega),hra];rfl
  by_cases h0:kn=0
  ·subst h0
   exact aIh w a cap l ht hr hl hc hn hbig im dn s1 s2 s3 h1 h2 h3 (by omega) _ _ _ rfl (fun q=>pf (pn [] ha q)) (fun q cs w' hv hb=>pd [] ha q cs w' hv hb)
  exact aH8 w a cap l ht hr hl hc hn hbig kn im dn s1 s2 s3 h1 h2 h3 (by omega) (by omega) (by omega) _ _ _ rfl (fun q=>pf (pn [] ha q)) (fun q cs w' hv hb=>pd [] ha q cs w' hv hb)
structure Bx2 (w:World) (t:TypeId) (cs ds:Array Value) (x:World):Prop where
 a:x.heap[w.heap.size]? = some (.cells cs t (0,0))
 b:x.heap[w.heap.size+1]? = some (.cells ds t (0,0))
 bel:Below w.heap.size w x
theorem Bx2.new (w:World) (t:TypeId) (cs ds:Array Value):Bx2 w t cs ds ((w.alloc (.cells cs t)).alloc (.cells ds t)):=by
 have b1:Below w.heap.size w (w.alloc (.cells cs t)):=aA _
 have b2:Below (w.alloc (.cells cs t)).heap.size (w.alloc (.cells cs t)) ((w.alloc (.cells cs t)).alloc (.cells ds t)):=aA _
 refine⟨?_,?_,b1.trans (b2.mono (by simp))⟩
 ·rw[b2.block _ (by simp)];exact heap_alloc_new w _
 ·have:=heap_alloc_new (w.alloc (.cells cs t)) (.cells ds t)
  simpa using this
def SQ (k i:Int) (b:Bd) (c:Bool) (k' i':Int) (b':Bd) (c':Bool):Prop:=
 k=k'/\i=i'/\(b 0).t=(b' 0).t/\(b 1).t=(b' 1).t/\(b 2).n=(b' 2).n/\(b 3).n=(b' 3).n/\(b 4).n=(b' 4).n/\(b 5).n=(b' 5).n/\(b 6).n=(b' 6).n/\c=c'/\(b 8).n=(b' 8).n/\(b 9).n=(b' 9).n/\(b 10).n=(b' 10).n/\(b 12).n=(b' 12).n/\(b 13).n=(b' 13).n/\(b 14).n=(b' 14).n/\(b 11).rs=(b' 11).rs
def SameP (S:Prop) (w:World) (e:Ending) (w':World):Prop:=(∃r:Bool,e=.returned (.bool r)/\(r=true↔S))/\Below w.heap.size w w'
theorem SameP.no {S:Prop} {w w':World} (h:¬S) (hb:Below w.heap.size w w'):SameP S w (.returned (.bool false)) w':=⟨⟨false,rfl,by simp[h]⟩,hb⟩
theorem SameP.yes {S:Prop} {w w':World} (h:S) (hb:Below w.heap.size w w'):SameP S w (.returned (.bool true)) w':=⟨⟨true,rfl,by simp[h]⟩,hb⟩
theorem aCr {rs rs':List Rc} (hl:rs.length=rs'.length) (h:∀j,j < rs.length->rs.getD j rz=rs'.getD j rz):rs=rs':=by
 apply List.ext_getElem hl
 intro j h1 h2
 have:=h j h1
 rwa [List.getD_eq_getElem?_getD,List.getD_eq_getElem?_getD,List.getElem?_eq_getElem h1,List.getElem?_eq_getElem h2] at this
theorem toList_inj {a b:ByteArray} (h:a.toList=b.toList):a=b:=by
 rw[ByteArray.toList_eq,ByteArray.toList_eq] at h
 obtain⟨⟨x⟩⟩:=a
 obtain⟨⟨y⟩⟩:=b
 simpa using h
theorem aFf {h1 h2 v1 v2:Bool} {k1 k2 x1 x2:ByteArray} {t1 t2 o1 o2:Int} (h:¬(⟨h1,k1,v1,x1,t1,o1⟩:Rc)=⟨h2,k2,v2,x2,t2,o2⟩) :
 ¬h1=h2∨(h1=h2/\¬k1=k2)∨(h1=h2/\k1=k2/\¬v1=v2)∨(h1=h2/\k1=k2/\v1=v2/\¬x1=x2)∨(h1=h2/\k1=k2/\v1=v2/\x1=x2/\¬t1=t2)∨(h1=h2/\k1=k2/\v1=v2/\x1=x2/\t1=t2/\¬o1=o2):=by
 by_cases e0:h1=h2
 ·by_cases e1:k1=k2
  ·by_cases e2:v1=v2
   ·by_cases e3:x1=x2
    ·by_cases e4:t1=t2
     ·by_cases e5:o1=o2
      ·exact absurd (by rw[e0,e1,e2,e3,e4,e5]) h
      ·exact .inr (.inr (.inr (.inr (.inr ⟨e0,e1,e2,e3,e4,e5⟩))))
     ·exact .inr (.inr (.inr (.inr (.inl ⟨e0,e1,e2,e3,e4⟩))))
    ·exact .inr (.inr (.inr (.inl ⟨e0,e1,e2,e3⟩)))
   ·exact .inr (.inr (.inl ⟨e0,e1,e2⟩))
  ·exact .inr (.inl ⟨e0,e1⟩)
 ·exact .inl e0
theorem xA (k i k' i':Int) (b b':Bd) (c c':Bool) (ra ra':Option Addr) (rc rc':Nat) (w:World) (hr:RRow w ra (b 11).rs) (hr':RRow w ra' (b' 11).rs) (hl:(b 11).rs.length<=maxLen) :
 Calls Tryz.prog 10 #[.agg (rqc k i b c ra rc),.agg (rqc k' i' b' c' ra' rc')] w (SameP (SQ k i b c k' i' b' c') w):=by
 have HB:Hid (Bx2 w 28 (rqc k i b c ra rc) (rqc k' i' b' c' ra' rc') ((w.alloc (.cells (rqc k i b c ra rc) 28)).alloc (.cells (rqc k' i' b' c' ra' rc') 28))):=Bx2.new _ _ _ _
 obtain⟨c0,c1,c2,c3,c4,c5,c6,c7,c8,c9,c10,c11,c12,c13,c14,c15,c16,c17⟩:=dH HB.out.a
 obtain⟨d0,d1,d2,d3,d4,d5,d6,d7,d8,d9,d10,d11,d12,d13,d14,d15,d16,d17⟩:=dH HB.out.b
 obtain⟨S,HS⟩:∃S:Prop,Hid (S=SQ k i b c k' i' b' c'):=⟨_,rfl⟩
 rw[<-HS.out]
 have HR:Hid (RRow ((w.alloc (.cells (rqc k i b c ra rc) 28)).alloc (.cells (rqc k' i' b' c' ra' rc') 28)) ra (b 11).rs):=hr.below HB.out.bel
 have HR':Hid (RRow ((w.alloc (.cells (rqc k i b c ra rc) 28)).alloc (.cells (rqc k' i' b' c' ra' rc') 28)) ra' (b' 11).rs):=hr'.below HB.out.bel
 unfold maxLen at hl
 unfold SQ at HS
 clear hr hr'
 generalize (rqc k i b c ra rc)=cs at *
 generalize (rqc k' i' b' c' ra' rc')=ds at *
 generalize (b 11).rs=rs at *
 generalize (b' 11).rs=rs' at *
 generalize (b 0).t=x0 at *
 generalize (b 1).t=x1 at *
 generalize (b 2).n=x2 at *
 generalize (b 3).n=x3 at *
 generalize (b 4).n=x4 at *
 generalize (b 5).n=x5 at *
 generalize (b 6).n=x6 at *
 generalize (b 8).n=x8 at *
 generalize (b 9).n=x9 at *
 generalize (b 10).n=x10 at *
 generalize (b 12).n=x12 at *
 generalize (b 13).n=x13 at *
 generalize (b 14).n=x14 at *
 generalize (b' 0).t=y0 at *
 generalize (b' 1).t=y1 at *
 generalize (b' 2).n=y2 at *
 generalize (b' 3).n=y3 at *
 generalize (b' 4).n=y4 at *
 generalize (b' 5).n=y5 at *
 generalize (b' 6).n=y6 at *
 generalize (b' 8).n=y8 at *
 generalize (b' 9).n=y9 at *
 generalize (b' 10).n=y10 at *
 generalize (b' 12).n=y12 at *
 generalize (b' 13).n=y13 at *
 generalize (b' 14).n=y14 at *
 go_enter Tryz.func10,Tryz.ntmps10
 simp only[List.append]
 go_wp2
 all_goals(try(go_ret;exact SameP.no (fun q=>by
  rw[HS.out] at q
  obtain⟨q0,q1,q2,q3,q4,q5,q6,q7,q8,q9,q10,q11,q12,q13,q14,q15,q16⟩:=q
  first
  | contradiction
  | exact absurd (congrArg ByteArray.toList q2) (by assumption)
  | exact absurd (congrArg ByteArray.toList q3) (by assumption)
  | (
   have hz:((rs.length:Int) != (rs'.length:Int))=true:=by assumption
   rw[q16] at hz;simp at hz)) HB.out.bel))
 have hlen0:((rs.length:Int) != (rs'.length:Int))=false:=by assumption
 have HL:Hid (rs.length=rs'.length):=by show _=_;simp at hlen0;omega
 have HSX:Hid (S↔rs=rs'):=by
  show _↔_
  rw[HS.out]
  have e0:x0=y0:=toList_inj (by assumption)
  have e1:x1=y1:=toList_inj (by assumption)
  constructor
  ·intro q;exact q.2.2.2.2.2.2.2.2.2.2.2.2.2.2.2.2
  ·intro q
   exact⟨by assumption,by assumption,e0,e1,by assumption,by assumption,by assumption,by assumption,by assumption,by assumption,by assumption,by assumption,by assumption,by assumption,by assumption,by assumption,q⟩
 clear hlen0 HS c0 c1 c2 c3 c4 c5 c6 c7 c8 c9 c10 c11 c13 c14 c15 c16 d0 d1 d2 d3 d4 d5 d6 d7 d8 d9 d10 d11 d13 d14 d15 d16
 have HBB:Hid (Below w.heap.size w ((w.alloc (.cells cs 28)).alloc (.cells ds 28))):=HB.out.bel
 clear HB
 generalize ((w.alloc (.cells cs 28)).alloc (.cells ds 28))=y at *
 go_loopw [5] (fun iv wr=>∃kk n:Nat,kk<=rs.length/\iv=.int .i64 kk/\wr=y.drewN n/\∀j,j < kk->rs.getD j rz=rs'.getD j rz) (fun iv _=>rs.length - (iof iv).toNat)
 case atStart=>exact⟨0,0,by omega,rfl,rfl,fun j hj=>by omega⟩
 case round=>
  obtain⟨kk,n,hk,rfl,rfl,hpre⟩:=hrel
  by_cases hlt:kk < rs.length
  ·have hltI:(kk:Int) < (rs.length:Int):=by omega
   have hlt':kk < rs'.length:=by rw[<-HL.out];exact hlt
   have hltI':(kk:Int) < (rs'.length:Int):=by omega
   obtain⟨b1,o1,rfl,y0,y1,y2,y3,y4,y5⟩:=HR.out kk hlt
   obtain⟨b2,o2,rfl,z0,z1,z2,z3,z4,z5⟩:=HR'.out kk hlt'
   clear HR HR'
   by_cases hre:rs.getD kk rz=rs'.getD kk rz
   ·have HP:Hid (∀j,j < kk+1->rs.getD j rz=rs'.getD j rz):=fun j hj=>by
     by_cases e:j=kk
     ·subst e;exact hre
     ·exact hpre j (by omega)
    rw[<-hre] at z0 z1 z2 z3 z4 z5
    clear hre hpre
    generalize rs.getD kk rz=r at *
    obtain⟨hk',kk',hv,v,t,o⟩:=r
    simp only at y0 y1 y2 y3 y4 y5 z0 z1 z2 z3 z4 z5
    go_wp2
    go_quiet (fail)
    go_wp2
    exact⟨⟨kk+1,n+nq,by omega,by go_num,rfl,HP.out⟩,by simp[iof];omega⟩
   ·have HN:Hid (¬S):=fun q=>hre (by rw[HSX.out.1 q])
    have HNE:Hid (¬rs.getD kk rz=rs'.getD kk rz):=hre
    clear hre hpre HSX
    generalize rs.getD kk rz=r at *
    generalize rs'.getD kk rz=r' at *
    obtain⟨hk1,k1,hv1,v1,t1,o1'⟩:=r
    obtain⟨hk2,k2,hv2,v2,t2,o2'⟩:=r'
    simp only at y0 y1 y2 y3 y4 y5 z0 z1 z2 z3 z4 z5
    have hne:∀x:World,(binOp .neq 84 (.agg #[.bool hk1,.string k1,.bool hv1,.string v1,.int .i64 t1,.int .i64 o1']) (.agg #[.bool hk2,.string k2,.bool hv2,.string v2,.int .i64 t2,.int .i64 o2'])).run Tryz.prog x=.ok (.bool true) x:=by
     intro x
     rcases aFf HNE.out with e | ⟨e0,e⟩ | ⟨e0,e1,e⟩ | ⟨e0,e1,e2,e⟩ | ⟨e0,e1,e2,e3,e⟩ | ⟨e0,e1,e2,e3,e4,e⟩
     ·have f:(hk1 == hk2)=false:=by simpa using e
      go_simp
     ·subst e0
      have f:(k1.toList == k2.toList)=false:=by simpa using fun q=>e (toList_inj q)
      go_simp
     ·subst e0 e1
      have f:(hv1 == hv2)=false:=by simpa using e
      go_simp
     ·subst e0 e1 e2
      have f:(v1.toList == v2.toList)=false:=by simpa using fun q=>e (toList_inj q)
      go_simp
     ·subst e0 e1 e2 e3
      have f:(t1 == t2)=false:=by simpa using e
      go_simp
     ·subst e0 e1 e2 e3 e4
      have f:(o1' == o2')=false:=by simpa using e
      go_simp
    go_wp2
    go_quiet (fail)
    go_wp2
    go_ret
    exact SameP.no HN.out (below_drewN (below_drewN HBB.out _) _)
  ·obtain rfl:kk=rs.length:=by omega
   go_wp2
   go_ret
   exact SameP.yes (HSX.out.2 (aCr HL.out hpre)) (below_drewN HBB.out n)
end Go.Proofs.YtaooidckmepdeaaGreatDoor
