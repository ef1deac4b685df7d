/- Yr Er Ea Rs Rb Pa -/
import Derived.Test.YtaooidckmepdeaaGreatDoorSkg
import Derived.Lib.AppendStr
namespace Go.Proofs.YtaooidckmepdeaaGreatDoor
set_option linter.unusedSimpArgs false
set_option linter.unusedVariables false
set_option maxRecDepth 100000
set_option maxHeartbeats 6400000
open Go.RowKit
theorem aBc:∀V:Fin 256,bits .and .u64 ((V.val:Nat):Int) 1=((V.val % 2:Nat):Int)/\bits .and .u64 ((V.val:Nat):Int) 2=((V.val / 2 % 2 * 2:Nat):Int):=by decide +kernel
def ErP (w0:World) (a:Option Addr) (cap:Nat) (l:List Nat) (w:World) (R:List Rc × Ls) (e:Ending) (w':World):Prop:=
 (∃a' c' A,e=.returned (.slice a' (A:List Rc).length c')/\RRow w' a' A/\(∀g,a'=some g->w.heap.size<=g.block)/\A.length<=65535/\(R.2≠none->A=R.1))/\EyR w0 a cap l w' R.2/\KeepB w0.heap.size w w'
theorem wG (w0 w:World) (a:Option Addr) (cap:Nat) (l:List Nat) (st:Ls) (C:EyC w0 a cap l) (h:EyR w0 a cap l w st) :
 Calls Tryz.prog 42 #[(.pointer (some ⟨w0.heap.size,0,none⟩))] w (ErP w0 a cap l w (gRow gRec st)):=by
 have hz:w0.heap.size < w.heap.size:=h.lt
 have HN:Hid _:=aR w0 w a cap l st 2 2 rfl (by decide) (by decide) C h
 have hn:(gN 2 st).1 < 65536:=bL 2 st (EyR.byt C h)
 have HG:Hid (gRow gRec st=gL gRec (gN 2 st).1 (gN 2 st).2):=rfl
 have HBD:Hid ((gN 2 st).2=none->(gN 2 st).1=0):=iI
 have HPB:Hid ((gRec none).2=none):=pr_rec.bad
 have HN1:Hid (∀s x,EyR w0 a cap l x s->Calls Tryz.prog 22 #[(.pointer (some ⟨w0.heap.size,0,none⟩)),.int .i64 1] x (EP w0 a cap l x (.int .u64 ((gN 1 s).1:Nat)) (gN 1 s).2)/\(gN 1 s).1 < 256):=fun s x hx=>⟨aR w0 x a cap l s 1 1 rfl (by decide) (by decide) C hx,bL 1 s (EyR.byt C hx)⟩
 have HN8:Hid (∀s x,EyR w0 a cap l x s->Calls Tryz.prog 22 #[(.pointer (some ⟨w0.heap.size,0,none⟩)),.int .i64 8] x (EP w0 a cap l x (.int .u64 ((gN 8 s).1:Nat)) (gI s).2)):=fun s x hx=>aR w0 x a cap l s 8 8 rfl (by decide) (by decide) C hx
 have HW8:Hid (∀s x,EyR w0 a cap l x s->IntKind.i64.wrap ((gN 8 s).1:Int)=(gI s).1):=fun s x hx=>by
  have hlt:(gN 8 s).1 < 18446744073709551616:=bL 8 s (EyR.byt C hx)
  show IntKind.i64.wrap _=iv _
  rw[IntKind.wrap_i64]
  unfold iv
  split<;>omega
 have HT:Hid (∀s x,EyR w0 a cap l x s->Calls Tryz.prog 41 #[(.pointer (some ⟨w0.heap.size,0,none⟩))] x (EP w0 a cap l x (.string (gT s).1) (gT s).2)):=fun s x hx=>kZ w0 x a cap l s C hx
 clear h C
 generalize gRow gRec st=R at *
 generalize (gN 2 st).1=n at *
 generalize (gN 2 st).2=s0 at *
 have hnI:(n:Int) < 65536:=by omega
 have en:IntKind.i64.wrap (n:Int)=(n:Int):=by rw[IntKind.wrap_i64];omega
 go_enter Tryz.func42,Tryz.ntmps42
 go_wp2_with (go_at_call 22;refine Calls.mono HN.out ?_;rintro e w1 ⟨rfl,hw1,hk1⟩)
 go_loopw [4,5] (fun v i wr=>∃(k:Nat) (AA:List Rc) (s:Ls),k<=n/\i=.int .i64 k/\AA.length=k/\(s=none->R.2=none)/\(∀ls,s=some ls->R=gPre AA (gL gRec (n - k) (some ls)))/\wr.ownsRow w.heap.size 84 6 v AA.length (rcv AA)/\EyR w0 a cap l wr s/\KeepB w0.heap.size w wr) (fun _ i _=>n - (iof i).toNat)
 case atStart=>exact⟨0,[],s0,by omega,rfl,rfl,fun e=>by rw[HG.out,HBD.out e,e];rfl,fun ls e=>by rw[HG.out,e];exact cZ HPB.out _ _,World.ownsRow_nil _ _ _ _,hw1,hk1⟩
 case round=>
  clear hw1 hk1 HN
  obtain⟨k,AA,s,hk,rfl,hAl,hsn,hR,hown,hw1,hk1⟩:=hrel
  obtain⟨I9,_,_,_,x0,x1,x2,_,_⟩:=hw1.open
  have HAL:Hid (AA.length=k):=hAl
  have HKW:Hid (KeepB w0.heap.size w wr):=hk1
  have HEW:Hid (EyR w0 a cap l wr s):=hw1
  clear hAl
  by_cases hlt:k < n
  ·have hltI:(k:Int) < (n:Int):=by omega
   cases s with
   | none=>
    obtain⟨va,vc,rfl,hsr,hnn,_⟩:=fH hown
    have HSR:Hid (RRow wr va AA):=hsr
    have HNG:Hid (∀g,va=some g->w.heap.size<=g.block):=fA hown
    clear hown hsr hnn
    simp only[Option.isNone_none] at x2
    have HRN:Hid (R.2=none):=hsn rfl
    clear HN1 HN8 HW8 HT HG HBD HPB hR
    go_wp2
    go_ret
    exact⟨⟨va,vc,AA,rfl,HSR.out,HNG.out,by have:=HAL.out;omega,fun q=>absurd HRN.out q⟩,by rw[HRN.out];exact hw1,hk1⟩
   | some ls=>
    simp only[Option.isNone_some] at x2
    have HNK:Hid (n - k=(n - (k+1))+1):=by show _=_;omega
    have HRB:Hid ((gRec (some ls)).2=none->R.2=none):=fun e=>by rw[hR ls rfl,HNK.out,eZ _ _ _ e]
    have HRS:Hid (∀l2,(gRec (some ls)).2=some l2->R=gPre (AA++[(gRec (some ls)).1]) (gL gRec (n - (k+1)) (some l2))):=fun l2 e=>by rw[hR ls rfl,HNK.out];exact dS _ _ _ _ e
    obtain⟨hC1,hV⟩:=HN1.out (some ls) wr hw1
    generalize hG1:gN 1 (some ls)=G1 at *
    obtain⟨V,s1⟩:=G1
    simp only at hC1 hV
    have HG1:Hid (gN 1 (some ls)=(V,s1)):=hG1
    have HC1:Hid (Calls Tryz.prog 22 #[(.pointer (some ⟨w0.heap.size,0,none⟩)),.int .i64 1] wr (EP w0 a cap l wr (.int .u64 (V:Int)) s1)):=hC1
    obtain⟨hb1,hb2⟩:=aBc ⟨V,hV⟩
    simp only at hb1 hb2
    obtain⟨va,vn,vc,rfl⟩:∃va vn vc,u4=.slice va vn vc:=by
     rcases hown.2 with⟨rfl,_⟩ | ⟨g,cap,cur,rfl,_⟩
     ·exact⟨_,_,_,rfl⟩
     ·exact⟨_,_,_,rfl⟩
    have HOWN:Hid (wr.ownsRow w.heap.size 84 6 (.slice va vn vc) AA.length (rcv AA)):=hown
    clear hsn hR hw1 hk1 hG1 hC1 HN1 HG HBD HPB x0 x1 hV hown
    by_cases hbig:3 < V
    ·have hbI:(V:Int) > 3:=by omega
     rcases(show V % 2=0∨V % 2=1 by omega) with hm1 | hm1<;>rcases(show V / 2 % 2=0∨V / 2 % 2=1 by omega) with hm2 | hm2
     ·have p1:bits .and .u64 (V:Int) 1=0:=by rw[hb1,hm1];rfl
      have p2:bits .and .u64 (V:Int) 2=0:=by rw[hb2,hm2];rfl
      clear hb1 hb2 hm1 hm2
      have HT8:Hid (∀x,EyR w0 a cap l x none->Calls Tryz.prog 22 #[(.pointer (some ⟨w0.heap.size,0,none⟩)),.int .i64 8] x (EP w0 a cap l x (.int .u64 ((gN 8 none).1:Nat)) (gI none).2)):=fun x hx=>HN8.out _ x hx
      have H8W:Hid (∀x,EyR w0 a cap l x none->IntKind.i64.wrap ((gN 8 none).1:Int)=(gI none).1):=fun x hx=>HW8.out _ x hx
      have HGR:Hid ((gI none).2=none/\(gRec (some ls)).2=none):=⟨rfl,by have e:gUp 1 3 (some ls)=(0,none):=(by unfold gUp;rw[HG1.out];exact if_pos hbig);unfold gRec;rw[e];first | rfl | (simp[gIf];rfl) | simp[gIf,gI,gN]⟩
      generalize (gN 8 none).1=V8 at *
      generalize (gI none).1=tt at *
      generalize (gI none).2=s5 at *
      clear HT HN8 HW8 HG1
      have tok1:=trivial
      go_wp2_with (first
       | (have _t:=tok1;go_at_call 22;refine Calls.mono HC1.out ?_;rintro e w1 ⟨rfl,hw1,hk1⟩;obtain⟨I1,_,_,_,c0,c1,c2,f1,f2⟩:=hw1.open;have HE1:Hid (EyR w0 a cap l (w1.setCell ⟨w0.heap.size,2,none⟩ (.bool true)) none):=hw1.bad.1;have HR1:Hid (KeepB w0.heap.size wr (w1.setCell ⟨w0.heap.size,2,none⟩ (.bool true))):=hk1.trans hw1.bad.2;have HZX:Hid (w0.heap.size < w1.heap.size/\wr.heap.size<=w1.heap.size):=⟨hw1.lt,hk1.size⟩;have HNE:Hid (w1.heap.size≠w0.heap.size):=Nat.ne_of_gt hw1.lt;clear hw1 hk1 _t tok1;have tok2:=trivial)
       | (have _t:=tok2;refine wpList_store_row rfl 84 _ _ rfl w1.heap.size #[.bool false,.string ⟨#[]⟩,.bool false,.string ⟨#[]⟩,.int .i64 0,.int .i64 0] rfl rfl 84 #[.bool false,.string ⟨#[]⟩,.bool false,.string ⟨#[]⟩,.int .i64 0,.int .i64 0] (by have q:=heap_alloc_new (w1.setCell ⟨w0.heap.size,2,none⟩ (.bool true)) (.cells #[.bool false,.string ⟨#[]⟩,.bool false,.string ⟨#[]⟩,.int .i64 0,.int .i64 0] 84);rw[show(w1.setCell ⟨w0.heap.size,2,none⟩ (.bool true)).heap.size=w1.heap.size by simp] at q;exact q) Tryz.info84 rfl (by simp[Value.oneCell']) ?_;have hq9:=bI (w1.setCell ⟨w0.heap.size,2,none⟩ (.bool true)) #[.bool false,.string ⟨#[]⟩,.bool false,.string ⟨#[]⟩,.int .i64 0,.int .i64 0] #[.bool false,.string ⟨#[]⟩,.bool false,.string ⟨#[]⟩,.int .i64 0,.int .i64 0] 84;rw[show(w1.setCell ⟨w0.heap.size,2,none⟩ (.bool true)).heap.size=w1.heap.size by simp] at hq9;obtain⟨hx9,hb9⟩:=hq9;generalize World.setRow _ w1.heap.size #[.bool false,.string ⟨#[]⟩,.bool false,.string ⟨#[]⟩,.int .i64 0,.int .i64 0]=w3 at *;have HX3:Hid (w3.heap[w1.heap.size]? = some (.cells #[.bool false,.string ⟨#[]⟩,.bool false,.string ⟨#[]⟩,.int .i64 0,.int .i64 0] 84 (0,0))):=hx9;have HE3:Hid (EyR w0 a cap l w3 none):=HE1.out.below (by rw[show(w1.setCell ⟨w0.heap.size,2,none⟩ (.bool true)).heap.size=w1.heap.size by simp];exact hb9);have HR3:Hid (KeepB w0.heap.size wr w3):=HR1.out.trans (KeepB.of_below (by rw[show(w1.setCell ⟨w0.heap.size,2,none⟩ (.bool true)).heap.size=w1.heap.size by simp];exact hb9));have g0:=(aB HX3.out 0).1;have g1:=(aB HX3.out 1).1;have g2:=(aB HX3.out 2).1;have g3:=(aB HX3.out 3).1;have g4:=(aB HX3.out 4).1;have g5:=(aB HX3.out 5).1;have frg:=fun j=>(aB HX3.out j).2;simp only[List.getElem?_toArray,List.getElem?_cons_zero,List.getElem?_cons_succ] at g0 g1 g2 g3 g4 g5;clear hx9 hb9 _t tok2;have tok3:=trivial)
       | (have _t:=tok3;go_at_call 22;have e8:=H8W.out _ HE3.out;refine(HT8.out _ HE3.out).mono ?_;rintro e w6 ⟨rfl,hw4,hk4⟩;have HBw6:Hid (w6.heap[w1.heap.size]? = some (.cells #[.bool false,.string ⟨#[]⟩,.bool false,.string ⟨#[]⟩,.int .i64 0,.int .i64 0] 84 (0,0))):=hk4.box HX3.out HNE.out;have HEw6:Hid (EyR w0 a cap l (w6.setCell ⟨w1.heap.size,4,none⟩ (.int .i64 tt)) s5):=hw4.off HZX.out.1;have HRw6:Hid (KeepB w0.heap.size wr (w6.setCell ⟨w1.heap.size,4,none⟩ (.int .i64 tt))):=bJ (HR3.out.trans hk4) HZX.out.2;have HXw6:Hid ((w6.setCell ⟨w1.heap.size,4,none⟩ (.int .i64 tt)).heap[w1.heap.size]? = some (.cells #[.bool false,.string ⟨#[]⟩,.bool false,.string ⟨#[]⟩,.int .i64 tt,.int .i64 0] 84 (0,0))):=bG HBw6.out 4 _;have j0:=(aB HBw6.out 0).1;have j1:=(aB HBw6.out 1).1;have j2:=(aB HBw6.out 2).1;have j3:=(aB HBw6.out 3).1;have j4:=(aB HBw6.out 4).1;have j5:=(aB HBw6.out 5).1;have frj:=fun j=>(aB HBw6.out j).2;simp only[List.getElem?_toArray,List.getElem?_cons_zero,List.getElem?_cons_succ] at j0 j1 j2 j3 j4 j5;clear hw4 hk4 _t tok3;have tok8:=trivial)
       | (have _t:=tok8;refine wpList_load_row rfl 84 _ rfl w1.heap.size rfl 84 #[.bool false,.string ⟨#[]⟩,.bool false,.string ⟨#[]⟩,.int .i64 tt,.int .i64 0] (0,0) _ HXw6.out Tryz.underlying84 rfl Tryz.info84 ?_;clear _t tok8;have HOW:Hid (((w6.setCell ⟨w1.heap.size,4,none⟩ (.int .i64 tt)).alloc (.cells #[.bool false,.string ⟨#[]⟩,.bool false,.string ⟨#[]⟩,.int .i64 tt,.int .i64 0] 84)).ownsRow w.heap.size 84 6 (.slice va vn vc) AA.length (rcv AA)):=bY (bU HOWN.out HRw6.out hz) (aA _);have HLE:Hid (w.heap.size<=((w6.setCell ⟨w1.heap.size,4,none⟩ (.int .i64 tt)).alloc (.cells #[.bool false,.string ⟨#[]⟩,.bool false,.string ⟨#[]⟩,.int .i64 tt,.int .i64 0] 84)).heap.size):=(by show _<=_;have:=HRw6.out.size;have:=HKW.out.size;simp at *;omega);have HNEW:Hid (((w6.setCell ⟨w1.heap.size,4,none⟩ (.int .i64 tt)).alloc (.cells #[.bool false,.string ⟨#[]⟩,.bool false,.string ⟨#[]⟩,.int .i64 tt,.int .i64 0] 84)).heap[w6.heap.size]? = some (.cells (List.toArray [Value.bool false,Value.string ⟨#[]⟩,Value.bool false,Value.string ⟨#[]⟩,Value.int .i64 tt,Value.int .i64 0]) 84 (0,0))):=(by have q:=heap_alloc_new (w6.setCell ⟨w1.heap.size,4,none⟩ (.int .i64 tt)) (.cells #[.bool false,.string ⟨#[]⟩,.bool false,.string ⟨#[]⟩,.int .i64 tt,.int .i64 0] 84);rw[show(w6.setCell ⟨w1.heap.size,4,none⟩ (.int .i64 tt)).heap.size=w6.heap.size by simp] at q;exact q);have tok9:=trivial;simp only[Act.put,sP])
       | (at_builtin;have _t:=tok9;refine bH (by rfl) _ _ 26 84 rfl _ 6 _ Tryz.underlying26 fC rfl (by decide) (by decide) w.heap.size _ _ _ rfl (HOW.out) (HLE.out) _ [Value.bool false,Value.string ⟨#[]⟩,Value.bool false,Value.string ⟨#[]⟩,Value.int .i64 tt,Value.int .i64 0] rfl rfl (HNEW.out) ((by simp[Value.oneCell'])) (by rw[HAL.out];omega) ?_;intro v3 w9 ho3 hg3;have HO3:Hid (w9.ownsRow w.heap.size 84 6 v3 (AA.length+1) (rcv AA++[Value.bool false,Value.string ⟨#[]⟩,Value.bool false,Value.string ⟨#[]⟩,Value.int .i64 tt,Value.int .i64 0])):=ho3;have HG3:Hid _:=hg3;clear ho3 hg3 _t tok9))
      refine⟨⟨k+1,AA++[⟨false,⟨#[]⟩,false,⟨#[]⟩,tt,0⟩],s5,by omega,by go_num,by rw[List.length_append,HAL.out];rfl,fun e=>HRB.out (by rw[HGR.out.2]),fun l5 e=>absurd (HGR.out.1.symm.trans e) (by simp),by rw[List.length_append,dY];exact HO3.out,?_,?_⟩,by simp[iof];omega⟩
      ·exact(EyR.below HEw6.out (aA _)).grown HG3.out HOW.out hz
      ·exact bX (bN _ (HKW.out.trans HRw6.out)) HOW.out HG3.out (Nat.le_refl _)
     ·have p1:bits .and .u64 (V:Int) 1=0:=by rw[hb1,hm1];rfl
      have p2:bits .and .u64 (V:Int) 2=2:=by rw[hb2,hm2];rfl
      clear hb1 hb2 hm1 hm2
      have HTV:Hid (∀x,EyR w0 a cap l x none->Calls Tryz.prog 41 #[(.pointer (some ⟨w0.heap.size,0,none⟩))] x (EP w0 a cap l x (.string (gT none).1) (gT none).2)):=fun x hx=>HT.out _ x hx
      have HT8:Hid (∀x,EyR w0 a cap l x (gT none).2->Calls Tryz.prog 22 #[(.pointer (some ⟨w0.heap.size,0,none⟩)),.int .i64 8] x (EP w0 a cap l x (.int .u64 ((gN 8 (gT none).2).1:Nat)) (gI (gT none).2).2)):=fun x hx=>HN8.out _ x hx
      have H8W:Hid (∀x,EyR w0 a cap l x (gT none).2->IntKind.i64.wrap ((gN 8 (gT none).2).1:Int)=(gI (gT none).2).1):=fun x hx=>HW8.out _ x hx
      have HGR:Hid ((gI (gT none).2).2=none/\(gRec (some ls)).2=none):=⟨rfl,by have e:gUp 1 3 (some ls)=(0,none):=(by unfold gUp;rw[HG1.out];exact if_pos hbig);unfold gRec;rw[e];first | rfl | (simp[gIf];rfl) | simp[gIf,gI,gN]⟩
      generalize (gT none).1=vv at *
      generalize (gT none).2=s3 at *
      generalize (gN 8 s3).1=V8 at *
      generalize (gI s3).1=tt at *
      generalize (gI s3).2=s5 at *
      clear HT HN8 HW8 HG1
      have tok1:=trivial
      go_wp2_with (first
       | (have _t:=tok1;go_at_call 22;refine Calls.mono HC1.out ?_;rintro e w1 ⟨rfl,hw1,hk1⟩;obtain⟨I1,_,_,_,c0,c1,c2,f1,f2⟩:=hw1.open;have HE1:Hid (EyR w0 a cap l (w1.setCell ⟨w0.heap.size,2,none⟩ (.bool true)) none):=hw1.bad.1;have HR1:Hid (KeepB w0.heap.size wr (w1.setCell ⟨w0.heap.size,2,none⟩ (.bool true))):=hk1.trans hw1.bad.2;have HZX:Hid (w0.heap.size < w1.heap.size/\wr.heap.size<=w1.heap.size):=⟨hw1.lt,hk1.size⟩;have HNE:Hid (w1.heap.size≠w0.heap.size):=Nat.ne_of_gt hw1.lt;clear hw1 hk1 _t tok1;have tok2:=trivial)
       | (have _t:=tok2;refine wpList_store_row rfl 84 _ _ rfl w1.heap.size #[.bool false,.string ⟨#[]⟩,.bool true,.string ⟨#[]⟩,.int .i64 0,.int .i64 0] rfl rfl 84 #[.bool false,.string ⟨#[]⟩,.bool false,.string ⟨#[]⟩,.int .i64 0,.int .i64 0] (by have q:=heap_alloc_new (w1.setCell ⟨w0.heap.size,2,none⟩ (.bool true)) (.cells #[.bool false,.string ⟨#[]⟩,.bool false,.string ⟨#[]⟩,.int .i64 0,.int .i64 0] 84);rw[show(w1.setCell ⟨w0.heap.size,2,none⟩ (.bool true)).heap.size=w1.heap.size by simp] at q;exact q) Tryz.info84 rfl (by simp[Value.oneCell']) ?_;have hq9:=bI (w1.setCell ⟨w0.heap.size,2,none⟩ (.bool true)) #[.bool false,.string ⟨#[]⟩,.bool false,.string ⟨#[]⟩,.int .i64 0,.int .i64 0] #[.bool false,.string ⟨#[]⟩,.bool true,.string ⟨#[]⟩,.int .i64 0,.int .i64 0] 84;rw[show(w1.setCell ⟨w0.heap.size,2,none⟩ (.bool true)).heap.size=w1.heap.size by simp] at hq9;obtain⟨hx9,hb9⟩:=hq9;generalize World.setRow _ w1.heap.size #[.bool false,.string ⟨#[]⟩,.bool true,.string ⟨#[]⟩,.int .i64 0,.int .i64 0]=w3 at *;have HX3:Hid (w3.heap[w1.heap.size]? = some (.cells #[.bool false,.string ⟨#[]⟩,.bool true,.string ⟨#[]⟩,.int .i64 0,.int .i64 0] 84 (0,0))):=hx9;have HE3:Hid (EyR w0 a cap l w3 none):=HE1.out.below (by rw[show(w1.setCell ⟨w0.heap.size,2,none⟩ (.bool true)).heap.size=w1.heap.size by simp];exact hb9);have HR3:Hid (KeepB w0.heap.size wr w3):=HR1.out.trans (KeepB.of_below (by rw[show(w1.setCell ⟨w0.heap.size,2,none⟩ (.bool true)).heap.size=w1.heap.size by simp];exact hb9));have g0:=(aB HX3.out 0).1;have g1:=(aB HX3.out 1).1;have g2:=(aB HX3.out 2).1;have g3:=(aB HX3.out 3).1;have g4:=(aB HX3.out 4).1;have g5:=(aB HX3.out 5).1;have frg:=fun j=>(aB HX3.out j).2;simp only[List.getElem?_toArray,List.getElem?_cons_zero,List.getElem?_cons_succ] at g0 g1 g2 g3 g4 g5;clear hx9 hb9 _t tok2;have tok3:=trivial)
       | (have _t:=tok3;go_at_call 41;refine(HTV.out _ HE3.out).mono ?_;rintro e w5 ⟨rfl,hw4,hk4⟩;have HBw5:Hid (w5.heap[w1.heap.size]? = some (.cells #[.bool false,.string ⟨#[]⟩,.bool true,.string ⟨#[]⟩,.int .i64 0,.int .i64 0] 84 (0,0))):=hk4.box HX3.out HNE.out;have HEw5:Hid (EyR w0 a cap l (w5.setCell ⟨w1.heap.size,3,none⟩ (.string vv)) s3):=hw4.off HZX.out.1;have HRw5:Hid (KeepB w0.heap.size wr (w5.setCell ⟨w1.heap.size,3,none⟩ (.string vv))):=bJ (HR3.out.trans hk4) HZX.out.2;have HXw5:Hid ((w5.setCell ⟨w1.heap.size,3,none⟩ (.string vv)).heap[w1.heap.size]? = some (.cells #[.bool false,.string ⟨#[]⟩,.bool true,.string vv,.int .i64 0,.int .i64 0] 84 (0,0))):=bG HBw5.out 3 _;have i0:=(aB HBw5.out 0).1;have i1:=(aB HBw5.out 1).1;have i2:=(aB HBw5.out 2).1;have i3:=(aB HBw5.out 3).1;have i4:=(aB HBw5.out 4).1;have i5:=(aB HBw5.out 5).1;have fri:=fun j=>(aB HBw5.out j).2;simp only[List.getElem?_toArray,List.getElem?_cons_zero,List.getElem?_cons_succ] at i0 i1 i2 i3 i4 i5;clear hw4 hk4 _t tok3;have tok5:=trivial)
       | (have _t:=tok5;go_at_call 22;have e8:=H8W.out _ HEw5.out;refine(HT8.out _ HEw5.out).mono ?_;rintro e w6 ⟨rfl,hw4,hk4⟩;have HBw6:Hid (w6.heap[w1.heap.size]? = some (.cells #[.bool false,.string ⟨#[]⟩,.bool true,.string vv,.int .i64 0,.int .i64 0] 84 (0,0))):=hk4.box HXw5.out HNE.out;have HEw6:Hid (EyR w0 a cap l (w6.setCell ⟨w1.heap.size,4,none⟩ (.int .i64 tt)) s5):=hw4.off HZX.out.1;have HRw6:Hid (KeepB w0.heap.size wr (w6.setCell ⟨w1.heap.size,4,none⟩ (.int .i64 tt))):=bJ (HRw5.out.trans hk4) HZX.out.2;have HXw6:Hid ((w6.setCell ⟨w1.heap.size,4,none⟩ (.int .i64 tt)).heap[w1.heap.size]? = some (.cells #[.bool false,.string ⟨#[]⟩,.bool true,.string vv,.int .i64 tt,.int .i64 0] 84 (0,0))):=bG HBw6.out 4 _;have j0:=(aB HBw6.out 0).1;have j1:=(aB HBw6.out 1).1;have j2:=(aB HBw6.out 2).1;have j3:=(aB HBw6.out 3).1;have j4:=(aB HBw6.out 4).1;have j5:=(aB HBw6.out 5).1;have frj:=fun j=>(aB HBw6.out j).2;simp only[List.getElem?_toArray,List.getElem?_cons_zero,List.getElem?_cons_succ] at j0 j1 j2 j3 j4 j5;clear hw4 hk4 _t tok5;have tok8:=trivial)
       | (have _t:=tok8;refine wpList_load_row rfl 84 _ rfl w1.heap.size rfl 84 #[.bool false,.string ⟨#[]⟩,.bool true,.string vv,.int .i64 tt,.int .i64 0] (0,0) _ HXw6.out Tryz.underlying84 rfl Tryz.info84 ?_;clear _t tok8;have HOW:Hid (((w6.setCell ⟨w1.heap.size,4,none⟩ (.int .i64 tt)).alloc (.cells #[.bool false,.string ⟨#[]⟩,.bool true,.string vv,.int .i64 tt,.int .i64 0] 84)).ownsRow w.heap.size 84 6 (.slice va vn vc) AA.length (rcv AA)):=bY (bU HOWN.out HRw6.out hz) (aA _);have HLE:Hid (w.heap.size<=((w6.setCell ⟨w1.heap.size,4,none⟩ (.int .i64 tt)).alloc (.cells #[.bool false,.string ⟨#[]⟩,.bool true,.string vv,.int .i64 tt,.int .i64 0] 84)).heap.size):=(by show _<=_;have:=HRw6.out.size;have:=HKW.out.size;simp at *;omega);have HNEW:Hid (((w6.setCell ⟨w1.heap.size,4,none⟩ (.int .i64 tt)).alloc (.cells #[.bool false,.string ⟨#[]⟩,.bool true,.string vv,.int .i64 tt,.int .i64 0] 84)).heap[w6.heap.size]? = some (.cells (List.toArray [Value.bool false,Value.string ⟨#[]⟩,Value.bool true,Value.string vv,Value.int .i64 tt,Value.int .i64 0]) 84 (0,0))):=(by have q:=heap_alloc_new (w6.setCell ⟨w1.heap.size,4,none⟩ (.int .i64 tt)) (.cells #[.bool false,.string ⟨#[]⟩,.bool true,.string vv,.int .i64 tt,.int .i64 0] 84);rw[show(w6.setCell ⟨w1.heap.size,4,none⟩ (.int .i64 tt)).heap.size=w6.heap.size by simp] at q;exact q);have tok9:=trivial;simp only[Act.put,sP])
       | (at_builtin;have _t:=tok9;refine bH (by rfl) _ _ 26 84 rfl _ 6 _ Tryz.underlying26 fC rfl (by decide) (by decide) w.heap.size _ _ _ rfl (HOW.out) (HLE.out) _ [Value.bool false,Value.string ⟨#[]⟩,Value.bool true,Value.string vv,Value.int .i64 tt,Value.int .i64 0] rfl rfl (HNEW.out) ((by simp[Value.oneCell'])) (by rw[HAL.out];omega) ?_;intro v3 w9 ho3 hg3;have HO3:Hid (w9.ownsRow w.heap.size 84 6 v3 (AA.length+1) (rcv AA++[Value.bool false,Value.string ⟨#[]⟩,Value.bool true,Value.string vv,Value.int .i64 tt,Value.int .i64 0])):=ho3;have HG3:Hid _:=hg3;clear ho3 hg3 _t tok9))
      refine⟨⟨k+1,AA++[⟨false,⟨#[]⟩,true,vv,tt,0⟩],s5,by omega,by go_num,by rw[List.length_append,HAL.out];rfl,fun e=>HRB.out (by rw[HGR.out.2]),fun l5 e=>absurd (HGR.out.1.symm.trans e) (by simp),by rw[List.length_append,dY];exact HO3.out,?_,?_⟩,by simp[iof];omega⟩
      ·exact(EyR.below HEw6.out (aA _)).grown HG3.out HOW.out hz
      ·exact bX (bN _ (HKW.out.trans HRw6.out)) HOW.out HG3.out (Nat.le_refl _)
     ·have p1:bits .and .u64 (V:Int) 1=1:=by rw[hb1,hm1];rfl
      have p2:bits .and .u64 (V:Int) 2=0:=by rw[hb2,hm2];rfl
      clear hb1 hb2 hm1 hm2
      have HTK:Hid (∀x,EyR w0 a cap l x none->Calls Tryz.prog 41 #[(.pointer (some ⟨w0.heap.size,0,none⟩))] x (EP w0 a cap l x (.string (gT none).1) (gT none).2)):=fun x hx=>HT.out _ x hx
      have HT8:Hid (∀x,EyR w0 a cap l x (gT none).2->Calls Tryz.prog 22 #[(.pointer (some ⟨w0.heap.size,0,none⟩)),.int .i64 8] x (EP w0 a cap l x (.int .u64 ((gN 8 (gT none).2).1:Nat)) (gI (gT none).2).2)):=fun x hx=>HN8.out _ x hx
      have H8W:Hid (∀x,EyR w0 a cap l x (gT none).2->IntKind.i64.wrap ((gN 8 (gT none).2).1:Int)=(gI (gT none).2).1):=fun x hx=>HW8.out _ x hx
      have HGR:Hid ((gI (gT none).2).2=none/\(gRec (some ls)).2=none):=⟨rfl,by have e:gUp 1 3 (some ls)=(0,none):=(by unfold gUp;rw[HG1.out];exact if_pos hbig);unfold gRec;rw[e];first | rfl | (simp[gIf];rfl) | simp[gIf,gI,gN]⟩
      generalize (gT none).1=kk at *
      generalize (gT none).2=s2 at *
      generalize (gN 8 s2).1=V8 at *
      generalize (gI s2).1=tt at *
      generalize (gI s2).2=s5 at *
      clear HT HN8 HW8 HG1
      have tok1:=trivial
      go_wp2_with (first
       | (have _t:=tok1;go_at_call 22;refine Calls.mono HC1.out ?_;rintro e w1 ⟨rfl,hw1,hk1⟩;obtain⟨I1,_,_,_,c0,c1,c2,f1,f2⟩:=hw1.open;have HE1:Hid (EyR w0 a cap l (w1.setCell ⟨w0.heap.size,2,none⟩ (.bool true)) none):=hw1.bad.1;have HR1:Hid (KeepB w0.heap.size wr (w1.setCell ⟨w0.heap.size,2,none⟩ (.bool true))):=hk1.trans hw1.bad.2;have HZX:Hid (w0.heap.size < w1.heap.size/\wr.heap.size<=w1.heap.size):=⟨hw1.lt,hk1.size⟩;have HNE:Hid (w1.heap.size≠w0.heap.size):=Nat.ne_of_gt hw1.lt;clear hw1 hk1 _t tok1;have tok2:=trivial)
       | (have _t:=tok2;refine wpList_store_row rfl 84 _ _ rfl w1.heap.size #[.bool true,.string ⟨#[]⟩,.bool false,.string ⟨#[]⟩,.int .i64 0,.int .i64 0] rfl rfl 84 #[.bool false,.string ⟨#[]⟩,.bool false,.string ⟨#[]⟩,.int .i64 0,.int .i64 0] (by have q:=heap_alloc_new (w1.setCell ⟨w0.heap.size,2,none⟩ (.bool true)) (.cells #[.bool false,.string ⟨#[]⟩,.bool false,.string ⟨#[]⟩,.int .i64 0,.int .i64 0] 84);rw[show(w1.setCell ⟨w0.heap.size,2,none⟩ (.bool true)).heap.size=w1.heap.size by simp] at q;exact q) Tryz.info84 rfl (by simp[Value.oneCell']) ?_;have hq9:=bI (w1.setCell ⟨w0.heap.size,2,none⟩ (.bool true)) #[.bool false,.string ⟨#[]⟩,.bool false,.string ⟨#[]⟩,.int .i64 0,.int .i64 0] #[.bool true,.string ⟨#[]⟩,.bool false,.string ⟨#[]⟩,.int .i64 0,.int .i64 0] 84;rw[show(w1.setCell ⟨w0.heap.size,2,none⟩ (.bool true)).heap.size=w1.heap.size by simp] at hq9;obtain⟨hx9,hb9⟩:=hq9;generalize World.setRow _ w1.heap.size #[.bool true,.string ⟨#[]⟩,.bool false,.string ⟨#[]⟩,.int .i64 0,.int .i64 0]=w3 at *;have HX3:Hid (w3.heap[w1.heap.size]? = some (.cells #[.bool true,.string ⟨#[]⟩,.bool false,.string ⟨#[]⟩,.int .i64 0,.int .i64 0] 84 (0,0))):=hx9;have HE3:Hid (EyR w0 a cap l w3 none):=HE1.out.below (by rw[show(w1.setCell ⟨w0.heap.size,2,none⟩ (.bool true)).heap.size=w1.heap.size by simp];exact hb9);have HR3:Hid (KeepB w0.heap.size wr w3):=HR1.out.trans (KeepB.of_below (by rw[show(w1.setCell ⟨w0.heap.size,2,none⟩ (.bool true)).heap.size=w1.heap.size by simp];exact hb9));have g0:=(aB HX3.out 0).1;have g1:=(aB HX3.out 1).1;have g2:=(aB HX3.out 2).1;have g3:=(aB HX3.out 3).1;have g4:=(aB HX3.out 4).1;have g5:=(aB HX3.out 5).1;have frg:=fun j=>(aB HX3.out j).2;simp only[List.getElem?_toArray,List.getElem?_cons_zero,List.getElem?_cons_succ] at g0 g1 g2 g3 g4 g5;clear hx9 hb9 _t tok2;have tok3:=trivial)
       | (have _t:=tok3;go_at_call 41;refine(HTK.out _ HE3.out).mono ?_;rintro e w4 ⟨rfl,hw4,hk4⟩;have HBw4:Hid (w4.heap[w1.heap.size]? = some (.cells #[.bool true,.string ⟨#[]⟩,.bool false,.string ⟨#[]⟩,.int .i64 0,.int .i64 0] 84 (0,0))):=hk4.box HX3.out HNE.out;have HEw4:Hid (EyR w0 a cap l (w4.setCell ⟨w1.heap.size,1,none⟩ (.string kk)) s2):=hw4.off HZX.out.1;have HRw4:Hid (KeepB w0.heap.size wr (w4.setCell ⟨w1.heap.size,1,none⟩ (.string kk))):=bJ (HR3.out.trans hk4) HZX.out.2;have HXw4:Hid ((w4.setCell ⟨w1.heap.size,1,none⟩ (.string kk)).heap[w1.heap.size]? = some (.cells #[.bool true,.string kk,.bool false,.string ⟨#[]⟩,.int .i64 0,.int .i64 0] 84 (0,0))):=bG HBw4.out 1 _;have h0:=(aB HBw4.out 0).1;have h1:=(aB HBw4.out 1).1;have h2:=(aB HBw4.out 2).1;have h3:=(aB HBw4.out 3).1;have h4:=(aB HBw4.out 4).1;have h5:=(aB HBw4.out 5).1;have frh:=fun j=>(aB HBw4.out j).2;simp only[List.getElem?_toArray,List.getElem?_cons_zero,List.getElem?_cons_succ] at h0 h1 h2 h3 h4 h5;clear hw4 hk4 _t tok3;have tok4:=trivial)
       | (have _t:=tok4;go_at_call 22;have e8:=H8W.out _ HEw4.out;refine(HT8.out _ HEw4.out).mono ?_;rintro e w6 ⟨rfl,hw4,hk4⟩;have HBw6:Hid (w6.heap[w1.heap.size]? = some (.cells #[.bool true,.string kk,.bool false,.string ⟨#[]⟩,.int .i64 0,.int .i64 0] 84 (0,0))):=hk4.box HXw4.out HNE.out;have HEw6:Hid (EyR w0 a cap l (w6.setCell ⟨w1.heap.size,4,none⟩ (.int .i64 tt)) s5):=hw4.off HZX.out.1;have HRw6:Hid (KeepB w0.heap.size wr (w6.setCell ⟨w1.heap.size,4,none⟩ (.int .i64 tt))):=bJ (HRw4.out.trans hk4) HZX.out.2;have HXw6:Hid ((w6.setCell ⟨w1.heap.size,4,none⟩ (.int .i64 tt)).heap[w1.heap.size]? = some (.cells #[.bool true,.string kk,.bool false,.string ⟨#[]⟩,.int .i64 tt,.int .i64 0] 84 (0,0))):=bG HBw6.out 4 _;have j0:=(aB HBw6.out 0).1;have j1:=(aB HBw6.out 1).1;have j2:=(aB HBw6.out 2).1;have j3:=(aB HBw6.out 3).1;have j4:=(aB HBw6.out 4).1;have j5:=(aB HBw6.out 5).1;have frj:=fun j=>(aB HBw6.out j).2;simp only[List.getElem?_toArray,List.getElem?_cons_zero,List.getElem?_cons_succ] at j0 j1 j2 j3 j4 j5;clear hw4 hk4 _t tok4;have tok8:=trivial)
       | (have _t:=tok8;refine wpList_load_row rfl 84 _ rfl w1.heap.size rfl 84 #[.bool true,.string kk,.bool false,.string ⟨#[]⟩,.int .i64 tt,.int .i64 0] (0,0) _ HXw6.out Tryz.underlying84 rfl Tryz.info84 ?_;clear _t tok8;have HOW:Hid (((w6.setCell ⟨w1.heap.size,4,none⟩ (.int .i64 tt)).alloc (.cells #[.bool true,.string kk,.bool false,.string ⟨#[]⟩,.int .i64 tt,.int .i64 0] 84)).ownsRow w.heap.size 84 6 (.slice va vn vc) AA.length (rcv AA)):=bY (bU HOWN.out HRw6.out hz) (aA _);have HLE:Hid (w.heap.size<=((w6.setCell ⟨w1.heap.size,4,none⟩ (.int .i64 tt)).alloc (.cells #[.bool true,.string kk,.bool false,.string ⟨#[]⟩,.int .i64 tt,.int .i64 0] 84)).heap.size):=(by show _<=_;have:=HRw6.out.size;have:=HKW.out.size;simp at *;omega);have HNEW:Hid (((w6.setCell ⟨w1.heap.size,4,none⟩ (.int .i64 tt)).alloc (.cells #[.bool true,.string kk,.bool false,.string ⟨#[]⟩,.int .i64 tt,.int .i64 0] 84)).heap[w6.heap.size]? = some (.cells (List.toArray [Value.bool true,Value.string kk,Value.bool false,Value.string ⟨#[]⟩,Value.int .i64 tt,Value.int .i64 0]) 84 (0,0))):=(by have q:=heap_alloc_new (w6.setCell ⟨w1.heap.size,4,none⟩ (.int .i64 tt)) (.cells #[.bool true,.string kk,.bool false,.string ⟨#[]⟩,.int .i64 tt,.int .i64 0] 84);rw[show(w6.setCell ⟨w1.heap.size,4,none⟩ (.int .i64 tt)).heap.size=w6.heap.size by simp] at q;exact q);have tok9:=trivial;simp only[Act.put,sP])
       | (at_builtin;have _t:=tok9;refine bH (by rfl) _ _ 26 84 rfl _ 6 _ Tryz.underlying26 fC rfl (by decide) (by decide) w.heap.size _ _ _ rfl (HOW.out) (HLE.out) _ [Value.bool true,Value.string kk,Value.bool false,Value.string ⟨#[]⟩,Value.int .i64 tt,Value.int .i64 0] rfl rfl (HNEW.out) ((by simp[Value.oneCell'])) (by rw[HAL.out];omega) ?_;intro v3 w9 ho3 hg3;have HO3:Hid (w9.ownsRow w.heap.size 84 6 v3 (AA.length+1) (rcv AA++[Value.bool true,Value.string kk,Value.bool false,Value.string ⟨#[]⟩,Value.int .i64 tt,Value.int .i64 0])):=ho3;have HG3:Hid _:=hg3;clear ho3 hg3 _t tok9))
      refine⟨⟨k+1,AA++[⟨true,kk,false,⟨#[]⟩,tt,0⟩],s5,by omega,by go_num,by rw[List.length_append,HAL.out];rfl,fun e=>HRB.out (by rw[HGR.out.2]),fun l5 e=>absurd (HGR.out.1.symm.trans e) (by simp),by rw[List.length_append,dY];exact HO3.out,?_,?_⟩,by simp[iof];omega⟩
      ·exact(EyR.below HEw6.out (aA _)).grown HG3.out HOW.out hz
      ·exact bX (bN _ (HKW.out.trans HRw6.out)) HOW.out HG3.out (Nat.le_refl _)
     ·have p1:bits .and .u64 (V:Int) 1=1:=by rw[hb1,hm1];rfl
      have p2:bits .and .u64 (V:Int) 2=2:=by rw[hb2,hm2];rfl
      clear hb1 hb2 hm1 hm2
      have HTK:Hid (∀x,EyR w0 a cap l x none->Calls Tryz.prog 41 #[(.pointer (some ⟨w0.heap.size,0,none⟩))] x (EP w0 a cap l x (.string (gT none).1) (gT none).2)):=fun x hx=>HT.out _ x hx
      have HTV:Hid (∀x,EyR w0 a cap l x (gT none).2->Calls Tryz.prog 41 #[(.pointer (some ⟨w0.heap.size,0,none⟩))] x (EP w0 a cap l x (.string (gT (gT none).2).1) (gT (gT none).2).2)):=fun x hx=>HT.out _ x hx
      have HT8:Hid (∀x,EyR w0 a cap l x (gT (gT none).2).2->Calls Tryz.prog 22 #[(.pointer (some ⟨w0.heap.size,0,none⟩)),.int .i64 8] x (EP w0 a cap l x (.int .u64 ((gN 8 (gT (gT none).2).2).1:Nat)) (gI (gT (gT none).2).2).2)):=fun x hx=>HN8.out _ x hx
      have H8W:Hid (∀x,EyR w0 a cap l x (gT (gT none).2).2->IntKind.i64.wrap ((gN 8 (gT (gT none).2).2).1:Int)=(gI (gT (gT none).2).2).1):=fun x hx=>HW8.out _ x hx
      have HGR:Hid ((gI (gT (gT none).2).2).2=none/\(gRec (some ls)).2=none):=⟨rfl,by have e:gUp 1 3 (some ls)=(0,none):=(by unfold gUp;rw[HG1.out];exact if_pos hbig);unfold gRec;rw[e];first | rfl | (simp[gIf];rfl) | simp[gIf,gI,gN]⟩
      generalize (gT none).1=kk at *
      generalize (gT none).2=s2 at *
      generalize (gT s2).1=vv at *
      generalize (gT s2).2=s3 at *
      generalize (gN 8 s3).1=V8 at *
      generalize (gI s3).1=tt at *
      generalize (gI s3).2=s5 at *
      clear HT HN8 HW8 HG1
      have tok1:=trivial
      go_wp2_with (first
       | (have _t:=tok1;go_at_call 22;refine Calls.mono HC1.out ?_;rintro e w1 ⟨rfl,hw1,hk1⟩;obtain⟨I1,_,_,_,c0,c1,c2,f1,f2⟩:=hw1.open;have HE1:Hid (EyR w0 a cap l (w1.setCell ⟨w0.heap.size,2,none⟩ (.bool true)) none):=hw1.bad.1;have HR1:Hid (KeepB w0.heap.size wr (w1.setCell ⟨w0.heap.size,2,none⟩ (.bool true))):=hk1.trans hw1.bad.2;have HZX:Hid (w0.heap.size < w1.heap.size/\wr.heap.size<=w1.heap.size):=⟨hw1.lt,hk1.size⟩;have HNE:Hid (w1.heap.size≠w0.heap.size):=Nat.ne_of_gt hw1.lt;clear hw1 hk1 _t tok1;have tok2:=trivial)
       | (have _t:=tok2;refine wpList_store_row rfl 84 _ _ rfl w1.heap.size #[.bool true,.string ⟨#[]⟩,.bool true,.string ⟨#[]⟩,.int .i64 0,.int .i64 0] rfl rfl 84 #[.bool false,.string ⟨#[]⟩,.bool false,.string ⟨#[]⟩,.int .i64 0,.int .i64 0] (by have q:=heap_alloc_new (w1.setCell ⟨w0.heap.size,2,none⟩ (.bool true)) (.cells #[.bool false,.string ⟨#[]⟩,.bool false,.string ⟨#[]⟩,.int .i64 0,.int .i64 0] 84);rw[show(w1.setCell ⟨w0.heap.size,2,none⟩ (.bool true)).heap.size=w1.heap.size by simp] at q;exact q) Tryz.info84 rfl (by simp[Value.oneCell']) ?_;have hq9:=bI (w1.setCell ⟨w0.heap.size,2,none⟩ (.bool true)) #[.bool false,.string ⟨#[]⟩,.bool false,.string ⟨#[]⟩,.int .i64 0,.int .i64 0] #[.bool true,.string ⟨#[]⟩,.bool true,.string ⟨#[]⟩,.int .i64 0,.int .i64 0] 84;rw[show(w1.setCell ⟨w0.heap.size,2,none⟩ (.bool true)).heap.size=w1.heap.size by simp] at hq9;obtain⟨hx9,hb9⟩:=hq9;generalize World.setRow _ w1.heap.size #[.bool true,.string ⟨#[]⟩,.bool true,.string ⟨#[]⟩,.int .i64 0,.int .i64 0]=w3 at *;have HX3:Hid (w3.heap[w1.heap.size]? = some (.cells #[.bool true,.string ⟨#[]⟩,.bool true,.string ⟨#[]⟩,.int .i64 0,.int .i64 0] 84 (0,0))):=hx9;have HE3:Hid (EyR w0 a cap l w3 none):=HE1.out.below (by rw[show(w1.setCell ⟨w0.heap.size,2,none⟩ (.bool true)).heap.size=w1.heap.size by simp];exact hb9);have HR3:Hid (KeepB w0.heap.size wr w3):=HR1.out.trans (KeepB.of_below (by rw[show(w1.setCell ⟨w0.heap.size,2,none⟩ (.bool true)).heap.size=w1.heap.size by simp];exact hb9));have g0:=(aB HX3.out 0).1;have g1:=(aB HX3.out 1).1;have g2:=(aB HX3.out 2).1;have g3:=(aB HX3.out 3).1;have g4:=(aB HX3.out 4).1;have g5:=(aB HX3.out 5).1;have frg:=fun j=>(aB HX3.out j).2;simp only[List.getElem?_toArray,List.getElem?_cons_zero,List.getElem?_cons_succ] at g0 g1 g2 g3 g4 g5;clear hx9 hb9 _t tok2;have tok3:=trivial)
       | (have _t:=tok3;go_at_call 41;refine(HTK.out _ HE3.out).mono ?_;rintro e w4 ⟨rfl,hw4,hk4⟩;have HBw4:Hid (w4.heap[w1.heap.size]? = some (.cells #[.bool true,.string ⟨#[]⟩,.bool true,.string ⟨#[]⟩,.int .i64 0,.int .i64 0] 84 (0,0))):=hk4.box HX3.out HNE.out;have HEw4:Hid (EyR w0 a cap l (w4.setCell ⟨w1.heap.size,1,none⟩ (.string kk)) s2):=hw4.off HZX.out.1;have HRw4:Hid (KeepB w0.heap.size wr (w4.setCell ⟨w1.heap.size,1,none⟩ (.string kk))):=bJ (HR3.out.trans hk4) HZX.out.2;have HXw4:Hid ((w4.setCell ⟨w1.heap.size,1,none⟩ (.string kk)).heap[w1.heap.size]? = some (.cells #[.bool true,.string kk,.bool true,.string ⟨#[]⟩,.int .i64 0,.int .i64 0] 84 (0,0))):=bG HBw4.out 1 _;have h0:=(aB HBw4.out 0).1;have h1:=(aB HBw4.out 1).1;have h2:=(aB HBw4.out 2).1;have h3:=(aB HBw4.out 3).1;have h4:=(aB HBw4.out 4).1;have h5:=(aB HBw4.out 5).1;have frh:=fun j=>(aB HBw4.out j).2;simp only[List.getElem?_toArray,List.getElem?_cons_zero,List.getElem?_cons_succ] at h0 h1 h2 h3 h4 h5;clear hw4 hk4 _t tok3;have tok4:=trivial)
       | (have _t:=tok4;go_at_call 41;refine(HTV.out _ HEw4.out).mono ?_;rintro e w5 ⟨rfl,hw4,hk4⟩;have HBw5:Hid (w5.heap[w1.heap.size]? = some (.cells #[.bool true,.string kk,.bool true,.string ⟨#[]⟩,.int .i64 0,.int .i64 0] 84 (0,0))):=hk4.box HXw4.out HNE.out;have HEw5:Hid (EyR w0 a cap l (w5.setCell ⟨w1.heap.size,3,none⟩ (.string vv)) s3):=hw4.off HZX.out.1;have HRw5:Hid (KeepB w0.heap.size wr (w5.setCell ⟨w1.heap.size,3,none⟩ (.string vv))):=bJ (HRw4.out.trans hk4) HZX.out.2;have HXw5:Hid ((w5.setCell ⟨w1.heap.size,3,none⟩ (.string vv)).heap[w1.heap.size]? = some (.cells #[.bool true,.string kk,.bool true,.string vv,.int .i64 0,.int .i64 0] 84 (0,0))):=bG HBw5.out 3 _;have i0:=(aB HBw5.out 0).1;have i1:=(aB HBw5.out 1).1;have i2:=(aB HBw5.out 2).1;have i3:=(aB HBw5.out 3).1;have i4:=(aB HBw5.out 4).1;have i5:=(aB HBw5.out 5).1;have fri:=fun j=>(aB HBw5.out j).2;simp only[List.getElem?_toArray,List.getElem?_cons_zero,List.getElem?_cons_succ] at i0 i1 i2 i3 i4 i5;clear hw4 hk4 _t tok4;have tok5:=trivial)
       | (have _t:=tok5;go_at_call 22;have e8:=H8W.out _ HEw5.out;refine(HT8.out _ HEw5.out).mono ?_;rintro e w6 ⟨rfl,hw4,hk4⟩;have HBw6:Hid (w6.heap[w1.heap.size]? = some (.cells #[.bool true,.string kk,.bool true,.string vv,.int .i64 0,.int .i64 0] 84 (0,0))):=hk4.box HXw5.out HNE.out;have HEw6:Hid (EyR w0 a cap l (w6.setCell ⟨w1.heap.size,4,none⟩ (.int .i64 tt)) s5):=hw4.off HZX.out.1;have HRw6:Hid (KeepB w0.heap.size wr (w6.setCell ⟨w1.heap.size,4,none⟩ (.int .i64 tt))):=bJ (HRw5.out.trans hk4) HZX.out.2;have HXw6:Hid ((w6.setCell ⟨w1.heap.size,4,none⟩ (.int .i64 tt)).heap[w1.heap.size]? = some (.cells #[.bool true,.string kk,.bool true,.string vv,.int .i64 tt,.int .i64 0] 84 (0,0))):=bG HBw6.out 4 _;have j0:=(aB HBw6.out 0).1;have j1:=(aB HBw6.out 1).1;have j2:=(aB HBw6.out 2).1;have j3:=(aB HBw6.out 3).1;have j4:=(aB HBw6.out 4).1;have j5:=(aB HBw6.out 5).1;have frj:=fun j=>(aB HBw6.out j).2;simp only[List.getElem?_toArray,List.getElem?_cons_zero,List.getElem?_cons_succ] at j0 j1 j2 j3 j4 j5;clear hw4 hk4 _t tok5;have tok8:=trivial)
       | (have _t:=tok8;refine wpList_load_row rfl 84 _ rfl w1.heap.size rfl 84 #[.bool true,.string kk,.bool true,.string vv,.int .i64 tt,.int .i64 0] (0,0) _ HXw6.out Tryz.underlying84 rfl Tryz.info84 ?_;clear _t tok8;have HOW:Hid (((w6.setCell ⟨w1.heap.size,4,none⟩ (.int .i64 tt)).alloc (.cells #[.bool true,.string kk,.bool true,.string vv,.int .i64 tt,.int .i64 0] 84)).ownsRow w.heap.size 84 6 (.slice va vn vc) AA.length (rcv AA)):=bY (bU HOWN.out HRw6.out hz) (aA _);have HLE:Hid (w.heap.size<=((w6.setCell ⟨w1.heap.size,4,none⟩ (.int .i64 tt)).alloc (.cells #[.bool true,.string kk,.bool true,.string vv,.int .i64 tt,.int .i64 0] 84)).heap.size):=(by show _<=_;have:=HRw6.out.size;have:=HKW.out.size;simp at *;omega);have HNEW:Hid (((w6.setCell ⟨w1.heap.size,4,none⟩ (.int .i64 tt)).alloc (.cells #[.bool true,.string kk,.bool true,.string vv,.int .i64 tt,.int .i64 0] 84)).heap[w6.heap.size]? = some (.cells (List.toArray [Value.bool true,Value.string kk,Value.bool true,Value.string vv,Value.int .i64 tt,Value.int .i64 0]) 84 (0,0))):=(by have q:=heap_alloc_new (w6.setCell ⟨w1.heap.size,4,none⟩ (.int .i64 tt)) (.cells #[.bool true,.string kk,.bool true,.string vv,.int .i64 tt,.int .i64 0] 84);rw[show(w6.setCell ⟨w1.heap.size,4,none⟩ (.int .i64 tt)).heap.size=w6.heap.size by simp] at q;exact q);have tok9:=trivial;simp only[Act.put,sP])
       | (at_builtin;have _t:=tok9;refine bH (by rfl) _ _ 26 84 rfl _ 6 _ Tryz.underlying26 fC rfl (by decide) (by decide) w.heap.size _ _ _ rfl (HOW.out) (HLE.out) _ [Value.bool true,Value.string kk,Value.bool true,Value.string vv,Value.int .i64 tt,Value.int .i64 0] rfl rfl (HNEW.out) ((by simp[Value.oneCell'])) (by rw[HAL.out];omega) ?_;intro v3 w9 ho3 hg3;have HO3:Hid (w9.ownsRow w.heap.size 84 6 v3 (AA.length+1) (rcv AA++[Value.bool true,Value.string kk,Value.bool true,Value.string vv,Value.int .i64 tt,Value.int .i64 0])):=ho3;have HG3:Hid _:=hg3;clear ho3 hg3 _t tok9))
      refine⟨⟨k+1,AA++[⟨true,kk,true,vv,tt,0⟩],s5,by omega,by go_num,by rw[List.length_append,HAL.out];rfl,fun e=>HRB.out (by rw[HGR.out.2]),fun l5 e=>absurd (HGR.out.1.symm.trans e) (by simp),by rw[List.length_append,dY];exact HO3.out,?_,?_⟩,by simp[iof];omega⟩
      ·exact(EyR.below HEw6.out (aA _)).grown HG3.out HOW.out hz
      ·exact bX (bN _ (HKW.out.trans HRw6.out)) HOW.out HG3.out (Nat.le_refl _)
    ·have hbI:¬(V:Int) > 3:=by omega
     rcases(show V=0∨V=1∨V=2∨V=3 by omega) with rfl | rfl | rfl | rfl
     ·have p1:bits .and .u64 0 1=0:=by decide
      have p2:bits .and .u64 0 2=0:=by decide
      clear hb1 hb2
      have HT8:Hid (∀x,EyR w0 a cap l x s1->Calls Tryz.prog 22 #[(.pointer (some ⟨w0.heap.size,0,none⟩)),.int .i64 8] x (EP w0 a cap l x (.int .u64 ((gN 8 s1).1:Nat)) (gI s1).2)):=fun x hx=>HN8.out _ x hx
      have H8W:Hid (∀x,EyR w0 a cap l x s1->IntKind.i64.wrap ((gN 8 s1).1:Int)=(gI s1).1):=fun x hx=>HW8.out _ x hx
      have HGR:Hid (gRec (some ls)=(⟨false,⟨#[]⟩,false,⟨#[]⟩,(gI s1).1,0⟩,(gI s1).2)):=by show _=_;simp[gRec,gUp,HG1.out,gIf]
      generalize (gN 8 s1).1=V8 at *
      generalize (gI s1).1=tt at *
      generalize (gI s1).2=s5 at *
      clear HT HN8 HW8 HG1
      have tok1:=trivial
      go_wp2_with (first
       | (have _t:=tok1;go_at_call 22;refine Calls.mono HC1.out ?_;rintro e w1 ⟨rfl,hw1,hk1⟩;have HE1:Hid (EyR w0 a cap l w1 s1):=hw1;have HR1:Hid (KeepB w0.heap.size wr w1):=hk1;have HZX:Hid (w0.heap.size < w1.heap.size/\wr.heap.size<=w1.heap.size):=⟨hw1.lt,hk1.size⟩;have HNE:Hid (w1.heap.size≠w0.heap.size):=Nat.ne_of_gt hw1.lt;clear hw1 hk1 _t tok1;have tok2:=trivial)
       | (have _t:=tok2;refine wpList_store_row rfl 84 _ _ rfl w1.heap.size #[.bool false,.string ⟨#[]⟩,.bool false,.string ⟨#[]⟩,.int .i64 0,.int .i64 0] rfl rfl 84 #[.bool false,.string ⟨#[]⟩,.bool false,.string ⟨#[]⟩,.int .i64 0,.int .i64 0] (by have q:=heap_alloc_new w1 (.cells #[.bool false,.string ⟨#[]⟩,.bool false,.string ⟨#[]⟩,.int .i64 0,.int .i64 0] 84);rw[show w1.heap.size=w1.heap.size by simp] at q;exact q) Tryz.info84 rfl (by simp[Value.oneCell']) ?_;have hq9:=bI w1 #[.bool false,.string ⟨#[]⟩,.bool false,.string ⟨#[]⟩,.int .i64 0,.int .i64 0] #[.bool false,.string ⟨#[]⟩,.bool false,.string ⟨#[]⟩,.int .i64 0,.int .i64 0] 84;rw[show w1.heap.size=w1.heap.size by simp] at hq9;obtain⟨hx9,hb9⟩:=hq9;generalize World.setRow _ w1.heap.size #[.bool false,.string ⟨#[]⟩,.bool false,.string ⟨#[]⟩,.int .i64 0,.int .i64 0]=w3 at *;have HX3:Hid (w3.heap[w1.heap.size]? = some (.cells #[.bool false,.string ⟨#[]⟩,.bool false,.string ⟨#[]⟩,.int .i64 0,.int .i64 0] 84 (0,0))):=hx9;have HE3:Hid (EyR w0 a cap l w3 s1):=HE1.out.below (by rw[show w1.heap.size=w1.heap.size by simp];exact hb9);have HR3:Hid (KeepB w0.heap.size wr w3):=HR1.out.trans (KeepB.of_below (by rw[show w1.heap.size=w1.heap.size by simp];exact hb9));have g0:=(aB HX3.out 0).1;have g1:=(aB HX3.out 1).1;have g2:=(aB HX3.out 2).1;have g3:=(aB HX3.out 3).1;have g4:=(aB HX3.out 4).1;have g5:=(aB HX3.out 5).1;have frg:=fun j=>(aB HX3.out j).2;simp only[List.getElem?_toArray,List.getElem?_cons_zero,List.getElem?_cons_succ] at g0 g1 g2 g3 g4 g5;clear hx9 hb9 _t tok2;have tok3:=trivial)
       | (have _t:=tok3;go_at_call 22;have e8:=H8W.out _ HE3.out;refine(HT8.out _ HE3.out).mono ?_;rintro e w6 ⟨rfl,hw4,hk4⟩;have HBw6:Hid (w6.heap[w1.heap.size]? = some (.cells #[.bool false,.string ⟨#[]⟩,.bool false,.string ⟨#[]⟩,.int .i64 0,.int .i64 0] 84 (0,0))):=hk4.box HX3.out HNE.out;have HEw6:Hid (EyR w0 a cap l (w6.setCell ⟨w1.heap.size,4,none⟩ (.int .i64 tt)) s5):=hw4.off HZX.out.1;have HRw6:Hid (KeepB w0.heap.size wr (w6.setCell ⟨w1.heap.size,4,none⟩ (.int .i64 tt))):=bJ (HR3.out.trans hk4) HZX.out.2;have HXw6:Hid ((w6.setCell ⟨w1.heap.size,4,none⟩ (.int .i64 tt)).heap[w1.heap.size]? = some (.cells #[.bool false,.string ⟨#[]⟩,.bool false,.string ⟨#[]⟩,.int .i64 tt,.int .i64 0] 84 (0,0))):=bG HBw6.out 4 _;have j0:=(aB HBw6.out 0).1;have j1:=(aB HBw6.out 1).1;have j2:=(aB HBw6.out 2).1;have j3:=(aB HBw6.out 3).1;have j4:=(aB HBw6.out 4).1;have j5:=(aB HBw6.out 5).1;have frj:=fun j=>(aB HBw6.out j).2;simp only[List.getElem?_toArray,List.getElem?_cons_zero,List.getElem?_cons_succ] at j0 j1 j2 j3 j4 j5;clear hw4 hk4 _t tok3;have tok8:=trivial)
       | (have _t:=tok8;refine wpList_load_row rfl 84 _ rfl w1.heap.size rfl 84 #[.bool false,.string ⟨#[]⟩,.bool false,.string ⟨#[]⟩,.int .i64 tt,.int .i64 0] (0,0) _ HXw6.out Tryz.underlying84 rfl Tryz.info84 ?_;clear _t tok8;have HOW:Hid (((w6.setCell ⟨w1.heap.size,4,none⟩ (.int .i64 tt)).alloc (.cells #[.bool false,.string ⟨#[]⟩,.bool false,.string ⟨#[]⟩,.int .i64 tt,.int .i64 0] 84)).ownsRow w.heap.size 84 6 (.slice va vn vc) AA.length (rcv AA)):=bY (bU HOWN.out HRw6.out hz) (aA _);have HLE:Hid (w.heap.size<=((w6.setCell ⟨w1.heap.size,4,none⟩ (.int .i64 tt)).alloc (.cells #[.bool false,.string ⟨#[]⟩,.bool false,.string ⟨#[]⟩,.int .i64 tt,.int .i64 0] 84)).heap.size):=(by show _<=_;have:=HRw6.out.size;have:=HKW.out.size;simp at *;omega);have HNEW:Hid (((w6.setCell ⟨w1.heap.size,4,none⟩ (.int .i64 tt)).alloc (.cells #[.bool false,.string ⟨#[]⟩,.bool false,.string ⟨#[]⟩,.int .i64 tt,.int .i64 0] 84)).heap[w6.heap.size]? = some (.cells (List.toArray [Value.bool false,Value.string ⟨#[]⟩,Value.bool false,Value.string ⟨#[]⟩,Value.int .i64 tt,Value.int .i64 0]) 84 (0,0))):=(by have q:=heap_alloc_new (w6.setCell ⟨w1.heap.size,4,none⟩ (.int .i64 tt)) (.cells #[.bool false,.string ⟨#[]⟩,.bool false,.string ⟨#[]⟩,.int .i64 tt,.int .i64 0] 84);rw[show(w6.setCell ⟨w1.heap.size,4,none⟩ (.int .i64 tt)).heap.size=w6.heap.size by simp] at q;exact q);have tok9:=trivial;simp only[Act.put,sP])
       | (at_builtin;have _t:=tok9;refine bH (by rfl) _ _ 26 84 rfl _ 6 _ Tryz.underlying26 fC rfl (by decide) (by decide) w.heap.size _ _ _ rfl (HOW.out) (HLE.out) _ [Value.bool false,Value.string ⟨#[]⟩,Value.bool false,Value.string ⟨#[]⟩,Value.int .i64 tt,Value.int .i64 0] rfl rfl (HNEW.out) ((by simp[Value.oneCell'])) (by rw[HAL.out];omega) ?_;intro v3 w9 ho3 hg3;have HO3:Hid (w9.ownsRow w.heap.size 84 6 v3 (AA.length+1) (rcv AA++[Value.bool false,Value.string ⟨#[]⟩,Value.bool false,Value.string ⟨#[]⟩,Value.int .i64 tt,Value.int .i64 0])):=ho3;have HG3:Hid _:=hg3;clear ho3 hg3 _t tok9))
      refine⟨⟨k+1,AA++[⟨false,⟨#[]⟩,false,⟨#[]⟩,tt,0⟩],s5,by omega,by go_num,by rw[List.length_append,HAL.out];rfl,fun e=>HRB.out (by rw[HGR.out];exact e),fun l5 e=>by have q:=HRS.out l5 (by rw[HGR.out];exact e);rw[HGR.out] at q;exact q,by rw[List.length_append,dY];exact HO3.out,?_,?_⟩,by simp[iof];omega⟩
      ·exact(EyR.below HEw6.out (aA _)).grown HG3.out HOW.out hz
      ·exact bX (bN _ (HKW.out.trans HRw6.out)) HOW.out HG3.out (Nat.le_refl _)
     ·have p1:bits .and .u64 1 1=1:=by decide
      have p2:bits .and .u64 1 2=0:=by decide
      clear hb1 hb2
      have HTK:Hid (∀x,EyR w0 a cap l x s1->Calls Tryz.prog 41 #[(.pointer (some ⟨w0.heap.size,0,none⟩))] x (EP w0 a cap l x (.string (gT s1).1) (gT s1).2)):=fun x hx=>HT.out _ x hx
      have HT8:Hid (∀x,EyR w0 a cap l x (gT s1).2->Calls Tryz.prog 22 #[(.pointer (some ⟨w0.heap.size,0,none⟩)),.int .i64 8] x (EP w0 a cap l x (.int .u64 ((gN 8 (gT s1).2).1:Nat)) (gI (gT s1).2).2)):=fun x hx=>HN8.out _ x hx
      have H8W:Hid (∀x,EyR w0 a cap l x (gT s1).2->IntKind.i64.wrap ((gN 8 (gT s1).2).1:Int)=(gI (gT s1).2).1):=fun x hx=>HW8.out _ x hx
      have HGR:Hid (gRec (some ls)=(⟨true,(gT s1).1,false,⟨#[]⟩,(gI (gT s1).2).1,0⟩,(gI (gT s1).2).2)):=by show _=_;simp[gRec,gUp,HG1.out,gIf]
      generalize (gT s1).1=kk at *
      generalize (gT s1).2=s2 at *
      generalize (gN 8 s2).1=V8 at *
      generalize (gI s2).1=tt at *
      generalize (gI s2).2=s5 at *
      clear HT HN8 HW8 HG1
      have tok1:=trivial
      go_wp2_with (first
       | (have _t:=tok1;go_at_call 22;refine Calls.mono HC1.out ?_;rintro e w1 ⟨rfl,hw1,hk1⟩;have HE1:Hid (EyR w0 a cap l w1 s1):=hw1;have HR1:Hid (KeepB w0.heap.size wr w1):=hk1;have HZX:Hid (w0.heap.size < w1.heap.size/\wr.heap.size<=w1.heap.size):=⟨hw1.lt,hk1.size⟩;have HNE:Hid (w1.heap.size≠w0.heap.size):=Nat.ne_of_gt hw1.lt;clear hw1 hk1 _t tok1;have tok2:=trivial)
       | (have _t:=tok2;refine wpList_store_row rfl 84 _ _ rfl w1.heap.size #[.bool true,.string ⟨#[]⟩,.bool false,.string ⟨#[]⟩,.int .i64 0,.int .i64 0] rfl rfl 84 #[.bool false,.string ⟨#[]⟩,.bool false,.string ⟨#[]⟩,.int .i64 0,.int .i64 0] (by have q:=heap_alloc_new w1 (.cells #[.bool false,.string ⟨#[]⟩,.bool false,.string ⟨#[]⟩,.int .i64 0,.int .i64 0] 84);rw[show w1.heap.size=w1.heap.size by simp] at q;exact q) Tryz.info84 rfl (by simp[Value.oneCell']) ?_;have hq9:=bI w1 #[.bool false,.string ⟨#[]⟩,.bool false,.string ⟨#[]⟩,.int .i64 0,.int .i64 0] #[.bool true,.string ⟨#[]⟩,.bool false,.string ⟨#[]⟩,.int .i64 0,.int .i64 0] 84;rw[show w1.heap.size=w1.heap.size by simp] at hq9;obtain⟨hx9,hb9⟩:=hq9;generalize World.setRow _ w1.heap.size #[.bool true,.string ⟨#[]⟩,.bool false,.string ⟨#[]⟩,.int .i64 0,.int .i64 0]=w3 at *;have HX3:Hid (w3.heap[w1.heap.size]? = some (.cells #[.bool true,.string ⟨#[]⟩,.bool false,.string ⟨#[]⟩,.int .i64 0,.int .i64 0] 84 (0,0))):=hx9;have HE3:Hid (EyR w0 a cap l w3 s1):=HE1.out.below (by rw[show w1.heap.size=w1.heap.size by simp];exact hb9);have HR3:Hid (KeepB w0.heap.size wr w3):=HR1.out.trans (KeepB.of_below (by rw[show w1.heap.size=w1.heap.size by simp];exact hb9));have g0:=(aB HX3.out 0).1;have g1:=(aB HX3.out 1).1;have g2:=(aB HX3.out 2).1;have g3:=(aB HX3.out 3).1;have g4:=(aB HX3.out 4).1;have g5:=(aB HX3.out 5).1;have frg:=fun j=>(aB HX3.out j).2;simp only[List.getElem?_toArray,List.getElem?_cons_zero,List.getElem?_cons_succ] at g0 g1 g2 g3 g4 g5;clear hx9 hb9 _t tok2;have tok3:=trivial)
       | (have _t:=tok3;go_at_call 41;refine(HTK.out _ HE3.out).mono ?_;rintro e w4 ⟨rfl,hw4,hk4⟩;have HBw4:Hid (w4.heap[w1.heap.size]? = some (.cells #[.bool true,.string ⟨#[]⟩,.bool false,.string ⟨#[]⟩,.int .i64 0,.int .i64 0] 84 (0,0))):=hk4.box HX3.out HNE.out;have HEw4:Hid (EyR w0 a cap l (w4.setCell ⟨w1.heap.size,1,none⟩ (.string kk)) s2):=hw4.off HZX.out.1;have HRw4:Hid (KeepB w0.heap.size wr (w4.setCell ⟨w1.heap.size,1,none⟩ (.string kk))):=bJ (HR3.out.trans hk4) HZX.out.2;have HXw4:Hid ((w4.setCell ⟨w1.heap.size,1,none⟩ (.string kk)).heap[w1.heap.size]? = some (.cells #[.bool true,.string kk,.bool false,.string ⟨#[]⟩,.int .i64 0,.int .i64 0] 84 (0,0))):=bG HBw4.out 1 _;have h0:=(aB HBw4.out 0).1;have h1:=(aB HBw4.out 1).1;have h2:=(aB HBw4.out 2).1;have h3:=(aB HBw4.out 3).1;have h4:=(aB HBw4.out 4).1;have h5:=(aB HBw4.out 5).1;have frh:=fun j=>(aB HBw4.out j).2;simp only[List.getElem?_toArray,List.getElem?_cons_zero,List.getElem?_cons_succ] at h0 h1 h2 h3 h4 h5;clear hw4 hk4 _t tok3;have tok4:=trivial)
       | (have _t:=tok4;go_at_call 22;have e8:=H8W.out _ HEw4.out;refine(HT8.out _ HEw4.out).mono ?_;rintro e w6 ⟨rfl,hw4,hk4⟩;have HBw6:Hid (w6.heap[w1.heap.size]? = some (.cells #[.bool true,.string kk,.bool false,.string ⟨#[]⟩,.int .i64 0,.int .i64 0] 84 (0,0))):=hk4.box HXw4.out HNE.out;have HEw6:Hid (EyR w0 a cap l (w6.setCell ⟨w1.heap.size,4,none⟩ (.int .i64 tt)) s5):=hw4.off HZX.out.1;have HRw6:Hid (KeepB w0.heap.size wr (w6.setCell ⟨w1.heap.size,4,none⟩ (.int .i64 tt))):=bJ (HRw4.out.trans hk4) HZX.out.2;have HXw6:Hid ((w6.setCell ⟨w1.heap.size,4,none⟩ (.int .i64 tt)).heap[w1.heap.size]? = some (.cells #[.bool true,.string kk,.bool false,.string ⟨#[]⟩,.int .i64 tt,.int .i64 0] 84 (0,0))):=bG HBw6.out 4 _;have j0:=(aB HBw6.out 0).1;have j1:=(aB HBw6.out 1).1;have j2:=(aB HBw6.out 2).1;have j3:=(aB HBw6.out 3).1;have j4:=(aB HBw6.out 4).1;have j5:=(aB HBw6.out 5).1;have frj:=fun j=>(aB HBw6.out j).2;simp only[List.getElem?_toArray,List.getElem?_cons_zero,List.getElem?_cons_succ] at j0 j1 j2 j3 j4 j5;clear hw4 hk4 _t tok4;have tok8:=trivial)
       | (have _t:=tok8;refine wpList_load_row rfl 84 _ rfl w1.heap.size rfl 84 #[.bool true,.string kk,.bool false,.string ⟨#[]⟩,.int .i64 tt,.int .i64 0] (0,0) _ HXw6.out Tryz.underlying84 rfl Tryz.info84 ?_;clear _t tok8;have HOW:Hid (((w6.setCell ⟨w1.heap.size,4,none⟩ (.int .i64 tt)).alloc (.cells #[.bool true,.string kk,.bool false,.string ⟨#[]⟩,.int .i64 tt,.int .i64 0] 84)).ownsRow w.heap.size 84 6 (.slice va vn vc) AA.length (rcv AA)):=bY (bU HOWN.out HRw6.out hz) (aA _);have HLE:Hid (w.heap.size<=((w6.setCell ⟨w1.heap.size,4,none⟩ (.int .i64 tt)).alloc (.cells #[.bool true,.string kk,.bool false,.string ⟨#[]⟩,.int .i64 tt,.int .i64 0] 84)).heap.size):=(by show _<=_;have:=HRw6.out.size;have:=HKW.out.size;simp at *;omega);have HNEW:Hid (((w6.setCell ⟨w1.heap.size,4,none⟩ (.int .i64 tt)).alloc (.cells #[.bool true,.string kk,.bool false,.string ⟨#[]⟩,.int .i64 tt,.int .i64 0] 84)).heap[w6.heap.size]? = some (.cells (List.toArray [Value.bool true,Value.string kk,Value.bool false,Value.string ⟨#[]⟩,Value.int .i64 tt,Value.int .i64 0]) 84 (0,0))):=(by have q:=heap_alloc_new (w6.setCell ⟨w1.heap.size,4,none⟩ (.int .i64 tt)) (.cells #[.bool true,.string kk,.bool false,.string ⟨#[]⟩,.int .i64 tt,.int .i64 0] 84);rw[show(w6.setCell ⟨w1.heap.size,4,none⟩ (.int .i64 tt)).heap.size=w6.heap.size by simp] at q;exact q);have tok9:=trivial;simp only[Act.put,sP])
       | (at_builtin;have _t:=tok9;refine bH (by rfl) _ _ 26 84 rfl _ 6 _ Tryz.underlying26 fC rfl (by decide) (by decide) w.heap.size _ _ _ rfl (HOW.out) (HLE.out) _ [Value.bool true,Value.string kk,Value.bool false,Value.string ⟨#[]⟩,Value.int .i64 tt,Value.int .i64 0] rfl rfl (HNEW.out) ((by simp[Value.oneCell'])) (by rw[HAL.out];omega) ?_;intro v3 w9 ho3 hg3;have HO3:Hid (w9.ownsRow w.heap.size 84 6 v3 (AA.length+1) (rcv AA++[Value.bool true,Value.string kk,Value.bool false,Value.string ⟨#[]⟩,Value.int .i64 tt,Value.int .i64 0])):=ho3;have HG3:Hid _:=hg3;clear ho3 hg3 _t tok9))
      refine⟨⟨k+1,AA++[⟨true,kk,false,⟨#[]⟩,tt,0⟩],s5,by omega,by go_num,by rw[List.length_append,HAL.out];rfl,fun e=>HRB.out (by rw[HGR.out];exact e),fun l5 e=>by have q:=HRS.out l5 (by rw[HGR.out];exact e);rw[HGR.out] at q;exact q,by rw[List.length_append,dY];exact HO3.out,?_,?_⟩,by simp[iof];omega⟩
      ·exact(EyR.below HEw6.out (aA _)).grown HG3.out HOW.out hz
      ·exact bX (bN _ (HKW.out.trans HRw6.out)) HOW.out HG3.out (Nat.le_refl _)
     ·have p1:bits .and .u64 2 1=0:=by decide
      have p2:bits .and .u64 2 2=2:=by decide
      clear hb1 hb2
      have HTV:Hid (∀x,EyR w0 a cap l x s1->Calls Tryz.prog 41 #[(.pointer (some ⟨w0.heap.size,0,none⟩))] x (EP w0 a cap l x (.string (gT s1).1) (gT s1).2)):=fun x hx=>HT.out _ x hx
      have HT8:Hid (∀x,EyR w0 a cap l x (gT s1).2->Calls Tryz.prog 22 #[(.pointer (some ⟨w0.heap.size,0,none⟩)),.int .i64 8] x (EP w0 a cap l x (.int .u64 ((gN 8 (gT s1).2).1:Nat)) (gI (gT s1).2).2)):=fun x hx=>HN8.out _ x hx
      have H8W:Hid (∀x,EyR w0 a cap l x (gT s1).2->IntKind.i64.wrap ((gN 8 (gT s1).2).1:Int)=(gI (gT s1).2).1):=fun x hx=>HW8.out _ x hx
      have HGR:Hid (gRec (some ls)=(⟨false,⟨#[]⟩,true,(gT s1).1,(gI (gT s1).2).1,0⟩,(gI (gT s1).2).2)):=by show _=_;simp[gRec,gUp,HG1.out,gIf]
      generalize (gT s1).1=vv at *
      generalize (gT s1).2=s3 at *
      generalize (gN 8 s3).1=V8 at *
      generalize (gI s3).1=tt at *
      generalize (gI s3).2=s5 at *
      clear HT HN8 HW8 HG1
      have tok1:=trivial
      go_wp2_with (first
       | (have _t:=tok1;go_at_call 22;refine Calls.mono HC1.out ?_;rintro e w1 ⟨rfl,hw1,hk1⟩;have HE1:Hid (EyR w0 a cap l w1 s1):=hw1;have HR1:Hid (KeepB w0.heap.size wr w1):=hk1;have HZX:Hid (w0.heap.size < w1.heap.size/\wr.heap.size<=w1.heap.size):=⟨hw1.lt,hk1.size⟩;have HNE:Hid (w1.heap.size≠w0.heap.size):=Nat.ne_of_gt hw1.lt;clear hw1 hk1 _t tok1;have tok2:=trivial)
       | (have _t:=tok2;refine wpList_store_row rfl 84 _ _ rfl w1.heap.size #[.bool false,.string ⟨#[]⟩,.bool true,.string ⟨#[]⟩,.int .i64 0,.int .i64 0] rfl rfl 84 #[.bool false,.string ⟨#[]⟩,.bool false,.string ⟨#[]⟩,.int .i64 0,.int .i64 0] (by have q:=heap_alloc_new w1 (.cells #[.bool false,.string ⟨#[]⟩,.bool false,.string ⟨#[]⟩,.int .i64 0,.int .i64 0] 84);rw[show w1.heap.size=w1.heap.size by simp] at q;exact q) Tryz.info84 rfl (by simp[Value.oneCell']) ?_;have hq9:=bI w1 #[.bool false,.string ⟨#[]⟩,.bool false,.string ⟨#[]⟩,.int .i64 0,.int .i64 0] #[.bool false,.string ⟨#[]⟩,.bool true,.string ⟨#[]⟩,.int .i64 0,.int .i64 0] 84;rw[show w1.heap.size=w1.heap.size by simp] at hq9;obtain⟨hx9,hb9⟩:=hq9;generalize World.setRow _ w1.heap.size #[.bool false,.string ⟨#[]⟩,.bool true,.string ⟨#[]⟩,.int .i64 0,.int .i64 0]=w3 at *;have HX3:Hid (w3.heap[w1.heap.size]? = some (.cells #[.bool false,.string ⟨#[]⟩,.bool true,.string ⟨#[]⟩,.int .i64 0,.int .i64 0] 84 (0,0))):=hx9;have HE3:Hid (EyR w0 a cap l w3 s1):=HE1.out.below (by rw[show w1.heap.size=w1.heap.size by simp];exact hb9);have HR3:Hid (KeepB w0.heap.size wr w3):=HR1.out.trans (KeepB.of_below (by rw[show w1.heap.size=w1.heap.size by simp];exact hb9));have g0:=(aB HX3.out 0).1;have g1:=(aB HX3.out 1).1;have g2:=(aB HX3.out 2).1;have g3:=(aB HX3.out 3).1;have g4:=(aB HX3.out 4).1;have g5:=(aB HX3.out 5).1;have frg:=fun j=>(aB HX3.out j).2;simp only[List.getElem?_toArray,List.getElem?_cons_zero,List.getElem?_cons_succ] at g0 g1 g2 g3 g4 g5;clear hx9 hb9 _t tok2;have tok3:=trivial)
       | (have _t:=tok3;go_at_call 41;refine(HTV.out _ HE3.out).mono ?_;rintro e w5 ⟨rfl,hw4,hk4⟩;have HBw5:Hid (w5.heap[w1.heap.size]? = some (.cells #[.bool false,.string ⟨#[]⟩,.bool true,.string ⟨#[]⟩,.int .i64 0,.int .i64 0] 84 (0,0))):=hk4.box HX3.out HNE.out;have HEw5:Hid (EyR w0 a cap l (w5.setCell ⟨w1.heap.size,3,none⟩ (.string vv)) s3):=hw4.off HZX.out.1;have HRw5:Hid (KeepB w0.heap.size wr (w5.setCell ⟨w1.heap.size,3,none⟩ (.string vv))):=bJ (HR3.out.trans hk4) HZX.out.2;have HXw5:Hid ((w5.setCell ⟨w1.heap.size,3,none⟩ (.string vv)).heap[w1.heap.size]? = some (.cells #[.bool false,.string ⟨#[]⟩,.bool true,.string vv,.int .i64 0,.int .i64 0] 84 (0,0))):=bG HBw5.out 3 _;have i0:=(aB HBw5.out 0).1;have i1:=(aB HBw5.out 1).1;have i2:=(aB HBw5.out 2).1;have i3:=(aB HBw5.out 3).1;have i4:=(aB HBw5.out 4).1;have i5:=(aB HBw5.out 5).1;have fri:=fun j=>(aB HBw5.out j).2;simp only[List.getElem?_toArray,List.getElem?_cons_zero,List.getElem?_cons_succ] at i0 i1 i2 i3 i4 i5;clear hw4 hk4 _t tok3;have tok5:=trivial)
       | (have _t:=tok5;go_at_call 22;have e8:=H8W.out _ HEw5.out;refine(HT8.out _ HEw5.out).mono ?_;rintro e w6 ⟨rfl,hw4,hk4⟩;have HBw6:Hid (w6.heap[w1.heap.size]? = some (.cells #[.bool false,.string ⟨#[]⟩,.bool true,.string vv,.int .i64 0,.int .i64 0] 84 (0,0))):=hk4.box HXw5.out HNE.out;have HEw6:Hid (EyR w0 a cap l (w6.setCell ⟨w1.heap.size,4,none⟩ (.int .i64 tt)) s5):=hw4.off HZX.out.1;have HRw6:Hid (KeepB w0.heap.size wr (w6.setCell ⟨w1.heap.size,4,none⟩ (.int .i64 tt))):=bJ (HRw5.out.trans hk4) HZX.out.2;have HXw6:Hid ((w6.setCell ⟨w1.heap.size,4,none⟩ (.int .i64 tt)).heap[w1.heap.size]? = some (.cells #[.bool false,.string ⟨#[]⟩,.bool true,.string vv,.int .i64 tt,.int .i64 0] 84 (0,0))):=bG HBw6.out 4 _;have j0:=(aB HBw6.out 0).1;have j1:=(aB HBw6.out 1).1;have j2:=(aB HBw6.out 2).1;have j3:=(aB HBw6.out 3).1;have j4:=(aB HBw6.out 4).1;have j5:=(aB HBw6.out 5).1;have frj:=fun j=>(aB HBw6.out j).2;simp only[List.getElem?_toArray,List.getElem?_cons_zero,List.getElem?_cons_succ] at j0 j1 j2 j3 j4 j5;clear hw4 hk4 _t tok5;have tok8:=trivial)
       | (have _t:=tok8;refine wpList_load_row rfl 84 _ rfl w1.heap.size rfl 84 #[.bool false,.string ⟨#[]⟩,.bool true,.string vv,.int .i64 tt,.int .i64 0] (0,0) _ HXw6.out Tryz.underlying84 rfl Tryz.info84 ?_;clear _t tok8;have HOW:Hid (((w6.setCell ⟨w1.heap.size,4,none⟩ (.int .i64 tt)).alloc (.cells #[.bool false,.string ⟨#[]⟩,.bool true,.string vv,.int .i64 tt,.int .i64 0] 84)).ownsRow w.heap.size 84 6 (.slice va vn vc) AA.length (rcv AA)):=bY (bU HOWN.out HRw6.out hz) (aA _);have HLE:Hid (w.heap.size<=((w6.setCell ⟨w1.heap.size,4,none⟩ (.int .i64 tt)).alloc (.cells #[.bool false,.string ⟨#[]⟩,.bool true,.string vv,.int .i64 tt,.int .i64 0] 84)).heap.size):=(by show _<=_;have:=HRw6.out.size;have:=HKW.out.size;simp at *;omega);have HNEW:Hid (((w6.setCell ⟨w1.heap.size,4,none⟩ (.int .i64 tt)).alloc (.cells #[.bool false,.string ⟨#[]⟩,.bool true,.string vv,.int .i64 tt,.int .i64 0] 84)).heap[w6.heap.size]? = some (.cells (List.toArray [Value.bool false,Value.string ⟨#[]⟩,Value.bool true,Value.string vv,Value.int .i64 tt,Value.int .i64 0]) 84 (0,0))):=(by have q:=heap_alloc_new (w6.setCell ⟨w1.heap.size,4,none⟩ (.int .i64 tt)) (.cells #[.bool false,.string ⟨#[]⟩,.bool true,.string vv,.int .i64 tt,.int .i64 0] 84);rw[show(w6.setCell ⟨w1.heap.size,4,none⟩ (.int .i64 tt)).heap.size=w6.heap.size by simp] at q;exact q);have tok9:=trivial;simp only[Act.put,sP])
       | (at_builtin;have _t:=tok9;refine bH (by rfl) _ _ 26 84 rfl _ 6 _ Tryz.underlying26 fC rfl (by decide) (by decide) w.heap.size _ _ _ rfl (HOW.out) (HLE.out) _ [Value.bool false,Value.string ⟨#[]⟩,Value.bool true,Value.string vv,Value.int .i64 tt,Value.int .i64 0] rfl rfl (HNEW.out) ((by simp[Value.oneCell'])) (by rw[HAL.out];omega) ?_;intro v3 w9 ho3 hg3;have HO3:Hid (w9.ownsRow w.heap.size 84 6 v3 (AA.length+1) (rcv AA++[Value.bool false,Value.string ⟨#[]⟩,Value.bool true,Value.string vv,Value.int .i64 tt,Value.int .i64 0])):=ho3;have HG3:Hid _:=hg3;clear ho3 hg3 _t tok9))
      refine⟨⟨k+1,AA++[⟨false,⟨#[]⟩,true,vv,tt,0⟩],s5,by omega,by go_num,by rw[List.length_append,HAL.out];rfl,fun e=>HRB.out (by rw[HGR.out];exact e),fun l5 e=>by have q:=HRS.out l5 (by rw[HGR.out];exact e);rw[HGR.out] at q;exact q,by rw[List.length_append,dY];exact HO3.out,?_,?_⟩,by simp[iof];omega⟩
      ·exact(EyR.below HEw6.out (aA _)).grown HG3.out HOW.out hz
      ·exact bX (bN _ (HKW.out.trans HRw6.out)) HOW.out HG3.out (Nat.le_refl _)
     ·have p1:bits .and .u64 3 1=1:=by decide
      have p2:bits .and .u64 3 2=2:=by decide
      clear hb1 hb2
      have HTK:Hid (∀x,EyR w0 a cap l x s1->Calls Tryz.prog 41 #[(.pointer (some ⟨w0.heap.size,0,none⟩))] x (EP w0 a cap l x (.string (gT s1).1) (gT s1).2)):=fun x hx=>HT.out _ x hx
      have HTV:Hid (∀x,EyR w0 a cap l x (gT s1).2->Calls Tryz.prog 41 #[(.pointer (some ⟨w0.heap.size,0,none⟩))] x (EP w0 a cap l x (.string (gT (gT s1).2).1) (gT (gT s1).2).2)):=fun x hx=>HT.out _ x hx
      have HT8:Hid (∀x,EyR w0 a cap l x (gT (gT s1).2).2->Calls Tryz.prog 22 #[(.pointer (some ⟨w0.heap.size,0,none⟩)),.int .i64 8] x (EP w0 a cap l x (.int .u64 ((gN 8 (gT (gT s1).2).2).1:Nat)) (gI (gT (gT s1).2).2).2)):=fun x hx=>HN8.out _ x hx
      have H8W:Hid (∀x,EyR w0 a cap l x (gT (gT s1).2).2->IntKind.i64.wrap ((gN 8 (gT (gT s1).2).2).1:Int)=(gI (gT (gT s1).2).2).1):=fun x hx=>HW8.out _ x hx
      have HGR:Hid (gRec (some ls)=(⟨true,(gT s1).1,true,(gT (gT s1).2).1,(gI (gT (gT s1).2).2).1,0⟩,(gI (gT (gT s1).2).2).2)):=by show _=_;simp[gRec,gUp,HG1.out,gIf]
      generalize (gT s1).1=kk at *
      generalize (gT s1).2=s2 at *
      generalize (gT s2).1=vv at *
      generalize (gT s2).2=s3 at *
      generalize (gN 8 s3).1=V8 at *
      generalize (gI s3).1=tt at *
      generalize (gI s3).2=s5 at *
      clear HT HN8 HW8 HG1
      have tok1:=trivial
      go_wp2_with (first
       | (have _t:=tok1;go_at_call 22;refine Calls.mono HC1.out ?_;rintro e w1 ⟨rfl,hw1,hk1⟩;have HE1:Hid (EyR w0 a cap l w1 s1):=hw1;have HR1:Hid (KeepB w0.heap.size wr w1):=hk1;have HZX:Hid (w0.heap.size < w1.heap.size/\wr.heap.size<=w1.heap.size):=⟨hw1.lt,hk1.size⟩;have HNE:Hid (w1.heap.size≠w0.heap.size):=Nat.ne_of_gt hw1.lt;clear hw1 hk1 _t tok1;have tok2:=trivial)
       | (have _t:=tok2;refine wpList_store_row rfl 84 _ _ rfl w1.heap.size #[.bool true,.string ⟨#[]⟩,.bool true,.string ⟨#[]⟩,.int .i64 0,.int .i64 0] rfl rfl 84 #[.bool false,.string ⟨#[]⟩,.bool false,.string ⟨#[]⟩,.int .i64 0,.int .i64 0] (by have q:=heap_alloc_new w1 (.cells #[.bool false,.string ⟨#[]⟩,.bool false,.string ⟨#[]⟩,.int .i64 0,.int .i64 0] 84);rw[show w1.heap.size=w1.heap.size by simp] at q;exact q) Tryz.info84 rfl (by simp[Value.oneCell']) ?_;have hq9:=bI w1 #[.bool false,.string ⟨#[]⟩,.bool false,.string ⟨#[]⟩,.int .i64 0,.int .i64 0] #[.bool true,.string ⟨#[]⟩,.bool true,.string ⟨#[]⟩,.int .i64 0,.int .i64 0] 84;rw[show w1.heap.size=w1.heap.size by simp] at hq9;obtain⟨hx9,hb9⟩:=hq9;generalize World.setRow _ w1.heap.size #[.bool true,.string ⟨#[]⟩,.bool true,.string ⟨#[]⟩,.int .i64 0,.int .i64 0]=w3 at *;have HX3:Hid (w3.heap[w1.heap.size]? = some (.cells #[.bool true,.string ⟨#[]⟩,.bool true,.string ⟨#[]⟩,.int .i64 0,.int .i64 0] 84 (0,0))):=hx9;have HE3:Hid (EyR w0 a cap l w3 s1):=HE1.out.below (by rw[show w1.heap.size=w1.heap.size by simp];exact hb9);have HR3:Hid (KeepB w0.heap.size wr w3):=HR1.out.trans (KeepB.of_below (by rw[show w1.heap.size=w1.heap.size by simp];exact hb9));have g0:=(aB HX3.out 0).1;have g1:=(aB HX3.out 1).1;have g2:=(aB HX3.out 2).1;have g3:=(aB HX3.out 3).1;have g4:=(aB HX3.out 4).1;have g5:=(aB HX3.out 5).1;have frg:=fun j=>(aB HX3.out j).2;simp only[List.getElem?_toArray,List.getElem?_cons_zero,List.getElem?_cons_succ] at g0 g1 g2 g3 g4 g5;clear hx9 hb9 _t tok2;have tok3:=trivial)
       | (have _t:=tok3;go_at_call 41;refine(HTK.out _ HE3.out).mono ?_;rintro e w4 ⟨rfl,hw4,hk4⟩;have HBw4:Hid (w4.heap[w1.heap.size]? = some (.cells #[.bool true,.string ⟨#[]⟩,.bool true,.string ⟨#[]⟩,.int .i64 0,.int .i64 0] 84 (0,0))):=hk4.box HX3.out HNE.out;have HEw4:Hid (EyR w0 a cap l (w4.setCell ⟨w1.heap.size,1,none⟩ (.string kk)) s2):=hw4.off HZX.out.1;have HRw4:Hid (KeepB w0.heap.size wr (w4.setCell ⟨w1.heap.size,1,none⟩ (.string kk))):=bJ (HR3.out.trans hk4) HZX.out.2;have HXw4:Hid ((w4.setCell ⟨w1.heap.size,1,none⟩ (.string kk)).heap[w1.heap.size]? = some (.cells #[.bool true,.string kk,.bool true,.string ⟨#[]⟩,.int .i64 0,.int .i64 0] 84 (0,0))):=bG HBw4.out 1 _;have h0:=(aB HBw4.out 0).1;have h1:=(aB HBw4.out 1).1;have h2:=(aB HBw4.out 2).1;have h3:=(aB HBw4.out 3).1;have h4:=(aB HBw4.out 4).1;have h5:=(aB HBw4.out 5).1;have frh:=fun j=>(aB HBw4.out j).2;simp only[List.getElem?_toArray,List.getElem?_cons_zero,List.getElem?_cons_succ] at h0 h1 h2 h3 h4 h5;clear hw4 hk4 _t tok3;have tok4:=trivial)
       | (have _t:=tok4;go_at_call 41;refine(HTV.out _ HEw4.out).mono ?_;rintro e w5 ⟨rfl,hw4,hk4⟩;have HBw5:Hid (w5.heap[w1.heap.size]? = some (.cells #[.bool true,.string kk,.bool true,.string ⟨#[]⟩,.int .i64 0,.int .i64 0] 84 (0,0))):=hk4.box HXw4.out HNE.out;have HEw5:Hid (EyR w0 a cap l (w5.setCell ⟨w1.heap.size,3,none⟩ (.string vv)) s3):=hw4.off HZX.out.1;have HRw5:Hid (KeepB w0.heap.size wr (w5.setCell ⟨w1.heap.size,3,none⟩ (.string vv))):=bJ (HRw4.out.trans hk4) HZX.out.2;have HXw5:Hid ((w5.setCell ⟨w1.heap.size,3,none⟩ (.string vv)).heap[w1.heap.size]? = some (.cells #[.bool true,.string kk,.bool true,.string vv,.int .i64 0,.int .i64 0] 84 (0,0))):=bG HBw5.out 3 _;have i0:=(aB HBw5.out 0).1;have i1:=(aB HBw5.out 1).1;have i2:=(aB HBw5.out 2).1;have i3:=(aB HBw5.out 3).1;have i4:=(aB HBw5.out 4).1;have i5:=(aB HBw5.out 5).1;have fri:=fun j=>(aB HBw5.out j).2;simp only[List.getElem?_toArray,List.getElem?_cons_zero,List.getElem?_cons_succ] at i0 i1 i2 i3 i4 i5;clear hw4 hk4 _t tok4;have tok5:=trivial)
       | (have _t:=tok5;go_at_call 22;have e8:=H8W.out _ HEw5.out;refine(HT8.out _ HEw5.out).mono ?_;rintro e w6 ⟨rfl,hw4,hk4⟩;have HBw6:Hid (w6.heap[w1.heap.size]? = some (.cells #[.bool true,.string kk,.bool true,.string vv,.int .i64 0,.int .i64 0] 84 (0,0))):=hk4.box HXw5.out HNE.out;have HEw6:Hid (EyR w0 a cap l (w6.setCell ⟨w1.heap.size,4,none⟩ (.int .i64 tt)) s5):=hw4.off HZX.out.1;have HRw6:Hid (KeepB w0.heap.size wr (w6.setCell ⟨w1.heap.size,4,none⟩ (.int .i64 tt))):=bJ (HRw5.out.trans hk4) HZX.out.2;have HXw6:Hid ((w6.setCell ⟨w1.heap.size,4,none⟩ (.int .i64 tt)).heap[w1.heap.size]? = some (.cells #[.bool true,.string kk,.bool true,.string vv,.int .i64 tt,.int .i64 0] 84 (0,0))):=bG HBw6.out 4 _;have j0:=(aB HBw6.out 0).1;have j1:=(aB HBw6.out 1).1;have j2:=(aB HBw6.out 2).1;have j3:=(aB HBw6.out 3).1;have j4:=(aB HBw6.out 4).1;have j5:=(aB HBw6.out 5).1;have frj:=fun j=>(aB HBw6.out j).2;simp only[List.getElem?_toArray,List.getElem?_cons_zero,List.getElem?_cons_succ] at j0 j1 j2 j3 j4 j5;clear hw4 hk4 _t tok5;have tok8:=trivial)
       | (have _t:=tok8;refine wpList_load_row rfl 84 _ rfl w1.heap.size rfl 84 #[.bool true,.string kk,.bool true,.string vv,.int .i64 tt,.int .i64 0] (0,0) _ HXw6.out Tryz.underlying84 rfl Tryz.info84 ?_;clear _t tok8;have HOW:Hid (((w6.setCell ⟨w1.heap.size,4,none⟩ (.int .i64 tt)).alloc (.cells #[.bool true,.string kk,.bool true,.string vv,.int .i64 tt,.int .i64 0] 84)).ownsRow w.heap.size 84 6 (.slice va vn vc) AA.length (rcv AA)):=bY (bU HOWN.out HRw6.out hz) (aA _);have HLE:Hid (w.heap.size<=((w6.setCell ⟨w1.heap.size,4,none⟩ (.int .i64 tt)).alloc (.cells #[.bool true,.string kk,.bool true,.string vv,.int .i64 tt,.int .i64 0] 84)).heap.size):=(by show _<=_;have:=HRw6.out.size;have:=HKW.out.size;simp at *;omega);have HNEW:Hid (((w6.setCell ⟨w1.heap.size,4,none⟩ (.int .i64 tt)).alloc (.cells #[.bool true,.string kk,.bool true,.string vv,.int .i64 tt,.int .i64 0] 84)).heap[w6.heap.size]? = some (.cells (List.toArray [Value.bool true,Value.string kk,Value.bool true,Value.string vv,Value.int .i64 tt,Value.int .i64 0]) 84 (0,0))):=(by have q:=heap_alloc_new (w6.setCell ⟨w1.heap.size,4,none⟩ (.int .i64 tt)) (.cells #[.bool true,.string kk,.bool true,.string vv,.int .i64 tt,.int .i64 0] 84);rw[show(w6.setCell ⟨w1.heap.size,4,none⟩ (.int .i64 tt)).heap.size=w6.heap.size by simp] at q;exact q);have tok9:=trivial;simp only[Act.put,sP])
       | (at_builtin;have _t:=tok9;refine bH (by rfl) _ _ 26 84 rfl _ 6 _ Tryz.underlying26 fC rfl (by decide) (by decide) w.heap.size _ _ _ rfl (HOW.out) (HLE.out) _ [Value.bool true,Value.string kk,Value.bool true,Value.string vv,Value.int .i64 tt,Value.int .i64 0] rfl rfl (HNEW.out) ((by simp[Value.oneCell'])) (by rw[HAL.out];omega) ?_;intro v3 w9 ho3 hg3;have HO3:Hid (w9.ownsRow w.heap.size 84 6 v3 (AA.length+1) (rcv AA++[Value.bool true,Value.string kk,Value.bool true,Value.string vv,Value.int .i64 tt,Value.int .i64 0])):=ho3;have HG3:Hid _:=hg3;clear ho3 hg3 _t tok9))
      refine⟨⟨k+1,AA++[⟨true,kk,true,vv,tt,0⟩],s5,by omega,by go_num,by rw[List.length_append,HAL.out];rfl,fun e=>HRB.out (by rw[HGR.out];exact e),fun l5 e=>by have q:=HRS.out l5 (by rw[HGR.out];exact e);rw[HGR.out] at q;exact q,by rw[List.length_append,dY];exact HO3.out,?_,?_⟩,by simp[iof];omega⟩
      ·exact(EyR.below HEw6.out (aA _)).grown HG3.out HOW.out hz
      ·exact bX (bN _ (HKW.out.trans HRw6.out)) HOW.out HG3.out (Nat.le_refl _)
  ·obtain rfl:k=n:=by omega
   obtain⟨va,vc,rfl,hsr,hnn,_⟩:=fH hown
   have HSR:Hid (RRow wr va AA):=hsr
   have HNG:Hid (∀g,va=some g->w.heap.size<=g.block):=fA hown
   clear hown hsr hnn
   have HRE:Hid (R.2≠none->AA=R.1):=fun q=>by
    cases s with
    | none=>exact absurd (hsn rfl) q
    | some ls=>have e:=hR ls rfl;rw[Nat.sub_self,dX] at e;rw[e]
   have HRT:Hid (R.2=s):=by
    show _=_
    cases s with
    | none=>exact hsn rfl
    | some ls=>have e:=hR ls rfl;rw[Nat.sub_self,dX] at e;rw[e]
   clear HN1 HN8 HW8 HT HG HBD HPB hR hsn
   go_wp2
   go_ret
   exact⟨⟨va,vc,AA,rfl,HSR.out,HNG.out,by have:=HAL.out;omega,HRE.out⟩,by rw[HRT.out];exact HEW.out,HKW.out⟩
theorem eG {w:World} {o:Oper} {a:Act} {K:Act->World->Prop} {Q:Exit->Act->World->Prop} (s x:Operand)
 (ho:o.op=.call {callee:=.builtin .append,args:=#[s,x],argTypes:=#[22,9]}) (B:Nat) (w0:World)
 (v:Value) (n:Nat) (xs:List Value) (hs:a.eval s=v) (hown:w.ownsRow B 5 1 v n xs) (hB:Below B w0 w) (hBs:B<=w.heap.size)
 (t:ByteArray) (hx:a.eval x=.string t) (h63:n+t.size<=1000000)
 (h:∀v' w',w'.ownsRow B 5 1 v' (n+t.size) (xs++cv (sb t))->Below B w0 w'->K (a.put o.dst v') w'):o.wp Tryz.prog a w K Q:=by
 obtain⟨i0,hi,hz0,hz1,hz2⟩:=info_parts Tryz.info5
 obtain⟨v',w',hr,h2,h3,h4⟩:=Lib.run_append_own_string (P:=Tryz.prog) w B 22 9 o.type 5 i0 Tryz.underlying22 Tryz.underlying9 hi hz0 hz1 hz2 v n xs hown t (by unfold maxLen;omega) (by omega) hBs
 rw[sb_cv] at h2
 unfold Oper.wp execOp
 simp only[ho,resolve,invoke,builtin,Sem.run_bind,Sem.run_pure,Result.andThen_ok,List.map_toArray,List.map_cons,List.map_nil,hs,hx,hr]
 exact h v' w' h2 (hB.grown h3 hBs (fun k hk=>(hown.lt k hk).1))
theorem gS {B:Nat} {w w':World} {v:Value} {n:Nat} {xs:List Value} (h:w.ownsRow B 5 1 v n xs) (hb:Below w.heap.size w w'):w'.ownsRow B 5 1 v n xs:=by
 refine World.ownsRow.kept (row:=none) h ⟨hb.os,hb.tape,hb.output,hb.size,fun k hk _=>hb.block k hk⟩ ?_
 cases v.ownBlock with
 | none=>exact .inl rfl
 | some g=>exact .inr (by simp)
theorem iQ {B:Nat} {w:World} {v:Value} {n:Nat} {xs:List Value} (h:w.ownsRow B 5 1 v n xs):w.drew.ownsRow B 5 1 v n xs:=h
theorem lV (w:World) (h:Nat) {w2:World} (hb:Below (w.alloc (.cells #[.int .u8 (h:Int)] 5)).heap.size (w.alloc (.cells #[.int .u8 (h:Int)] 5)) w2):w2.ownsRow w.heap.size 5 1 (.slice (some ⟨w.heap.size,0,none⟩) 1 1) 1 (cv [h]):=by
 refine gS ?_ hb
 exact⟨rfl,.inr ⟨w.heap.size,1,#[.int .u8 (h:Int)],rfl,Nat.le_refl _,heap_alloc_new w _,Nat.le_refl _,by decide,rfl,rfl⟩⟩
theorem iY {B:Nat} {w:World} {v:Value} {n:Nat} {xs:List Value} {l:List Nat} (h:w.ownsRow B 5 1 v n xs) (e:xs=cv l):w.ownsRow B 5 1 v l.length (cv l):=by
 have h1:=h.1
 subst e
 rw[aQ,Nat.mul_one] at h1
 rw[h1]
 exact h
theorem aC2 (k v:ByteArray) (t:Int) (o:Nat) (first:Int) (u:World) (k1:k.size<=2000) (v1:v.size<=2000) (f0:0<=first) (f1:first<=1125899906842624) (zn:Nat) (l1 l2 l3 l4:List Nat)
 (HC:Hid (∀w',Calls Tryz.prog 93 #[.agg #[.bool false,.string k,.bool false,.string v,.int .i64 t,.int .i64 (o:Int)]] w' fun e w2=>e=.returned (.int .i64 0)/\Below w'.heap.size w' w2))
 (HV1:Hid (Makes 106 #[.int .u64 (o:Int)] l1)) (HZ:Hid (∀w',Calls Tryz.prog 107 #[.int .i64 (t - first)] w' fun e w2=>e=.returned (.int .u64 (zn:Int))/\w2=w'))
 (HV2:Hid (Makes 106 #[.int .u64 (zn:Int)] l2)) (HV3:Hid (Makes 106 #[.int .u64 (k.size:Int)] l3)) (HV4:Hid (Makes 106 #[.int .u64 (v.size:Int)] l4))
 (q1:l1.length<=10) (q2:l2.length<=10) (q3:l3.length<=10) (q4:l4.length<=10)
 (hwo:IntKind.u64.wrap (o:Int)=(o:Int)) (hwt:IntKind.i64.wrap (t - first)=t - first) (hwk:IntKind.u64.wrap (k.size:Int)=(k.size:Int)) (hwv:IntKind.u64.wrap (v.size:Int)=(v.size:Int))
 (L:List Nat) (HL:Hid (L=0::(l1++(l2++([]++[]))))) :
 Calls Tryz.prog 94 #[.agg #[.bool false,.string k,.bool false,.string v,.int .i64 t,.int .i64 (o:Int)],.int .i64 first] u fun e w'=>∃x,e=.returned (.tuple #[x,.int .i64 0])/\w'.ownsRow u.heap.size 5 1 x L.length (cv L)/\Below u.heap.size u w':=by
 have b1:bits .or .u8 0 2=2:=by decide
 have b2:bits .or .u8 1 2=3:=by decide
 have tok1:=trivial
 have tok2:=trivial
 go_enter Tryz.func94,Tryz.ntmps94
 go_wp2_with (first
  | (go_at_call 93;refine(HC.out _).mono ?_;rintro e w1 ⟨rfl,hb1⟩;obtain⟨⟨z0,z1,z2,z3,z4,z5⟩,_⟩:=SE.below (SE.new u ⟨false,k,false,v,t,o⟩) hb1;simp only at z0 z1 z2 z3 z4 z5;have hz1:=World.block_lt_of_cell? _ _ z0;simp only at hz1)
  | (go_at_call 106;have _t:=tok1;refine(HV1.out _).mono ?_;clear tok1 _t z0 z1 z2 z3 z4 z5 hz1;rintro e w2 ⟨a1,c1,rfl,R1,n1,hb2⟩;have ow2:=cJ (lV w1 0 hb2) hb1.size;have hb12:=(hb1.alloc hb1.size (.cells #[.int .u8 0] 5)).trans (hb2.mono (Nat.le_trans hb1.size (aA _).size));clear hb1 hb2)
  | (at_builtin;have _t:=tok2;refine aS (by rfl) _ _ rfl _ _ _ _ _ rfl ow2 hb12 hb12.size a1 c1 l1 rfl R1 n1 (by omega) ?_;clear tok2 _t;intro v3 w3 own3 hb3;obtain⟨⟨z0,z1,z2,z3,z4,z5⟩,_⟩:=SE.below (SE.new u ⟨false,k,false,v,t,o⟩) hb3;simp only at z0 z1 z2 z3 z4 z5;have hz1:=World.block_lt_of_cell? _ _ z0;simp only at hz1;clear ow2 R1)
  | (go_at_call 107;refine(HZ.out _).mono ?_;rintro e w4 ⟨rfl,hw⟩;subst w4)
  | (go_at_call 106;refine(HV2.out _).mono ?_;clear z0 z1 z2 z3 z4 z5 hz1;rintro e w5 ⟨a2,c2,rfl,R2,n2,hb5⟩;have ow5:=gS own3 hb5;have hb35:=hb3.trans (hb5.mono hb3.size))
  | (at_builtin;refine aS (by rfl) _ _ rfl _ _ _ _ _ rfl ow5 hb35 hb35.size a2 c2 l2 rfl R2 n2 (by omega) ?_;intro v6 w6 own6 hb6;obtain⟨⟨z0,z1,z2,z3,z4,z5⟩,_⟩:=SE.below (SE.new u ⟨false,k,false,v,t,o⟩) hb6;simp only at z0 z1 z2 z3 z4 z5;have hz1:=World.block_lt_of_cell? _ _ z0;simp only at hz1;clear ow5 R2))
 go_ret2
 have hbb:Below u.heap.size u _:=(aA (.cells #[.bool false,.string k,.bool false,.string v,.int .i64 t,.int .i64 (o:Int)] 84)).trans (hb6.mono (by simp))
 refine⟨_,rfl,?_,hbb⟩
 have:=cJ (B':=u.heap.size) own6 (by simp)
 exact iY this (by rw[HL.out];simp[cv])
theorem aDx (k v:ByteArray) (t:Int) (o:Nat) (first:Int) (u:World) (k1:k.size<=2000) (v1:v.size<=2000) (f0:0<=first) (f1:first<=1125899906842624) (zn:Nat) (l1 l2 l3 l4:List Nat)
 (HC:Hid (∀w',Calls Tryz.prog 93 #[.agg #[.bool false,.string k,.bool true,.string v,.int .i64 t,.int .i64 (o:Int)]] w' fun e w2=>e=.returned (.int .i64 0)/\Below w'.heap.size w' w2))
 (HV1:Hid (Makes 106 #[.int .u64 (o:Int)] l1)) (HZ:Hid (∀w',Calls Tryz.prog 107 #[.int .i64 (t - first)] w' fun e w2=>e=.returned (.int .u64 (zn:Int))/\w2=w'))
 (HV2:Hid (Makes 106 #[.int .u64 (zn:Int)] l2)) (HV3:Hid (Makes 106 #[.int .u64 (k.size:Int)] l3)) (HV4:Hid (Makes 106 #[.int .u64 (v.size:Int)] l4))
 (q1:l1.length<=10) (q2:l2.length<=10) (q3:l3.length<=10) (q4:l4.length<=10)
 (hwo:IntKind.u64.wrap (o:Int)=(o:Int)) (hwt:IntKind.i64.wrap (t - first)=t - first) (hwk:IntKind.u64.wrap (k.size:Int)=(k.size:Int)) (hwv:IntKind.u64.wrap (v.size:Int)=(v.size:Int))
 (L:List Nat) (HL:Hid (L=2::(l1++(l2++([]++(l4++sb v)))))) :
 Calls Tryz.prog 94 #[.agg #[.bool false,.string k,.bool true,.string v,.int .i64 t,.int .i64 (o:Int)],.int .i64 first] u fun e w'=>∃x,e=.returned (.tuple #[x,.int .i64 0])/\w'.ownsRow u.heap.size 5 1 x L.length (cv L)/\Below u.heap.size u w':=by
 have b1:bits .or .u8 0 2=2:=by decide
 have b2:bits .or .u8 1 2=3:=by decide
 have tok1:=trivial
 have tok2:=trivial
 go_enter Tryz.func94,Tryz.ntmps94
 go_wp2_with (first
  | (go_at_call 93;refine(HC.out _).mono ?_;rintro e w1 ⟨rfl,hb1⟩;obtain⟨⟨z0,z1,z2,z3,z4,z5⟩,_⟩:=SE.below (SE.new u ⟨false,k,true,v,t,o⟩) hb1;simp only at z0 z1 z2 z3 z4 z5;have hz1:=World.block_lt_of_cell? _ _ z0;simp only at hz1)
  | (go_at_call 106;have _t:=tok1;refine(HV1.out _).mono ?_;clear tok1 _t z0 z1 z2 z3 z4 z5 hz1;rintro e w2 ⟨a1,c1,rfl,R1,n1,hb2⟩;have ow2:=cJ (lV w1 2 hb2) hb1.size;have hb12:=(hb1.alloc hb1.size (.cells #[.int .u8 2] 5)).trans (hb2.mono (Nat.le_trans hb1.size (aA _).size));clear hb1 hb2)
  | (at_builtin;have _t:=tok2;refine aS (by rfl) _ _ rfl _ _ _ _ _ rfl ow2 hb12 hb12.size a1 c1 l1 rfl R1 n1 (by omega) ?_;clear tok2 _t;intro v3 w3 own3 hb3;obtain⟨⟨z0,z1,z2,z3,z4,z5⟩,_⟩:=SE.below (SE.new u ⟨false,k,true,v,t,o⟩) hb3;simp only at z0 z1 z2 z3 z4 z5;have hz1:=World.block_lt_of_cell? _ _ z0;simp only at hz1;clear ow2 R1)
  | (go_at_call 107;refine(HZ.out _).mono ?_;rintro e w4 ⟨rfl,hw⟩;subst w4)
  | (go_at_call 106;refine(HV2.out _).mono ?_;clear z0 z1 z2 z3 z4 z5 hz1;rintro e w5 ⟨a2,c2,rfl,R2,n2,hb5⟩;have ow5:=gS own3 hb5;have hb35:=hb3.trans (hb5.mono hb3.size))
  | (at_builtin;refine aS (by rfl) _ _ rfl _ _ _ _ _ rfl ow5 hb35 hb35.size a2 c2 l2 rfl R2 n2 (by omega) ?_;intro v6 w6 own6 hb6;obtain⟨⟨z0,z1,z2,z3,z4,z5⟩,_⟩:=SE.below (SE.new u ⟨false,k,true,v,t,o⟩) hb6;simp only at z0 z1 z2 z3 z4 z5;have hz1:=World.block_lt_of_cell? _ _ z0;simp only at hz1;clear ow5 R2))
 clear z0 z1 z2 z3 z4 z5 hz1
 refine aD (fun y=>Below (u.alloc (.cells #[.bool false,.string k,.bool true,.string v,.int .i64 t,.int .i64 (o:Int)] 84)).heap.size (u.alloc (.cells #[.bool false,.string k,.bool true,.string v,.int .i64 t,.int .i64 (o:Int)] 84)) y) 10 (by kernel_rfl) (hb6.drew) (fun hHeld=>?_)
 refine lH 0 ?_ (hy:=by intro w hSw;obtain⟨⟨z0,z1,z2,z3,z4,z5⟩,_⟩:=SE.below (SE.new u ⟨false,k,true,v,t,o⟩) hSw;simp only at z0 z1 z2 z3 z4 z5;go_simp<;>with_reducible rfl)
 try simp only[Act.put,sP]
 refine lH 1 ?_ (hy:=by intro w hSw;obtain⟨⟨z0,z1,z2,z3,z4,z5⟩,_⟩:=SE.below (SE.new u ⟨false,k,true,v,t,o⟩) hSw;simp only at z0 z1 z2 z3 z4 z5;go_simp<;>with_reducible rfl)
 try simp only[Act.put,sP]
 refine lH 2 ?_ (hy:=by intro w hSw;obtain⟨⟨z0,z1,z2,z3,z4,z5⟩,_⟩:=SE.below (SE.new u ⟨false,k,true,v,t,o⟩) hSw;simp only at z0 z1 z2 z3 z4 z5;go_simp<;>with_reducible rfl)
 try simp only[Act.put,sP]
 refine lH 3 ?_ (hy:=by intro w hSw;obtain⟨⟨z0,z1,z2,z3,z4,z5⟩,_⟩:=SE.below (SE.new u ⟨false,k,true,v,t,o⟩) hSw;simp only at z0 z1 z2 z3 z4 z5;go_simp<;>with_reducible rfl)
 try simp only[Act.put,sP]
 refine lH 4 ?_ (hy:=by intro w hSw;obtain⟨⟨z0,z1,z2,z3,z4,z5⟩,_⟩:=SE.below (SE.new u ⟨false,k,true,v,t,o⟩) hSw;simp only at z0 z1 z2 z3 z4 z5;go_simp<;>with_reducible rfl)
 try simp only[Act.put,sP]
 refine lH 7 ?_ (hy:=by intro w hSw;obtain⟨⟨z0,z1,z2,z3,z4,z5⟩,_⟩:=SE.below (SE.new u ⟨false,k,true,v,t,o⟩) hSw;simp only at z0 z1 z2 z3 z4 z5;go_simp<;>with_reducible rfl)
 try simp only[Act.put,sP]
 refine lH 8 ?_ (hy:=by intro w hSw;obtain⟨⟨z0,z1,z2,z3,z4,z5⟩,_⟩:=SE.below (SE.new u ⟨false,k,true,v,t,o⟩) hSw;simp only at z0 z1 z2 z3 z4 z5;go_simp<;>with_reducible rfl)
 try simp only[Act.put,sP]
 refine lo 5 fun K hK=>?_
 go_simp
 refine Calls.mono (HV4.out _) ?_
 rintro e xV ⟨aV,cV,rfl,RV,nV,hxV⟩
 try dsimp only
 have hyV:=hHeld.trans (hxV.mono hHeld.size)
 have owV:=gS (iQ own6) hxV
 refine hK.out _ _ hyV (fun hH2=>?_)
 clear hK hHeld
 try simp only[Act.put,sP]
 refine lo 6 fun K hK=>?_
 refine eS _ _ rfl _ _ _ _ _ rfl owV hH2 hH2.size aV cV l4 rfl RV nV (by omega) ?_
 intro vV yV oxV hzV
 refine hK.out _ _ hzV (fun hH3=>?_)
 clear hK hH2
 try simp only[Act.put,sP]
 refine lo 9 fun K hK=>?_
 refine eG _ _ rfl _ _ _ _ _ rfl oxV hH3 hH3.size v rfl (by omega) ?_
 intro vvV yyV ownV hbV
 refine hK.out _ _ hbV (fun hH4=>?_)
 clear hK hH3 hH4 oxV owV
 try simp only[Act.put,sP]
 refine ll 10 fun K hK=>?_
 go_simp
 refine hK.out _ _ ?_
 clear hK
 try simp only[Act.put,sP]
 go_wp2_with fail
 go_ret2
 have hbb:Below u.heap.size u _:=(aA (.cells #[.bool false,.string k,.bool true,.string v,.int .i64 t,.int .i64 (o:Int)] 84)).trans (hbV.mono (by simp))
 refine⟨_,rfl,?_,hbb⟩
 have:=cJ (B':=u.heap.size) ownV (by simp)
 exact iY this (by rw[HL.out];simp[cv])
theorem aDp (k v:ByteArray) (t:Int) (o:Nat) (first:Int) (u:World) (k1:k.size<=2000) (v1:v.size<=2000) (f0:0<=first) (f1:first<=1125899906842624) (zn:Nat) (l1 l2 l3 l4:List Nat)
 (HC:Hid (∀w',Calls Tryz.prog 93 #[.agg #[.bool true,.string k,.bool false,.string v,.int .i64 t,.int .i64 (o:Int)]] w' fun e w2=>e=.returned (.int .i64 0)/\Below w'.heap.size w' w2))
 (HV1:Hid (Makes 106 #[.int .u64 (o:Int)] l1)) (HZ:Hid (∀w',Calls Tryz.prog 107 #[.int .i64 (t - first)] w' fun e w2=>e=.returned (.int .u64 (zn:Int))/\w2=w'))
 (HV2:Hid (Makes 106 #[.int .u64 (zn:Int)] l2)) (HV3:Hid (Makes 106 #[.int .u64 (k.size:Int)] l3)) (HV4:Hid (Makes 106 #[.int .u64 (v.size:Int)] l4))
 (q1:l1.length<=10) (q2:l2.length<=10) (q3:l3.length<=10) (q4:l4.length<=10)
 (hwo:IntKind.u64.wrap (o:Int)=(o:Int)) (hwt:IntKind.i64.wrap (t - first)=t - first) (hwk:IntKind.u64.wrap (k.size:Int)=(k.size:Int)) (hwv:IntKind.u64.wrap (v.size:Int)=(v.size:Int))
 (L:List Nat) (HL:Hid (L=1::(l1++(l2++(l3++sb k++[]))))) :
 Calls Tryz.prog 94 #[.agg #[.bool true,.string k,.bool false,.string v,.int .i64 t,.int .i64 (o:Int)],.int .i64 first] u fun e w'=>∃x,e=.returned (.tuple #[x,.int .i64 0])/\w'.ownsRow u.heap.size 5 1 x L.length (cv L)/\Below u.heap.size u w':=by
 have b1:bits .or .u8 0 2=2:=by decide
 have b2:bits .or .u8 1 2=3:=by decide
 have tok1:=trivial
 have tok2:=trivial
 go_enter Tryz.func94,Tryz.ntmps94
 go_wp2_with (first
  | (go_at_call 93;refine(HC.out _).mono ?_;rintro e w1 ⟨rfl,hb1⟩;obtain⟨⟨z0,z1,z2,z3,z4,z5⟩,_⟩:=SE.below (SE.new u ⟨true,k,false,v,t,o⟩) hb1;simp only at z0 z1 z2 z3 z4 z5;have hz1:=World.block_lt_of_cell? _ _ z0;simp only at hz1)
  | (go_at_call 106;have _t:=tok1;refine(HV1.out _).mono ?_;clear tok1 _t z0 z1 z2 z3 z4 z5 hz1;rintro e w2 ⟨a1,c1,rfl,R1,n1,hb2⟩;have ow2:=cJ (lV w1 1 hb2) hb1.size;have hb12:=(hb1.alloc hb1.size (.cells #[.int .u8 1] 5)).trans (hb2.mono (Nat.le_trans hb1.size (aA _).size));clear hb1 hb2)
  | (at_builtin;have _t:=tok2;refine aS (by rfl) _ _ rfl _ _ _ _ _ rfl ow2 hb12 hb12.size a1 c1 l1 rfl R1 n1 (by omega) ?_;clear tok2 _t;intro v3 w3 own3 hb3;obtain⟨⟨z0,z1,z2,z3,z4,z5⟩,_⟩:=SE.below (SE.new u ⟨true,k,false,v,t,o⟩) hb3;simp only at z0 z1 z2 z3 z4 z5;have hz1:=World.block_lt_of_cell? _ _ z0;simp only at hz1;clear ow2 R1)
  | (go_at_call 107;refine(HZ.out _).mono ?_;rintro e w4 ⟨rfl,hw⟩;subst w4)
  | (go_at_call 106;refine(HV2.out _).mono ?_;clear z0 z1 z2 z3 z4 z5 hz1;rintro e w5 ⟨a2,c2,rfl,R2,n2,hb5⟩;have ow5:=gS own3 hb5;have hb35:=hb3.trans (hb5.mono hb3.size))
  | (at_builtin;refine aS (by rfl) _ _ rfl _ _ _ _ _ rfl ow5 hb35 hb35.size a2 c2 l2 rfl R2 n2 (by omega) ?_;intro v6 w6 own6 hb6;obtain⟨⟨z0,z1,z2,z3,z4,z5⟩,_⟩:=SE.below (SE.new u ⟨true,k,false,v,t,o⟩) hb6;simp only at z0 z1 z2 z3 z4 z5;have hz1:=World.block_lt_of_cell? _ _ z0;simp only at hz1;clear ow5 R2))
 clear z0 z1 z2 z3 z4 z5 hz1
 refine aD (fun y=>Below (u.alloc (.cells #[.bool true,.string k,.bool false,.string v,.int .i64 t,.int .i64 (o:Int)] 84)).heap.size (u.alloc (.cells #[.bool true,.string k,.bool false,.string v,.int .i64 t,.int .i64 (o:Int)] 84)) y) 10 (by kernel_rfl) (hb6.drew) (fun hHeld=>?_)
 refine lH 0 ?_ (hy:=by intro w hSw;obtain⟨⟨z0,z1,z2,z3,z4,z5⟩,_⟩:=SE.below (SE.new u ⟨true,k,false,v,t,o⟩) hSw;simp only at z0 z1 z2 z3 z4 z5;go_simp<;>with_reducible rfl)
 try simp only[Act.put,sP]
 refine lH 1 ?_ (hy:=by intro w hSw;obtain⟨⟨z0,z1,z2,z3,z4,z5⟩,_⟩:=SE.below (SE.new u ⟨true,k,false,v,t,o⟩) hSw;simp only at z0 z1 z2 z3 z4 z5;go_simp<;>with_reducible rfl)
 try simp only[Act.put,sP]
 refine lH 2 ?_ (hy:=by intro w hSw;obtain⟨⟨z0,z1,z2,z3,z4,z5⟩,_⟩:=SE.below (SE.new u ⟨true,k,false,v,t,o⟩) hSw;simp only at z0 z1 z2 z3 z4 z5;go_simp<;>with_reducible rfl)
 try simp only[Act.put,sP]
 refine lH 3 ?_ (hy:=by intro w hSw;obtain⟨⟨z0,z1,z2,z3,z4,z5⟩,_⟩:=SE.below (SE.new u ⟨true,k,false,v,t,o⟩) hSw;simp only at z0 z1 z2 z3 z4 z5;go_simp<;>with_reducible rfl)
 try simp only[Act.put,sP]
 refine lH 4 ?_ (hy:=by intro w hSw;obtain⟨⟨z0,z1,z2,z3,z4,z5⟩,_⟩:=SE.below (SE.new u ⟨true,k,false,v,t,o⟩) hSw;simp only at z0 z1 z2 z3 z4 z5;go_simp<;>with_reducible rfl)
 try simp only[Act.put,sP]
 refine lH 7 ?_ (hy:=by intro w hSw;obtain⟨⟨z0,z1,z2,z3,z4,z5⟩,_⟩:=SE.below (SE.new u ⟨true,k,false,v,t,o⟩) hSw;simp only at z0 z1 z2 z3 z4 z5;go_simp<;>with_reducible rfl)
 try simp only[Act.put,sP]
 refine lH 8 ?_ (hy:=by intro w hSw;obtain⟨⟨z0,z1,z2,z3,z4,z5⟩,_⟩:=SE.below (SE.new u ⟨true,k,false,v,t,o⟩) hSw;simp only at z0 z1 z2 z3 z4 z5;go_simp<;>with_reducible rfl)
 try simp only[Act.put,sP]
 refine lo 5 fun K hK=>?_
 go_simp
 refine Calls.mono (HV3.out _) ?_
 rintro e xK ⟨aK,cK,rfl,RK,nK,hxK⟩
 try dsimp only
 have hyK:=hHeld.trans (hxK.mono hHeld.size)
 have owK:=gS (iQ own6) hxK
 refine hK.out _ _ hyK (fun hH2=>?_)
 clear hK hHeld
 try simp only[Act.put,sP]
 refine lo 6 fun K hK=>?_
 refine eS _ _ rfl _ _ _ _ _ rfl owK hH2 hH2.size aK cK l3 rfl RK nK (by omega) ?_
 intro vK yK oxK hzK
 refine hK.out _ _ hzK (fun hH3=>?_)
 clear hK hH2
 try simp only[Act.put,sP]
 refine lo 9 fun K hK=>?_
 refine eG _ _ rfl _ _ _ _ _ rfl oxK hH3 hH3.size k rfl (by omega) ?_
 intro vvK yyK ownK hbK
 refine hK.out _ _ hbK (fun hH4=>?_)
 clear hK hH3 hH4 oxK owK
 try simp only[Act.put,sP]
 refine ll 10 fun K hK=>?_
 go_simp
 refine hK.out _ _ ?_
 clear hK
 try simp only[Act.put,sP]
 obtain⟨⟨z0,z1,z2,z3,z4,z5⟩,_⟩:=SE.below (SE.new u ⟨true,k,false,v,t,o⟩) hbK
 simp only at z0 z1 z2 z3 z4 z5
 have hz1:=World.block_lt_of_cell? _ _ z0
 simp only at hz1
 go_wp2_with fail
 go_ret2
 have hbb:Below u.heap.size u _:=(aA (.cells #[.bool true,.string k,.bool false,.string v,.int .i64 t,.int .i64 (o:Int)] 84)).trans (hbK.mono (by simp))
 refine⟨_,rfl,?_,hbb⟩
 have:=cJ (B':=u.heap.size) ownK (by simp)
 exact iY this (by rw[HL.out];simp[cv])
theorem aDi (k v:ByteArray) (t:Int) (o:Nat) (first:Int) (u:World) (k1:k.size<=2000) (v1:v.size<=2000) (f0:0<=first) (f1:first<=1125899906842624) (zn:Nat) (l1 l2 l3 l4:List Nat)
 (HC:Hid (∀w',Calls Tryz.prog 93 #[.agg #[.bool true,.string k,.bool true,.string v,.int .i64 t,.int .i64 (o:Int)]] w' fun e w2=>e=.returned (.int .i64 0)/\Below w'.heap.size w' w2))
 (HV1:Hid (Makes 106 #[.int .u64 (o:Int)] l1)) (HZ:Hid (∀w',Calls Tryz.prog 107 #[.int .i64 (t - first)] w' fun e w2=>e=.returned (.int .u64 (zn:Int))/\w2=w'))
 (HV2:Hid (Makes 106 #[.int .u64 (zn:Int)] l2)) (HV3:Hid (Makes 106 #[.int .u64 (k.size:Int)] l3)) (HV4:Hid (Makes 106 #[.int .u64 (v.size:Int)] l4))
 (q1:l1.length<=10) (q2:l2.length<=10) (q3:l3.length<=10) (q4:l4.length<=10)
 (hwo:IntKind.u64.wrap (o:Int)=(o:Int)) (hwt:IntKind.i64.wrap (t - first)=t - first) (hwk:IntKind.u64.wrap (k.size:Int)=(k.size:Int)) (hwv:IntKind.u64.wrap (v.size:Int)=(v.size:Int))
 (L:List Nat) (HL:Hid (L=3::(l1++(l2++(l3++sb k++(l4++sb v)))))) :
 Calls Tryz.prog 94 #[.agg #[.bool true,.string k,.bool true,.string v,.int .i64 t,.int .i64 (o:Int)],.int .i64 first] u fun e w'=>∃x,e=.returned (.tuple #[x,.int .i64 0])/\w'.ownsRow u.heap.size 5 1 x L.length (cv L)/\Below u.heap.size u w':=by
 have b1:bits .or .u8 0 2=2:=by decide
 have b2:bits .or .u8 1 2=3:=by decide
 have tok1:=trivial
 have tok2:=trivial
 go_enter Tryz.func94,Tryz.ntmps94
 go_wp2_with (first
  | (go_at_call 93;refine(HC.out _).mono ?_;rintro e w1 ⟨rfl,hb1⟩;obtain⟨⟨z0,z1,z2,z3,z4,z5⟩,_⟩:=SE.below (SE.new u ⟨true,k,true,v,t,o⟩) hb1;simp only at z0 z1 z2 z3 z4 z5;have hz1:=World.block_lt_of_cell? _ _ z0;simp only at hz1)
  | (go_at_call 106;have _t:=tok1;refine(HV1.out _).mono ?_;clear tok1 _t z0 z1 z2 z3 z4 z5 hz1;rintro e w2 ⟨a1,c1,rfl,R1,n1,hb2⟩;have ow2:=cJ (lV w1 3 hb2) hb1.size;have hb12:=(hb1.alloc hb1.size (.cells #[.int .u8 3] 5)).trans (hb2.mono (Nat.le_trans hb1.size (aA _).size));clear hb1 hb2)
  | (at_builtin;have _t:=tok2;refine aS (by rfl) _ _ rfl _ _ _ _ _ rfl ow2 hb12 hb12.size a1 c1 l1 rfl R1 n1 (by omega) ?_;clear tok2 _t;intro v3 w3 own3 hb3;obtain⟨⟨z0,z1,z2,z3,z4,z5⟩,_⟩:=SE.below (SE.new u ⟨true,k,true,v,t,o⟩) hb3;simp only at z0 z1 z2 z3 z4 z5;have hz1:=World.block_lt_of_cell? _ _ z0;simp only at hz1;clear ow2 R1)
  | (go_at_call 107;refine(HZ.out _).mono ?_;rintro e w4 ⟨rfl,hw⟩;subst w4)
  | (go_at_call 106;refine(HV2.out _).mono ?_;clear z0 z1 z2 z3 z4 z5 hz1;rintro e w5 ⟨a2,c2,rfl,R2,n2,hb5⟩;have ow5:=gS own3 hb5;have hb35:=hb3.trans (hb5.mono hb3.size))
  | (at_builtin;refine aS (by rfl) _ _ rfl _ _ _ _ _ rfl ow5 hb35 hb35.size a2 c2 l2 rfl R2 n2 (by omega) ?_;intro v6 w6 own6 hb6;obtain⟨⟨z0,z1,z2,z3,z4,z5⟩,_⟩:=SE.below (SE.new u ⟨true,k,true,v,t,o⟩) hb6;simp only at z0 z1 z2 z3 z4 z5;have hz1:=World.block_lt_of_cell? _ _ z0;simp only at hz1;clear ow5 R2))
 clear z0 z1 z2 z3 z4 z5 hz1
 refine aD (fun y=>Below (u.alloc (.cells #[.bool true,.string k,.bool true,.string v,.int .i64 t,.int .i64 (o:Int)] 84)).heap.size (u.alloc (.cells #[.bool true,.string k,.bool true,.string v,.int .i64 t,.int .i64 (o:Int)] 84)) y) 10 (by kernel_rfl) (hb6.drew) (fun hHeld=>?_)
 refine lH 0 ?_ (hy:=by intro w hSw;obtain⟨⟨z0,z1,z2,z3,z4,z5⟩,_⟩:=SE.below (SE.new u ⟨true,k,true,v,t,o⟩) hSw;simp only at z0 z1 z2 z3 z4 z5;go_simp<;>with_reducible rfl)
 try simp only[Act.put,sP]
 refine lH 1 ?_ (hy:=by intro w hSw;obtain⟨⟨z0,z1,z2,z3,z4,z5⟩,_⟩:=SE.below (SE.new u ⟨true,k,true,v,t,o⟩) hSw;simp only at z0 z1 z2 z3 z4 z5;go_simp<;>with_reducible rfl)
 try simp only[Act.put,sP]
 refine lH 2 ?_ (hy:=by intro w hSw;obtain⟨⟨z0,z1,z2,z3,z4,z5⟩,_⟩:=SE.below (SE.new u ⟨true,k,true,v,t,o⟩) hSw;simp only at z0 z1 z2 z3 z4 z5;go_simp<;>with_reducible rfl)
 try simp only[Act.put,sP]
 refine lH 3 ?_ (hy:=by intro w hSw;obtain⟨⟨z0,z1,z2,z3,z4,z5⟩,_⟩:=SE.below (SE.new u ⟨true,k,true,v,t,o⟩) hSw;simp only at z0 z1 z2 z3 z4 z5;go_simp<;>with_reducible rfl)
 try simp only[Act.put,sP]
 refine lH 4 ?_ (hy:=by intro w hSw;obtain⟨⟨z0,z1,z2,z3,z4,z5⟩,_⟩:=SE.below (SE.new u ⟨true,k,true,v,t,o⟩) hSw;simp only at z0 z1 z2 z3 z4 z5;go_simp<;>with_reducible rfl)
 try simp only[Act.put,sP]
 refine lH 7 ?_ (hy:=by intro w hSw;obtain⟨⟨z0,z1,z2,z3,z4,z5⟩,_⟩:=SE.below (SE.new u ⟨true,k,true,v,t,o⟩) hSw;simp only at z0 z1 z2 z3 z4 z5;go_simp<;>with_reducible rfl)
 try simp only[Act.put,sP]
 refine lH 8 ?_ (hy:=by intro w hSw;obtain⟨⟨z0,z1,z2,z3,z4,z5⟩,_⟩:=SE.below (SE.new u ⟨true,k,true,v,t,o⟩) hSw;simp only at z0 z1 z2 z3 z4 z5;go_simp<;>with_reducible rfl)
 try simp only[Act.put,sP]
 refine lo 5 fun K hK=>?_
 go_simp
 refine Calls.mono (HV3.out _) ?_
 rintro e xK ⟨aK,cK,rfl,RK,nK,hxK⟩
 try dsimp only
 have hyK:=hHeld.trans (hxK.mono hHeld.size)
 have owK:=gS (iQ own6) hxK
 refine hK.out _ _ hyK (fun hH2=>?_)
 clear hK hHeld
 try simp only[Act.put,sP]
 refine lo 6 fun K hK=>?_
 refine eS _ _ rfl _ _ _ _ _ rfl owK hH2 hH2.size aK cK l3 rfl RK nK (by omega) ?_
 intro vK yK oxK hzK
 refine hK.out _ _ hzK (fun hH3=>?_)
 clear hK hH2
 try simp only[Act.put,sP]
 refine lo 9 fun K hK=>?_
 refine eG _ _ rfl _ _ _ _ _ rfl oxK hH3 hH3.size k rfl (by omega) ?_
 intro vvK yyK ownK hbK
 refine hK.out _ _ hbK (fun hH4=>?_)
 clear hK hH3 hH4 oxK owK
 try simp only[Act.put,sP]
 refine ll 10 fun K hK=>?_
 go_simp
 refine hK.out _ _ ?_
 clear hK
 try simp only[Act.put,sP]
 obtain⟨⟨z0,z1,z2,z3,z4,z5⟩,_⟩:=SE.below (SE.new u ⟨true,k,true,v,t,o⟩) hbK
 simp only at z0 z1 z2 z3 z4 z5
 have hz1:=World.block_lt_of_cell? _ _ z0
 simp only at hz1
 go_wp2_with fail
 clear z0 z1 z2 z3 z4 z5 hz1
 refine aD (fun y=>Below (u.alloc (.cells #[.bool true,.string k,.bool true,.string v,.int .i64 t,.int .i64 (o:Int)] 84)).heap.size (u.alloc (.cells #[.bool true,.string k,.bool true,.string v,.int .i64 t,.int .i64 (o:Int)] 84)) y) 10 (by kernel_rfl) (hbK.drew) (fun hHeld=>?_)
 refine lH 0 ?_ (hy:=by intro w hSw;obtain⟨⟨z0,z1,z2,z3,z4,z5⟩,_⟩:=SE.below (SE.new u ⟨true,k,true,v,t,o⟩) hSw;simp only at z0 z1 z2 z3 z4 z5;go_simp<;>with_reducible rfl)
 try simp only[Act.put,sP]
 refine lH 1 ?_ (hy:=by intro w hSw;obtain⟨⟨z0,z1,z2,z3,z4,z5⟩,_⟩:=SE.below (SE.new u ⟨true,k,true,v,t,o⟩) hSw;simp only at z0 z1 z2 z3 z4 z5;go_simp<;>with_reducible rfl)
 try simp only[Act.put,sP]
 refine lH 2 ?_ (hy:=by intro w hSw;obtain⟨⟨z0,z1,z2,z3,z4,z5⟩,_⟩:=SE.below (SE.new u ⟨true,k,true,v,t,o⟩) hSw;simp only at z0 z1 z2 z3 z4 z5;go_simp<;>with_reducible rfl)
 try simp only[Act.put,sP]
 refine lH 3 ?_ (hy:=by intro w hSw;obtain⟨⟨z0,z1,z2,z3,z4,z5⟩,_⟩:=SE.below (SE.new u ⟨true,k,true,v,t,o⟩) hSw;simp only at z0 z1 z2 z3 z4 z5;go_simp<;>with_reducible rfl)
 try simp only[Act.put,sP]
 refine lH 4 ?_ (hy:=by intro w hSw;obtain⟨⟨z0,z1,z2,z3,z4,z5⟩,_⟩:=SE.below (SE.new u ⟨true,k,true,v,t,o⟩) hSw;simp only at z0 z1 z2 z3 z4 z5;go_simp<;>with_reducible rfl)
 try simp only[Act.put,sP]
 refine lH 7 ?_ (hy:=by intro w hSw;obtain⟨⟨z0,z1,z2,z3,z4,z5⟩,_⟩:=SE.below (SE.new u ⟨true,k,true,v,t,o⟩) hSw;simp only at z0 z1 z2 z3 z4 z5;go_simp<;>with_reducible rfl)
 try simp only[Act.put,sP]
 refine lH 8 ?_ (hy:=by intro w hSw;obtain⟨⟨z0,z1,z2,z3,z4,z5⟩,_⟩:=SE.below (SE.new u ⟨true,k,true,v,t,o⟩) hSw;simp only at z0 z1 z2 z3 z4 z5;go_simp<;>with_reducible rfl)
 try simp only[Act.put,sP]
 refine lo 5 fun K hK=>?_
 go_simp
 refine Calls.mono (HV4.out _) ?_
 rintro e xV ⟨aV,cV,rfl,RV,nV,hxV⟩
 try dsimp only
 have hyV:=hHeld.trans (hxV.mono hHeld.size)
 have owV:=gS (iQ ownK) hxV
 refine hK.out _ _ hyV (fun hH2=>?_)
 clear hK hHeld
 try simp only[Act.put,sP]
 refine lo 6 fun K hK=>?_
 refine eS _ _ rfl _ _ _ _ _ rfl owV hH2 hH2.size aV cV l4 rfl RV nV (by omega) ?_
 intro vV yV oxV hzV
 refine hK.out _ _ hzV (fun hH3=>?_)
 clear hK hH2
 try simp only[Act.put,sP]
 refine lo 9 fun K hK=>?_
 refine eG _ _ rfl _ _ _ _ _ rfl oxV hH3 hH3.size v rfl (by omega) ?_
 intro vvV yyV ownV hbV
 refine hK.out _ _ hbV (fun hH4=>?_)
 clear hK hH3 hH4 oxV owV
 try simp only[Act.put,sP]
 refine ll 10 fun K hK=>?_
 go_simp
 refine hK.out _ _ ?_
 clear hK
 try simp only[Act.put,sP]
 go_wp2_with fail
 go_ret2
 have hbb:Below u.heap.size u _:=(aA (.cells #[.bool true,.string k,.bool true,.string v,.int .i64 t,.int .i64 (o:Int)] 84)).trans (hbV.mono (by simp))
 refine⟨_,rfl,?_,hbb⟩
 have:=cJ (B':=u.heap.size) ownV (by simp)
 exact iY this (by rw[HL.out];simp[cv])
theorem aY (V:Nat) (h:V<=18446744073709551615):Makes 106 #[.int .u64 V] (groups V):=fun w'=>by
 refine(rJ V w' h).mono ?_
 rintro e w2 ⟨v,rfl,hown,hb⟩
 obtain⟨a,c,rfl,hr,hn⟩:=bQ hown (fK V h)
 exact⟨a,c,rfl,hr,hn,hb⟩
theorem qO (r:Rc) (first:Int) (w:World) :
 Calls Tryz.prog 94 #[.agg r.cells,.int .i64 first] w fun e w'=>∃v,e=.returned (.tuple #[v,.int .i64 (encE r first)])/\w'.ownsRow w.heap.size 5 1 v (encR r first).length (cv (encR r first))/\Below w.heap.size w w':=by
 have HC:Hid _:=nI r
 by_cases hc:chk r=0
 ·rw[hc] at HC
  by_cases ht:timeB first=true
  ·have hE:encE r first=0:=by simp[encE,hc,ht]
   have hR:encR r first=encL r first:=by simp[encR,hE]
   obtain⟨t0,t1,o0,o1,k1,v1,_,_⟩:=dN hc
   obtain⟨f0,f1⟩:=(bZ first).1 ht
   rw[hE,hR]
   obtain⟨on,hon⟩:=Int.eq_ofNat_of_zero_le o0
   have hz:=pV (r.t - first) (by omega) (by omega)
   obtain⟨zn,hzn⟩:=Int.eq_ofNat_of_zero_le hz.1
   have HZ:Hid _:=fun w'=>yE (r.t - first) w' (by omega) (by omega)
   have HL:Hid (encL r first=headN r::(groups on++(groups zn++(textL r.hk r.k++textL r.hv r.v)))):=by
    show _=_
    unfold encL
    rw[hon,hzn]
    rfl
   generalize encL r first=L at *
   obtain⟨hk,k,hv,v,t,o⟩:=r
   simp only at *
   subst hon
   rw[hzn] at HZ
   have w1:IntKind.u64.wrap (on:Int)=(on:Int):=by rw[IntKind.wrap_u64];omega
   have w2:IntKind.i64.wrap (t - first)=t - first:=by rw[IntKind.wrap_i64];omega
   have w3:IntKind.u64.wrap (k.size:Int)=(k.size:Int):=by rw[IntKind.wrap_u64];omega
   have w4:IntKind.u64.wrap (v.size:Int)=(v.size:Int):=by rw[IntKind.wrap_u64];omega
   cases hk<;>cases hv
   ·exact aC2 k v t on first w k1 v1 f0 f1 zn _ _ _ _ HC (aY on (by omega)) HZ (aY zn (by omega)) (aY k.size (by omega)) (aY v.size (by omega)) (aU _).2 (aU _).2 (aU _).2 (aU _).2 w1 w2 w3 w4 L (by rw[HL.out];rfl)
   ·exact aDx k v t on first w k1 v1 f0 f1 zn _ _ _ _ HC (aY on (by omega)) HZ (aY zn (by omega)) (aY k.size (by omega)) (aY v.size (by omega)) (aU _).2 (aU _).2 (aU _).2 (aU _).2 w1 w2 w3 w4 L (by rw[HL.out];rfl)
   ·exact aDp k v t on first w k1 v1 f0 f1 zn _ _ _ _ HC (aY on (by omega)) HZ (aY zn (by omega)) (aY k.size (by omega)) (aY v.size (by omega)) (aU _).2 (aU _).2 (aU _).2 (aU _).2 w1 w2 w3 w4 L (by rw[HL.out];rfl)
   ·exact aDi k v t on first w k1 v1 f0 f1 zn _ _ _ _ HC (aY on (by omega)) HZ (aY zn (by omega)) (aY k.size (by omega)) (aY v.size (by omega)) (aU _).2 (aU _).2 (aU _).2 (aU _).2 w1 w2 w3 w4 L (by rw[HL.out];rfl)
  ·have ht':timeB first=false:=by simpa using ht
   have hE:encE r first=1:=by simp[encE,hc,ht']
   have hR:encR r first=[]:=by simp[encR,hE]
   rw[hE,hR]
   have hq:first < 0∨1125899906842624 < first:=by
    have:¬(0<=first/\first<=1125899906842624):=fun c=>ht ((bZ first).2 c)
    omega
   obtain⟨hk,k,hv,v,t,o⟩:=r
   simp only[Rc.cells] at HC ⊢
   clear hE hR hc ht ht'
   rcases hq with hq | hq
   ·go_enter Tryz.func94,Tryz.ntmps94
    go_wp2_with (go_at_call 93;refine(HC.out _).mono ?_;rintro e w1 ⟨rfl,hb1⟩)
    go_ret2
    exact⟨_,rfl,World.ownsRow_nil _ _ _ _,(aA _).trans (hb1.mono (by simp))⟩
   ·have hq2:¬first < 0:=by omega
    go_enter Tryz.func94,Tryz.ntmps94
    go_wp2_with (go_at_call 93;refine(HC.out _).mono ?_;rintro e w1 ⟨rfl,hb1⟩)
    go_ret2
    exact⟨_,rfl,World.ownsRow_nil _ _ _ _,(aA _).trans (hb1.mono (by simp))⟩
 ·have hE:encE r first=chk r:=by simp[encE,hc]
  have hR:encR r first=[]:=by simp[encR,hE,hc]
  rw[hE,hR]
  have hne:(chk r != 0)=true:=by simpa using hc
  obtain⟨hk,k,hv,v,t,o⟩:=r
  generalize chk ⟨hk,k,hv,v,t,o⟩=c at *
  simp only[Rc.cells] at HC ⊢
  clear hE hR hc
  go_enter Tryz.func94,Tryz.ntmps94
  go_wp2_with (go_at_call 93;refine(HC.out _).mono ?_;rintro e w1 ⟨rfl,hb1⟩)
  go_ret2
  exact⟨_,rfl,World.ownsRow_nil _ _ _ _,(aA _).trans (hb1.mono (by simp))⟩
theorem and1 (c:Nat) (h:c < 4294967296):bits .and .u32 (c:Int) 1=((c % 2:Nat):Int):=by
 have:=u32_and_nat c 1 h (by decide)
 rw[nat_mask1] at this
 exact this
theorem aFb (c:Nat) (h:c < 4294967296) (h1:c % 2=1):bits .xor .u32 ((c:Int) / 2) 2197175160=((P.sh c:Nat):Int):=by
 have:=u32_xor_nat (c / 2) 2197175160 (by omega) (by decide)
 rw[P.sh,if_pos h1,<-this]
 rfl
theorem aHe (c:Nat) (h1:c % 2=0):(c:Int) / 2=((P.sh c:Nat):Int):=by
 rw[P.sh,if_neg (by omega)]
 rfl
theorem yD (c x:Nat) (w:World) (hc:c < 4294967296) (hx:x < 256) :
 Calls Tryz.prog 108 #[.int .u32 c,.int .u8 x] w fun e w'=>e=.returned (.int .u32 ((P.stp c x:Nat):Int))/\w'=w:=by
 obtain⟨out,HO⟩:∃out,Hid (P.stp c x=out):=⟨_,rfl⟩
 rw[HO.out]
 have hX:=tS c x hc (by omega)
 have hXl:=gD hc (show x < 4294967296 by omega)
 have HS:Hid (P.shN 8 (c ^^^ x)=out):=HO
 generalize c ^^^ x=d at *
 clear HO
 go_enter Tryz.func108,Tryz.ntmps108
 go_wp2
 go_loop [0,5] (fun v i=>∃(k C:Nat),k<=8/\v=.int .u32 C/\i=.int .i64 k/\C < 4294967296/\P.shN (8 - k) C=out) (fun _ i=>8 - (intOf i).toNat)
 case atStart=>exact⟨0,d,by omega,rfl,rfl,hXl,HS.out⟩
 case round=>
  obtain⟨k,C,hk,rfl,rfl,hC,hs⟩:=hrel
  by_cases hlt:k < 8
  ·have HN:Hid (P.shN (8 - (k+1)) (P.sh C)=out):=by
    show _=_
    rw[<-hs,show 8 - k=(8 - (k+1))+1 by omega]
    rfl
   have hl2:=P.sh_lt C hC
   have h1:=and1 C hC
   have hkI:(k:Int) < 8:=by omega
   clear hs
   rcases Nat.mod_two_eq_zero_or_one C with hp | hp
   ·have hv:=aHe C hp
    rw[hp] at h1
    generalize P.sh C=D at *
    go_wp2
    exact⟨⟨k+1,D,by omega,by go_num,by go_num,hl2,HN.out⟩,by simp[intOf];omega⟩
   ·have hv:=aFb C hC hp
    rw[hp] at h1
    generalize P.sh C=D at *
    go_wp2
    exact⟨⟨k+1,D,by omega,by go_num,by go_num,hl2,HN.out⟩,by simp[intOf];omega⟩
  ·obtain rfl:k=8:=by omega
   have HN:Hid (C=out):=hs
   clear hs
   go_wp2
   go_ret
   exact⟨cN (by rw[HN.out]),rfl⟩
theorem vS (c:Nat) (a:Option Addr) (cap:Nat) (l:List Nat) (w:World) (hc:c < 4294967296) (hr:Row w a l) (hl:l.length<=maxLen) :
 Calls Tryz.prog 95 #[.int .u32 c,.slice a l.length cap] w fun e w'=>e=.returned (.int .u32 ((P.more c l:Nat):Int))/\w'=w:=by
 unfold maxLen at hl
 obtain⟨out,HO⟩:∃out,Hid (P.reg (P.ones ^^^ c) l=out):=⟨_,rfl⟩
 have HM:Hid (P.more c l=P.ones ^^^ out):=by show _=_;rw[P.more,HO.out]
 rw[HM.out]
 have ho:=kN c hc
 have hol:P.ones ^^^ c < 4294967296:=gD (by decide) hc
 generalize P.ones ^^^ c=d at *
 clear HM
 go_enter Tryz.func95,Tryz.ntmps95
 go_wp2
 go_loop [0,5] (fun v i=>∃(k C:Nat),k<=l.length/\v=.int .u32 C/\i=.int .i64 k/\C < 4294967296/\P.reg C (l.drop k)=out) (fun _ i=>l.length - (intOf i).toNat)
 case atStart=>exact⟨0,d,by omega,rfl,rfl,hol,by simpa using HO.out⟩
 case round=>
  obtain⟨k,C,hk,rfl,rfl,hC,hs⟩:=hrel
  by_cases hlt:k < l.length
  ·obtain⟨b,off,rfl,hcell,hx⟩:=hr k hlt
   rw[rV C l k hlt] at hs
   have hS:=P.stp_lt C _ hC hx
   have HS:Hid (P.reg (P.stp C (l.getD k 0)) (l.drop (k+1))=out):=hs
   have hltI:(k:Int) < (l.length:Int):=by omega
   clear hs hr
   generalize l.getD k 0=x at *
   obtain⟨D,HD⟩:∃D,Hid (P.stp C x=D):=⟨_,rfl⟩
   rw[HD.out] at HS hS
   go_wp2_with (go_at_call 108;refine(yD _ _ _ hC hx).mono ?_;rintro e w' ⟨rfl,rfl⟩;rw[HD.out])
   exact⟨⟨k+1,D,by omega,by go_num,by go_num,hS,HS.out⟩,by simp[intOf];omega⟩
  ·obtain rfl:k=l.length:=by omega
   have HN:Hid (C=out):=by show _=_;rw[<-hs,List.drop_length];rfl
   have h2:=kN C hC
   clear hs hr
   go_wp2
   go_ret
   exact⟨cN (by rw[HN.out]),rfl⟩
theorem qY (a:Option Addr) (cap:Nat) (l:List Nat) (w:World) (hr:Row w a l) (hl:l.length<=maxLen) :
 Calls Tryz.prog 81 #[.slice a l.length cap] w fun e w'=>e=.returned (.int .u32 ((P.sum l:Nat):Int))/\w'=w:=by
 go_enter Tryz.func81,Tryz.ntmps81
 go_wp2_with (go_at_call 95;refine(vS 0 _ _ _ _ (by decide) hr hl).mono ?_;rintro e w' ⟨rfl,rfl⟩)
 go_ret
 exact⟨rfl,rfl⟩
theorem zX (n V k:Nat) (h:k < n):(lay n V).take (k+1)=(lay n V).take k++[V / 256 ^ (n - 1 - k) % 256]:=by
 rw[List.take_succ_eq_append_getElem (by rw[aP];exact h)]
 simp[lay]
theorem fS (v:Value) (l:List Nat) (n V:Nat) (w w0:World) (B:Nat) (hown:w.ownsRow B 5 1 v l.length (cv l)) (hB:Below B w0 w) (hB0:B<=w0.heap.size) (hl:l.length<=1000) (hn:n<=8) (hV:V<=18446744073709551615) :
 Calls Tryz.prog 35 #[v,.int .i64 n,.int .u64 V] w fun e w'=>∃v',e=.returned v'/\w'.ownsRow B 5 1 v' (l++lay n V).length (cv (l++lay n V))/\Below B w0 w':=by
 obtain⟨i0,hi,hz0,hz1,hz2⟩:=info_parts Tryz.info5
 obtain⟨F,HF⟩:∃F:Nat->List Nat,Hid (∀k,l++(lay n V).take k=F k):=⟨_,fun _=>rfl⟩
 have HS:Hid (∀k,k < n->F (k+1)=F k++[V / 256 ^ (n - 1 - k) % 256]):=fun k hk=>by rw[<-HF.out,<-HF.out,zX n V k hk,List.append_assoc]
 have HF0:Hid (F 0=l):=by show _=_;rw[<-HF.out];simp
 have HFn:Hid (F n=l++lay n V):=by show _=_;rw[<-HF.out,List.take_of_length_le (by rw[aP];omega)]
 have HFl:Hid (∀k,k<=n->(F k).length<=1100):=fun k hk=>by rw[<-HF.out,List.length_append,List.length_take];omega
 rw[<-HFn.out]
 go_enter Tryz.func35,Tryz.ntmps35
 go_wp2_with fail
 go_loopw [0,7] (fun p i wr=>∃k:Nat,k<=n/\i=.int .i64 ((n:Int) - 1 - k)/\wr.ownsRow B 5 1 p (F k).length (cv (F k))/\Below B w0 wr) (fun _ i _=>(intOf i+1).toNat)
 case atStart=>exact⟨0,by omega,by go_num,by rw[HF0.out];exact hown,hB⟩
 case round=>
  clear hown hB
  obtain⟨k,hk,rfl,hown,hB⟩:=hrel
  have hBs:B<=wr.heap.size:=Nat.le_trans hB0 hB.size
  by_cases hlt:k < n
  ·have HL:Hid (F (k+1)=F k++[V / 256 ^ (n - 1 - k) % 256]):=HS.out k hlt
   have hfl:=HFl.out k hk
   obtain⟨j,HJ⟩:∃j,Hid (n - 1 - k=j):=⟨_,rfl⟩
   have hj:(n:Int) - 1 - k=(j:Int):=by have:=HJ.out;omega
   have hj8:j < 8:=by have:=HJ.out;omega
   have hjn:j < n:=by have:=HJ.out;omega
   rw[HJ.out] at HL
   rw[hj]
   have x1:IntKind.i64.wrap (8 * (j:Int))=8 * (j:Int):=by rw[IntKind.wrap_i64];omega
   have x3:(0:Int)<=8 * (j:Int):=by omega
   have x4:8 * (j:Int)<=64:=by omega
   have x5:(8 * (j:Int)).toNat=8 * j:=by omega
   have hby:=byte_at V j
   have x8:IntKind.u8.wrap ((V:Int) / 2 ^ (8 * j))=((V / 256 ^ j % 256:Nat):Int):=by rw[IntKind.wrap_u8,hby]
   have HJI:Hid ((n:Int) - 1 - ((k+1:Nat):Int)=(j:Int) - 1):=by have:=HJ.out;show _=_;omega
   clear hby hj
   generalize V / 256 ^ j % 256=d at *
   go_wp2_with (at_builtin;refine wpList_append_own _ rfl _ _ 22 rfl B 5 i0 (.int .u8 0) 1 1 Tryz.underlying22 hi hz0 hz1 hz2 rfl (by decide) _ _ _ rfl (hown.alloc _) ⟨wr.heap.size,0,none⟩ 1 1 (cv [d]) rfl rfl (one_cell rfl) (eF _) (by unfold maxLen;omega) (by omega) (by simp;omega) ?_;intro v2 w2 hown2 hg2 hq;obtain⟨hR,hB2⟩:=iN hown hB hBs hown2 hg2;have hBs2:=hB2.size;clear hown2 hg2 hq)
   exact⟨⟨k+1,by omega,by rw[HJI.out],by rw[HL.out];exact hR,hB2⟩,by simp[intOf]⟩
  ·obtain rfl:k=n:=by omega
   have hlt2:¬(0:Int)<=(k:Int) - 1 - k:=by omega
   go_wp2_with fail
   go_ret
   exact⟨_,rfl,hown,hB⟩
theorem aBk {r:Rc} {first:Int} (hc:chk r=0) (hf:timeB first=true):Enc 94 r first:=fun w=>by
 have hE:encE r first=0:=by simp[encE,hc,hf]
 have hR:encR r first=encL r first:=by simp[encR,hE]
 refine(qO r first w).mono ?_
 rintro e w' ⟨v,rfl,hown,hb⟩
 rw[hR] at hown
 obtain⟨a,c,rfl,hr,hn⟩:=bQ hown (oR r first hc hf)
 exact⟨a,c,by rw[hE],hr,hn,hb⟩
structure PnS (w0:World) (P:Nat) (w:World) (st:Ls) (N:Nat):Prop where
 ex:∃v l,w.heap[P]? = some (.cells #[v,.bool st.isNone] 99 (0,0))/\w.ownsRow w0.heap.size 5 1 v l.length (cv l)/\Byt l/\l.length<=N/\∀L,st=some L->l=L
 bel:Below w0.heap.size w0 w
 low:w0.heap.size<=P
theorem PnS.below {w0 w w':World} {P:Nat} {st:Ls} {N:Nat} (h:PnS w0 P w st N) (hb:Below w.heap.size w w'):PnS w0 P w' st N:=by
 obtain⟨v,l,hx,ho,r⟩:=h.ex
 exact⟨⟨v,l,(hb.block _ (Array.getElem?_eq_some_iff.1 hx).1).trans hx,bY ho hb,r⟩,h.bel.trans (hb.mono h.bel.size),h.low⟩
theorem PnS.mono {w0 w:World} {P:Nat} {st:Ls} {N M:Nat} (h:PnS w0 P w st N) (hm:N<=M):PnS w0 P w st M:=by
 obtain⟨v,l,hx,ho,hb,hl,hs⟩:=h.ex
 exact⟨⟨v,l,hx,ho,hb,Nat.le_trans hl hm,hs⟩,h.bel,h.low⟩
theorem PnS.setBad {w0 w:World} {P:Nat} {st:Ls} {N:Nat} (h:PnS w0 P w st N):PnS w0 P (w.setCell ⟨P,1,none⟩ (.bool true)) none N/\KeepT P w (w.setCell ⟨P,1,none⟩ (.bool true)):=by
 obtain⟨v,l,hx,ho,hbt,hl,hs⟩:=h.ex
 refine⟨⟨⟨v,l,?_,eX ho (dL ho hx (by decide)),hbt,hl,fun L e=>by cases e⟩,h.bel.setCell (p:=⟨P,1,none⟩) h.low _,h.low⟩,KeepT.setCell _ _ _ _⟩
 rw[aH hx]
 rfl
theorem PnS.app {w0 w w1:World} {P:Nat} {st:Ls} {N M:Nat} {v v':Value} {l m:List Nat} (hx:w.heap[P]? = some (.cells #[v,.bool st.isNone] 99 (0,0))) (hbt:Byt l) (hl:l.length<=N) (hs:∀L,st=some L->l=L)
 (low:w0.heap.size<=P) (ho':w1.ownsRow w0.heap.size 5 1 v' (l++m).length (cv (l++m))) (b1:Below w0.heap.size w0 w1) (hk:∀B',KeepT B' w w1) (hm:Byt m) (hM:N+m.length<=M):PnS w0 P (w1.setCell ⟨P,0,none⟩ v') (oa st (some m)) M/\KeepT P w (w1.setCell ⟨P,0,none⟩ v'):=by
 have hx1:w1.heap[P]? = some (.cells #[v,.bool st.isNone] 99 (0,0)):=(hk (P+1)).blk P _ (by omega) hx (aHp (by decide))
 refine⟨⟨⟨v',l++m,?_,eX ho' (dL ho' hx1 (by decide)),hbt.app hm,by rw[List.length_append];omega,?_⟩,b1.setCell (p:=⟨P,0,none⟩) low _,low⟩,(hk P).trans (KeepT.setCell _ _ _ _)⟩
 ·rw[aH hx1]
  cases st<;>rfl
 ·intro L e
  obtain⟨x,y,e1,e2,rfl⟩:=cB e
  rw[hs x e1]
  injection e2 with e2
  rw[e2]
theorem PnS.open {w0 w:World} {P:Nat} {st:Ls} {N:Nat} (h:PnS w0 P w st N):∃a l c,w.cell? ⟨P,0,none⟩=some (.slice a l.length c)/\w.cell? ⟨P,1,none⟩=some (.bool st.isNone)/\w.frozen? ⟨P,0,none⟩=false/\w.frozen? ⟨P,1,none⟩=false/\
 w.heap[P]? = some (.cells #[.slice a l.length c,.bool st.isNone] 99 (0,0))/\w.ownsRow w0.heap.size 5 1 (.slice a l.length c) l.length (cv l)/\Byt l/\l.length<=N/\∀L,st=some L->l=L:=by
 obtain⟨v,l,hx,ho,hbt,hl,hs⟩:=h.ex
 obtain⟨a,c,rfl⟩:=cE ho
 exact⟨a,l,c,(aB hx 0).1,(aB hx 1).1,(aB hx 0).2,(aB hx 1).2,hx,ho,hbt,hl,hs⟩
def PL (w0:World) (P:Nat) (w:World) (st:Ls) (N:Nat) (e:Ending) (w':World):Prop:=∃a' k' c',e=.returned (.slice a' k' c')/\(∀B',KeepT B' w w')/\PnS w0 P (w'.setCell ⟨P,0,none⟩ (.slice a' k' c')) st N
end Go.Proofs.YtaooidckmepdeaaGreatDoor
