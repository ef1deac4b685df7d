/- Pg Yf Yg Fl Dp Rk Rx Ry Rq -/
import Derived.Test.YtaooidckmepdeaaGreatDoorSkh
import Derived.Deep.CutRange
import Derived.Deep.RegionHeld3
namespace Go.Proofs.YtaooidckmepdeaaGreatDoor
set_option linter.unusedSimpArgs false
set_option linter.unusedVariables false
set_option maxRecDepth 100000
set_option maxHeartbeats 6400000
open Go.RowKit
def gbl (k i:Int) (T:Nat->ByteArray) (M:Nat->Int) (c:Bool) (s0 s1 s2 s3:Value):List Value:=
 Value.int .i64 k::Value.int .i64 i::((List.range 2).map (fun f=>Value.string (T f))++((List.range 20).map (fun f=>Value.int .i64 (M f))++[.bool c,s0,s1,s2,s3]))
def gbc (k i:Int) (T:Nat->ByteArray) (M:Nat->Int) (c:Bool) (s0 s1 s2 s3:Value):Array Value:=(gbl k i T M c s0 s1 s2 s3).toArray
section
variable (k i:Int) (T:Nat->ByteArray) (M:Nat->Int) (c:Bool) (s0 s1 s2 s3:Value)
theorem bP:(gbc k i T M c s0 s1 s2 s3).size=29:=by simp[gbc,gbl]
theorem eU:(gbc k i T M c s0 s1 s2 s3)[0]? = some (.int .i64 k)/\(gbc k i T M c s0 s1 s2 s3)[1]? = some (.int .i64 i):=⟨rfl,rfl⟩
theorem aE0 (f:Nat) (h:f < 2):(gbc k i T M c s0 s1 s2 s3)[2+f]? = some (.string (T f)):=by
 rcases(show f=0∨f=1 by omega) with rfl | rfl<;>rfl
theorem dV (f:Nat) (h:f < 20):(gbc k i T M c s0 s1 s2 s3)[4+f]? = some (.int .i64 (M f)):=by
 unfold gbc gbl
 rw[List.getElem?_toArray,show 4+f=(f+2)+2 by omega,List.getElem?_cons_succ,List.getElem?_cons_succ,List.getElem?_append_right (by simp),List.getElem?_append_left (by simp;omega)]
 simp[h]
theorem fU:(gbc k i T M c s0 s1 s2 s3)[24]? = some (.bool c)/\(gbc k i T M c s0 s1 s2 s3)[25]? = some s0/\(gbc k i T M c s0 s1 s2 s3)[26]? = some s1/\(gbc k i T M c s0 s1 s2 s3)[27]? = some s2/\(gbc k i T M c s0 s1 s2 s3)[28]? = some s3:=⟨rfl,rfl,rfl,rfl,rfl⟩
theorem aAx (f:Nat) (s:ByteArray) (h:f < 2):(gbc k i T M c s0 s1 s2 s3).setIfInBounds (2+f) (.string s)=gbc k i (fun g=>if g=f then s else T g) M c s0 s1 s2 s3:=by
 rcases(show f=0∨f=1 by omega) with rfl | rfl<;>rfl
theorem aAz (f:Nat) (x:Int) (h:f < 20):(gbc k i T M c s0 s1 s2 s3).setIfInBounds (4+f) (.int .i64 x)=gbc k i T (fun g=>if g=f then x else M g) c s0 s1 s2 s3:=by
 unfold gbc gbl
 rw[List.setIfInBounds_toArray,show 4+f=(f+2)+2 by omega,List.set_cons_succ,List.set_cons_succ,List.set_append_right _ _ (by simp),List.set_append_left _ _ (by simp;omega)]
 congr 3
 congr 1
 congr 1
 rw[show f+2 - ((List.range 2).map (fun f=>Value.string (T f))).length=f by simp,map_set 20 f _ _ h]
 apply List.map_congr_left
 intro g _
 by_cases e:g=f<;>simp[e]
theorem aAf (x:Bool):(gbc k i T M c s0 s1 s2 s3).setIfInBounds 24 (.bool x)=gbc k i T M x s0 s1 s2 s3:=rfl
theorem yW (x:Value):(gbc k i T M c s0 s1 s2 s3).setIfInBounds 25 x=gbc k i T M c x s1 s2 s3:=rfl
theorem fB (a0 a1 a2 a3:Option Addr) (n0 n1 n2 n3 k0 k1 k2 k3:Nat):(gbc k i T M c (.slice a0 n0 k0) (.slice a1 n1 k1) (.slice a2 n2 k2) (.slice a3 n3 k3)).all (·.oneCell')=true:=by
 simp[gbc,gbl,List.range,List.range.loop,Value.oneCell']
end
theorem Tryz.info73:(Tryz.prog.info? 73).map (·.size)=some 29:=by kernel_rfl
def zbg:Array Value:=gbc 0 0 (fun _=>⟨#[]⟩) (fun _=>0) false (.slice none 0 0) (.slice none 0 0) (.slice none 0 0) (.slice none 0 0)
structure BG (w:World) (t:TypeId) (Z rcs cs:Array Value) (x:World):Prop where
 r:x.heap[w.heap.size]? = some (.cells rcs t (0,0))
 o:x.heap[w.heap.size+1]? = some (.cells Z 73 (0,0))
 b:x.heap[w.heap.size+2]? = some (.cells cs 73 (0,0))
 sz:cs.size=29
 bel:Below w.heap.size w x
theorem BG.put {w x:World} {t:TypeId} {Z rcs cs:Array Value} (h:BG w t Z rcs cs x) (i:Nat) (v:Value):BG w t Z rcs (cs.setIfInBounds i v) (x.setCell ⟨w.heap.size+2,i,none⟩ v):=by
 refine⟨?_,?_,?_,by simpa using h.sz,h.bel.setCell (p:=⟨w.heap.size+2,i,none⟩) (by simp) _⟩
 ·rw[heap_setCell_other x ⟨w.heap.size+2,i,none⟩ w.heap.size v (by simp)]
  exact h.r
 ·rw[heap_setCell_other x ⟨w.heap.size+2,i,none⟩ (w.heap.size+1) v (by simp)]
  exact h.o
 ·rw[aH h.b]
theorem cI (x:World):(Instr.alloc 73 true (.tuple #[])).run Tryz.prog x=.ok (.pointer (some ⟨x.heap.size,0,none⟩)) (x.alloc (.cells zbg 73)):=by
 go_simp
 rfl
theorem fT {k i:Int} {T T':Nat->ByteArray} {M M':Nat->Int} {c:Bool} {s0 s1 s2 s3:Value} (h1:∀f,f < 2->T f=T' f) (h2:∀f,f < 20->M f=M' f):gbc k i T M c s0 s1 s2 s3=gbc k i T' M' c s0 s1 s2 s3:=by
 unfold gbc gbl
 rw[show(List.range 2).map (fun f=>Value.string (T f))=(List.range 2).map (fun f=>Value.string (T' f)) from List.map_congr_left (fun f hf=>by rw[h1 f (by simpa using hf)]),show(List.range 20).map (fun f=>Value.int .i64 (M f))=(List.range 20).map (fun f=>Value.int .i64 (M' f)) from List.map_congr_left (fun f hf=>by rw[h2 f (by simpa using hf)])]
theorem BG.new (w:World) (t:TypeId) (rcs cs:Array Value) (h:cs.size=29):BG w t zbg rcs cs ((((w.alloc (.cells rcs t)).alloc (.cells zbg 73)).alloc (.cells zbg 73)).setRow (w.heap.size+2) cs):=by
 have e1:(w.alloc (.cells rcs t)).heap.size=w.heap.size+1:=by simp
 have e2:((w.alloc (.cells rcs t)).alloc (.cells zbg 73)).heap.size=w.heap.size+2:=by simp
 have b1:Below w.heap.size w (w.alloc (.cells rcs t)):=aA _
 have b2:Below (w.heap.size+1) (w.alloc (.cells rcs t)) ((w.alloc (.cells rcs t)).alloc (.cells zbg 73)):=by rw[<-e1];exact aA _
 have b3:Below (w.heap.size+2) ((w.alloc (.cells rcs t)).alloc (.cells zbg 73)) (((w.alloc (.cells rcs t)).alloc (.cells zbg 73)).alloc (.cells zbg 73)):=by rw[<-e2];exact aA _
 have h0:(((w.alloc (.cells rcs t)).alloc (.cells zbg 73)).alloc (.cells zbg 73)).heap[w.heap.size]? = some (.cells rcs t (0,0)):=by
  rw[b3.block _ (by omega),b2.block _ (by omega)];exact heap_alloc_new w _
 have h1:(((w.alloc (.cells rcs t)).alloc (.cells zbg 73)).alloc (.cells zbg 73)).heap[w.heap.size+1]? = some (.cells zbg 73 (0,0)):=by
  rw[b3.block _ (by omega)]
  have:=heap_alloc_new (w.alloc (.cells rcs t)) (.cells zbg 73)
  rw[e1] at this;exact this
 have h2:(((w.alloc (.cells rcs t)).alloc (.cells zbg 73)).alloc (.cells zbg 73)).heap[w.heap.size+2]? = some (.cells zbg 73 (0,0)):=by
  have:=heap_alloc_new ((w.alloc (.cells rcs t)).alloc (.cells zbg 73)) (.cells zbg 73)
  rw[e2] at this;exact this
 refine⟨?_,?_,setRow_heap _ _ _ _ _ _ h2,h,below_setRow (b1.trans ((b2.mono (by omega)).trans (b3.mono (by omega)))) (by omega) _⟩
 ·rw[setRow_other _ _ _ _ (by omega)];exact h0
 ·rw[setRow_other _ _ _ _ (by omega)];exact h1
theorem aM {t:TypeId} {ZB:Array Value} {ops:Array Oper} {rest:List Oper} {o:Oper} {a:Act} {w:World} {Q:Exit->Act->World->Prop} (hz:∀x:World,(Instr.alloc t true (.tuple #[])).run Tryz.prog x=.ok (.pointer (some ⟨x.heap.size,0,none⟩)) (x.alloc (.cells ZB t))) (hg:o.guard=none) (ho:o.op=.alloc t) (g:Nat) (hgz:w.heap.size=g)
 (h:wpList Tryz.prog ops Q rest (a.put o.dst (.pointer (some ⟨g,0,none⟩))) (w.alloc (.cells ZB t))):wpList Tryz.prog ops Q (o::rest) a w:=by
 subst hgz
 refine wpList_plain hg fun K hK=>?_
 unfold Oper.wp execOp
 simp only[ho,Sem.run_bind,Sem.run_pure,Result.andThen_ok,hz]
 exact hK _ _ h
theorem aL {t:TypeId} {CS:Array Value} {ops:Array Oper} {rest:List Oper} {o:Oper} {a:Act} {w:World} {Q:Exit->Act->World->Prop} {parts:Array (Nat × Operand)} {vs:Array (Nat × Value)} (hb:∀x:World,(Instr.build t vs).run Tryz.prog x=.ok (.agg CS) x) (hg:o.guard=none) (ho:o.op=.build t parts) (he:(parts.toList.map fun(i,x)=>(i,a.eval x))=vs.toList)
 (h:wpList Tryz.prog ops Q rest (a.put o.dst (.agg CS)) w):wpList Tryz.prog ops Q (o::rest) a w:=by
 have he':(parts.map fun(i,x)=>(i,a.eval x))=vs:=by
  apply Array.ext'
  rw[Array.toList_map]
  exact he
 refine wpList_plain hg fun K hK=>?_
 unfold Oper.wp execOp
 simp only[ho,he',Sem.run_bind,Sem.run_pure,Result.andThen_ok,hb]
 exact hK _ _ h
theorem KeepX.b {B X:Nat} {w w1 w2:World} (h:KeepX B X w w1) (k:KeepB B w1 w2):KeepX B X w w2:=h.trans (KeepX.of k)
theorem KeepX.setX {B X off:Nat} {w w1:World} {v:Value} (h:KeepX B X w w1):KeepX B X w (w1.setCell ⟨X,off,none⟩ v):=h.trans (KeepX.put (KeepB.refl _ _))
structure FP (w0:World) (a:Option Addr) (cap:Nat) (l:List Nat) (w:World) (X:Nat) (CS:Array Value) (st:Ls) (e:Ending) (w':World):Prop where
 ret:e=.returned (.tuple #[])
 ey:EyR w0 a cap l w' st
 box:w'.heap[X]? = some (.cells CS 73 (0,0))
 keep:KeepX w0.heap.size X w w'
theorem FP.of {w0 w x:World} {a:Option Addr} {cap:Nat} {l:List Nat} {st:Ls} {X off:Nat} {cs:Array Value} {v:Value} (hX:w0.heap.size < X) (hx:x.heap[X]? = some (.cells cs 73 (0,0))) (he:EyR w0 a cap l x st) (hk:KeepB w0.heap.size w x):FP w0 a cap l w X (cs.setIfInBounds off v) st (.returned (.tuple #[])) (x.setCell ⟨X,off,none⟩ v):=
 ⟨rfl,he.off hX,aH hx off v,(KeepX.of hk).setX⟩
theorem dI {x:World} {X:Nat} {cs:Array Value} (hx:x.heap[X]? = some (.cells cs 73 (0,0))) (hs:cs.size=29) (j:Nat) (hj:j < 29):(∃u,x.cell? ⟨X,j,none⟩=some u)/\x.frozen? ⟨X,j,none⟩=false:=
 ⟨⟨_,by rw[(aB hx j).1];exact Array.getElem?_eq_getElem (by omega)⟩,(aB hx j).2⟩
theorem aC5 (w0 w:World) (a:Option Addr) (cap:Nat) (l:List Nat) (st:Ls) (f:Nat) (hf:f < 2) (C:EyC w0 a cap l) (X:Nat) (cs:Array Value) (hcs:cs.size=29) (hX:w0.heap.size < X) (hx:w.heap[X]? = some (.cells cs 73 (0,0))) (h:EyR w0 a cap l w st) :
 Calls Tryz.prog 24 #[(.pointer (some ⟨w0.heap.size,0,none⟩)),.agg #[.int .i64 1,.int .i64 (f:Int)],(.pointer (some ⟨X,0,none⟩))] w (FP w0 a cap l w X (cs.setIfInBounds (2+f) (.string (gT st).1)) (gT st).2):=by
 have HB:Hid ((w.alloc (.cells #[.int .i64 1,.int .i64 (f:Int)] 78)).heap[w.heap.size]? = some (.cells #[.int .i64 1,.int .i64 (f:Int)] 78 (0,0))):=heap_alloc_new w _
 have HBL:Hid (Below w.heap.size w (w.alloc (.cells #[.int .i64 1,.int .i64 (f:Int)] 78))):=aA _
 have HE:Hid (EyR w0 a cap l (w.alloc (.cells #[.int .i64 1,.int .i64 (f:Int)] 78)) st):=h.below HBL.out
 have hXw:X < w.heap.size:=(Array.getElem?_eq_some_iff.1 hx).1
 have HX:Hid ((w.alloc (.cells #[.int .i64 1,.int .i64 (f:Int)] 78)).heap[X]? = some (.cells cs 73 (0,0))):=(HBL.out.block X hXw).trans hx
 have HZ:Hid (w0.heap.size < X/\X < w.heap.size/\w0.heap.size < w.heap.size):=⟨hX,hXw,h.lt⟩
 have b0:(w.alloc (.cells #[.int .i64 1,.int .i64 (f:Int)] 78)).cell? ⟨w.heap.size,0,none⟩=some (.int .i64 1):=(aB HB.out 0).1
 have b1:(w.alloc (.cells #[.int .i64 1,.int .i64 (f:Int)] 78)).cell? ⟨w.heap.size,1,none⟩=some (.int .i64 (f:Int)):=(aB HB.out 1).1
 have HBK:Hid (∀x,KeepB w0.heap.size (w.alloc (.cells #[.int .i64 1,.int .i64 (f:Int)] 78)) x->x.cell? ⟨w.heap.size,1,none⟩=some (.int .i64 (f:Int))):=fun x hx=>by rw[(aB (hx.box HB.out (by have:=HZ.out.2.2;omega)) 1).1];rfl
 have HXK:Hid (∀x,KeepB w0.heap.size (w.alloc (.cells #[.int .i64 1,.int .i64 (f:Int)] 78)) x->x.heap[X]? = some (.cells cs 73 (0,0))):=fun x hx=>hx.box HX.out (by have:=HZ.out.1;omega)
 have HCS:Hid (cs.size=29):=hcs
 have HC:Hid (Calls Tryz.prog 41 #[(.pointer (some ⟨w0.heap.size,0,none⟩))] (w.alloc (.cells #[.int .i64 1,.int .i64 (f:Int)] 78)).drew (EP w0 a cap l (w.alloc (.cells #[.int .i64 1,.int .i64 (f:Int)] 78)).drew (.string (gT st).1) (gT st).2)):=kZ w0 _ a cap l st C (HE.out.below (aT _))
 generalize (gT st).1=tv at *
 generalize (gT st).2=s5 at *
 have hfI:(f:Int) < 2:=by omega
 clear h hx hcs C HE
 go_enter Tryz.func24,Tryz.ntmps24
 go_wp2_with fail
 have hS0:(w.alloc (.cells #[.int .i64 1,.int .i64 (f:Int)] 78)).drew.cell? ⟨w.heap.size,1,none⟩=some (.int .i64 (f:Int)):=b1
 clear b0 b1
 refine aD (fun y:World=>y.cell? ⟨w.heap.size,1,none⟩=some (.int .i64 (f:Int))) 8 (by kernel_rfl) hS0 (fun hHeld=>?_)
 refine lD 0 ?_
 try simp only[Act.put,sP]
 refine lD 1 ?_
 try simp only[Act.put,sP]
 refine lD 2 ?_
 try simp only[Act.put,sP]
 refine lD 3 ?_
 try simp only[Act.put,sP]
 refine lD 5 ?_
 try simp only[Act.put,sP]
 refine lD 6 ?_
 try simp only[Act.put,sP]
 refine lo 4 fun K hK=>?_
 go_simp
 refine Calls.mono HC.out ?_
 rintro e w5 ⟨rfl,hw5,hk5⟩
 have hk6:KeepB w0.heap.size (w.alloc (.cells #[.int .i64 1,.int .i64 (f:Int)] 78)) w5:=(KeepB.of_below (aT _)).trans hk5
 have HF:Hid _:=FP.of (off:=2+f) (v:=(.string tv)) HZ.out.1 (HXK.out w5 hk6) hw5 ((KeepB.of_below HBL.out).trans hk6)
 obtain⟨⟨u9,c9⟩,f9⟩:=dI (HXK.out w5 hk6) HCS.out (2+f) (by omega)
 have hS5:=HBK.out w5 hk6
 clear hw5 hk5 hk6
 try dsimp only
 refine hK.out _ _ hS5 (fun hH2=>?_)
 clear hK
 try simp only[Act.put,sP]
 refine lD 7 ?_
 try simp only[Act.put,sP]
 refine ll 8 fun K hK=>?_
 go_simp
 try dsimp only
 refine hK.out _ _ ?_
 clear hK
 try simp only[Act.put,sP]
 go_wp2_with fail
 go_end0
 exact HF.out
theorem aGz (w0 w:World) (a:Option Addr) (cap:Nat) (l:List Nat) (st:Ls) (f:Nat) (hf:f < 20) (C:EyC w0 a cap l) (X:Nat) (cs:Array Value) (hcs:cs.size=29) (hX:w0.heap.size < X) (hx:w.heap[X]? = some (.cells cs 73 (0,0))) (h:EyR w0 a cap l w st) :
 Calls Tryz.prog 24 #[(.pointer (some ⟨w0.heap.size,0,none⟩)),.agg #[.int .i64 2,.int .i64 (f:Int)],(.pointer (some ⟨X,0,none⟩))] w (FP w0 a cap l w X (cs.setIfInBounds (4+f) (.int .i64 (gI st).1)) (gI st).2):=by
 have HB:Hid ((w.alloc (.cells #[.int .i64 2,.int .i64 (f:Int)] 78)).heap[w.heap.size]? = some (.cells #[.int .i64 2,.int .i64 (f:Int)] 78 (0,0))):=heap_alloc_new w _
 have HBL:Hid (Below w.heap.size w (w.alloc (.cells #[.int .i64 2,.int .i64 (f:Int)] 78))):=aA _
 have HE:Hid (EyR w0 a cap l (w.alloc (.cells #[.int .i64 2,.int .i64 (f:Int)] 78)) st):=h.below HBL.out
 have hXw:X < w.heap.size:=(Array.getElem?_eq_some_iff.1 hx).1
 have HX:Hid ((w.alloc (.cells #[.int .i64 2,.int .i64 (f:Int)] 78)).heap[X]? = some (.cells cs 73 (0,0))):=(HBL.out.block X hXw).trans hx
 have HZ:Hid (w0.heap.size < X/\X < w.heap.size/\w0.heap.size < w.heap.size):=⟨hX,hXw,h.lt⟩
 have b0:(w.alloc (.cells #[.int .i64 2,.int .i64 (f:Int)] 78)).cell? ⟨w.heap.size,0,none⟩=some (.int .i64 2):=(aB HB.out 0).1
 have b1:(w.alloc (.cells #[.int .i64 2,.int .i64 (f:Int)] 78)).cell? ⟨w.heap.size,1,none⟩=some (.int .i64 (f:Int)):=(aB HB.out 1).1
 have HBK:Hid (∀x,KeepB w0.heap.size (w.alloc (.cells #[.int .i64 2,.int .i64 (f:Int)] 78)) x->x.cell? ⟨w.heap.size,1,none⟩=some (.int .i64 (f:Int))):=fun x hx=>by rw[(aB (hx.box HB.out (by have:=HZ.out.2.2;omega)) 1).1];rfl
 have HXK:Hid (∀x,KeepB w0.heap.size (w.alloc (.cells #[.int .i64 2,.int .i64 (f:Int)] 78)) x->x.heap[X]? = some (.cells cs 73 (0,0))):=fun x hx=>hx.box HX.out (by have:=HZ.out.1;omega)
 have HCS:Hid (cs.size=29):=hcs
 have HC:Hid (Calls Tryz.prog 22 #[(.pointer (some ⟨w0.heap.size,0,none⟩)),.int .i64 8] (w.alloc (.cells #[.int .i64 2,.int .i64 (f:Int)] 78)).drew (EP w0 a cap l (w.alloc (.cells #[.int .i64 2,.int .i64 (f:Int)] 78)).drew (.int .u64 ((gN 8 st).1:Nat)) (gI st).2)):=aR w0 _ a cap l st 8 8 rfl (by decide) (by decide) C (HE.out.below (aT _))
 have e8:IntKind.i64.wrap ((gN 8 st).1:Int)=(gI st).1:=by
  have hlt:(gN 8 st).1 < 18446744073709551616:=bL 8 st (EyR.byt C h)
  show IntKind.i64.wrap _=iv _
  rw[IntKind.wrap_i64]
  unfold iv
  split<;>omega
 generalize (gN 8 st).1=V8 at *
 generalize (gI st).1=tv at *
 generalize (gI st).2=s5 at *
 have hfI:(f:Int) < 20:=by omega
 clear h hx hcs C HE
 go_enter Tryz.func24,Tryz.ntmps24
 go_wp2_with fail
 have hS0:(w.alloc (.cells #[.int .i64 2,.int .i64 (f:Int)] 78)).drew.cell? ⟨w.heap.size,1,none⟩=some (.int .i64 (f:Int)):=b1
 clear b0 b1
 refine aD (fun y:World=>y.cell? ⟨w.heap.size,1,none⟩=some (.int .i64 (f:Int))) 9 (by kernel_rfl) hS0 (fun hHeld=>?_)
 refine lD 0 ?_
 try simp only[Act.put,sP]
 refine lD 1 ?_
 try simp only[Act.put,sP]
 refine lD 2 ?_
 try simp only[Act.put,sP]
 refine lD 3 ?_
 try simp only[Act.put,sP]
 refine lD 6 ?_
 try simp only[Act.put,sP]
 refine lD 7 ?_
 try simp only[Act.put,sP]
 refine lo 4 fun K hK=>?_
 go_simp
 refine Calls.mono HC.out ?_
 rintro e w5 ⟨rfl,hw5,hk5⟩
 have hk6:KeepB w0.heap.size (w.alloc (.cells #[.int .i64 2,.int .i64 (f:Int)] 78)) w5:=(KeepB.of_below (aT _)).trans hk5
 have HF:Hid _:=FP.of (off:=4+f) (v:=(.int .i64 tv)) HZ.out.1 (HXK.out w5 hk6) hw5 ((KeepB.of_below HBL.out).trans hk6)
 obtain⟨⟨u9,c9⟩,f9⟩:=dI (HXK.out w5 hk6) HCS.out (4+f) (by omega)
 have hS5:=HBK.out w5 hk6
 clear hw5 hk5 hk6
 try dsimp only
 refine hK.out _ _ hS5 (fun hH2=>?_)
 clear hK
 try simp only[Act.put,sP]
 refine lD 5 ?_
 try simp only[Act.put,sP]
 refine lD 8 ?_
 try simp only[Act.put,sP]
 refine ll 9 fun K hK=>?_
 go_simp
 try dsimp only
 refine hK.out _ _ ?_
 clear hK
 try simp only[Act.put,sP]
 go_wp2_with fail
 go_end0
 exact HF.out
theorem aBn (w0 w:World) (a:Option Addr) (cap:Nat) (l:List Nat) (st:Ls) (C:EyC w0 a cap l) (X:Nat) (cs:Array Value) (hcs:cs.size=29) (hX:w0.heap.size < X) (hx:w.heap[X]? = some (.cells cs 73 (0,0))) (h:EyR w0 a cap l w st) :
 Calls Tryz.prog 24 #[(.pointer (some ⟨w0.heap.size,0,none⟩)),.agg #[.int .i64 3,.int .i64 7],(.pointer (some ⟨X,0,none⟩))] w (fun e w'=>∃c,FP w0 a cap l w X (cs.setIfInBounds 24 (.bool c)) (gFlag st).2 e w'/\((gFlag st).2≠none->c=((gFlag st).1 == 1))):=by
 have HB:Hid ((w.alloc (.cells #[.int .i64 3,.int .i64 7] 78)).heap[w.heap.size]? = some (.cells #[.int .i64 3,.int .i64 7] 78 (0,0))):=heap_alloc_new w _
 have HBL:Hid (Below w.heap.size w (w.alloc (.cells #[.int .i64 3,.int .i64 7] 78))):=aA _
 have HE:Hid (EyR w0 a cap l (w.alloc (.cells #[.int .i64 3,.int .i64 7] 78)) st):=h.below HBL.out
 have hXw:X < w.heap.size:=(Array.getElem?_eq_some_iff.1 hx).1
 have HX:Hid ((w.alloc (.cells #[.int .i64 3,.int .i64 7] 78)).heap[X]? = some (.cells cs 73 (0,0))):=(HBL.out.block X hXw).trans hx
 have HZ:Hid (w0.heap.size < X/\X < w.heap.size/\w0.heap.size < w.heap.size):=⟨hX,hXw,h.lt⟩
 have b0:(w.alloc (.cells #[.int .i64 3,.int .i64 7] 78)).cell? ⟨w.heap.size,0,none⟩=some (.int .i64 3):=(aB HB.out 0).1
 have b1:(w.alloc (.cells #[.int .i64 3,.int .i64 7] 78)).cell? ⟨w.heap.size,1,none⟩=some (.int .i64 7):=(aB HB.out 1).1
 have HBK:Hid (∀x,KeepB w0.heap.size (w.alloc (.cells #[.int .i64 3,.int .i64 7] 78)) x->x.cell? ⟨w.heap.size,1,none⟩=some (.int .i64 7)):=fun x hx=>by rw[(aB (hx.box HB.out (by have:=HZ.out.2.2;omega)) 1).1];rfl
 have HXK:Hid (∀x,KeepB w0.heap.size (w.alloc (.cells #[.int .i64 3,.int .i64 7] 78)) x->x.heap[X]? = some (.cells cs 73 (0,0))):=fun x hx=>hx.box HX.out (by have:=HZ.out.1;omega)
 have HCS:Hid (cs.size=29):=hcs
 have HC:Hid (Calls Tryz.prog 22 #[(.pointer (some ⟨w0.heap.size,0,none⟩)),.int .i64 1] (w.alloc (.cells #[.int .i64 3,.int .i64 7] 78)) (EP w0 a cap l (w.alloc (.cells #[.int .i64 3,.int .i64 7] 78)) (.int .u64 ((gN 1 st).1:Nat)) (gN 1 st).2)):=aR w0 _ a cap l st 1 1 rfl (by decide) (by decide) C HE.out
 have HFG:Hid (gFlag st=((((gUp 1 1 st).1:Nat):Int),(gUp 1 1 st).2)):=rfl
 have HUP:Hid (gUp 1 1 st=if 1 < (gN 1 st).1 then (0,none) else gN 1 st):=rfl
 generalize gFlag st=FG at *
 generalize gUp 1 1 st=UP at *
 generalize gN 1 st=G1 at *
 obtain⟨V,s1⟩:=G1
 simp only at HC HUP
 clear h hx hcs C HE b1
 by_cases hbig:1 < V
 ·have hUP:UP=(0,none):=by rw[HUP.out,if_pos hbig]
  have hFG:FG=(0,none):=by rw[HFG.out,hUP];rfl
  subst hFG
  have hbI:(V:Int) > 1:=by omega
  have hne:((V:Int) == 1)=false:=by simp;omega
  go_enter Tryz.func24,Tryz.ntmps24
  go_wp2_with (go_at_call 22;refine Calls.mono HC.out ?_;rintro e w1 ⟨rfl,hw1,hk1⟩;obtain⟨I1,_,_,_,c0,c1,c2,f1,f2⟩:=hw1.open;have HF:Hid _:=FP.of (off:=24) (v:=.bool false) HZ.out.1 (hw1.bad.2.box (HXK.out w1 hk1) (by have:=HZ.out.1;omega)) hw1.bad.1 (((KeepB.of_below HBL.out).trans hk1).trans hw1.bad.2);obtain⟨⟨u9,c9⟩,f9⟩:=dI (HXK.out w1 hk1) HCS.out 24 (by omega);clear hw1 hk1)
  go_end0
  exact⟨false,HF.out,fun q=>absurd rfl q⟩
 ·have hUP:UP=(V,s1):=by rw[HUP.out,if_neg hbig]
  have hFG:FG=((V:Int),s1):=by rw[HFG.out,hUP]
  subst hFG
  have hbI:¬(V:Int) > 1:=by omega
  rcases(show V=0∨V=1 by omega) with rfl | rfl
  ·go_enter Tryz.func24,Tryz.ntmps24
   go_wp2_with (go_at_call 22;refine Calls.mono HC.out ?_;rintro e w1 ⟨rfl,hw1,hk1⟩;have HF:Hid _:=FP.of (off:=24) (v:=.bool false) HZ.out.1 (HXK.out w1 hk1) hw1 ((KeepB.of_below HBL.out).trans hk1);obtain⟨⟨u9,c9⟩,f9⟩:=dI (HXK.out w1 hk1) HCS.out 24 (by omega);clear hw1 hk1)
   go_end0
   exact⟨false,HF.out,fun q=>rfl⟩
  ·go_enter Tryz.func24,Tryz.ntmps24
   go_wp2_with (go_at_call 22;refine Calls.mono HC.out ?_;rintro e w1 ⟨rfl,hw1,hk1⟩;have HF:Hid _:=FP.of (off:=24) (v:=.bool true) HZ.out.1 (HXK.out w1 hk1) hw1 ((KeepB.of_below HBL.out).trans hk1);obtain⟨⟨u9,c9⟩,f9⟩:=dI (HXK.out w1 hk1) HCS.out 24 (by omega);clear hw1 hk1)
   go_end0
   exact⟨true,HF.out,fun q=>rfl⟩
theorem aD3 (w0 w:World) (a:Option Addr) (cap:Nat) (l:List Nat) (st:Ls) (C:EyC w0 a cap l) (X:Nat) (cs:Array Value) (hcs:cs.size=29) (hX:w0.heap.size < X) (hx:w.heap[X]? = some (.cells cs 73 (0,0))) (h:EyR w0 a cap l w st) :
 Calls Tryz.prog 24 #[(.pointer (some ⟨w0.heap.size,0,none⟩)),.agg #[.int .i64 4,.int .i64 11],(.pointer (some ⟨X,0,none⟩))] w (fun e w'=>∃a' c' A,FP w0 a cap l w X (cs.setIfInBounds 25 (.slice a' (A:List Rc).length c')) (gRow gRec st).2 e w'/\RRow w' a' A/\(∀g,a'=some g->w.heap.size<=g.block)/\((gRow gRec st).2≠none->A=(gRow gRec st).1)):=by
 have HB:Hid ((w.alloc (.cells #[.int .i64 4,.int .i64 11] 78)).heap[w.heap.size]? = some (.cells #[.int .i64 4,.int .i64 11] 78 (0,0))):=heap_alloc_new w _
 have HBL:Hid (Below w.heap.size w (w.alloc (.cells #[.int .i64 4,.int .i64 11] 78))):=aA _
 have HE:Hid (EyR w0 a cap l (w.alloc (.cells #[.int .i64 4,.int .i64 11] 78)) st):=h.below HBL.out
 have hXw:X < w.heap.size:=(Array.getElem?_eq_some_iff.1 hx).1
 have HX:Hid ((w.alloc (.cells #[.int .i64 4,.int .i64 11] 78)).heap[X]? = some (.cells cs 73 (0,0))):=(HBL.out.block X hXw).trans hx
 have HZ:Hid (w0.heap.size < X/\X < w.heap.size/\w0.heap.size < w.heap.size):=⟨hX,hXw,h.lt⟩
 have b0:(w.alloc (.cells #[.int .i64 4,.int .i64 11] 78)).cell? ⟨w.heap.size,0,none⟩=some (.int .i64 4):=(aB HB.out 0).1
 have b1:(w.alloc (.cells #[.int .i64 4,.int .i64 11] 78)).cell? ⟨w.heap.size,1,none⟩=some (.int .i64 11):=(aB HB.out 1).1
 have HBK:Hid (∀x,KeepB w0.heap.size (w.alloc (.cells #[.int .i64 4,.int .i64 11] 78)) x->x.cell? ⟨w.heap.size,1,none⟩=some (.int .i64 11)):=fun x hx=>by rw[(aB (hx.box HB.out (by have:=HZ.out.2.2;omega)) 1).1];rfl
 have HXK:Hid (∀x,KeepB w0.heap.size (w.alloc (.cells #[.int .i64 4,.int .i64 11] 78)) x->x.heap[X]? = some (.cells cs 73 (0,0))):=fun x hx=>hx.box HX.out (by have:=HZ.out.1;omega)
 have HCS:Hid (cs.size=29):=hcs
 have HC:Hid (Calls Tryz.prog 42 #[(.pointer (some ⟨w0.heap.size,0,none⟩))] (w.alloc (.cells #[.int .i64 4,.int .i64 11] 78)) (ErP w0 a cap l (w.alloc (.cells #[.int .i64 4,.int .i64 11] 78)) (gRow gRec st))):=wG w0 _ a cap l st C HE.out
 generalize gRow gRec st=R at *
 clear h hx hcs C HE b1
 go_enter Tryz.func24,Tryz.ntmps24
 go_wp2_with (go_at_call 42;refine Calls.mono HC.out ?_;rintro e w1 ⟨⟨a',c',A,rfl,hr1,hn1,hl1,hA1⟩,hw1,hk1⟩;have HF:Hid _:=FP.of (off:=25) (v:=.slice a' A.length c') HZ.out.1 (HXK.out w1 hk1) hw1 ((KeepB.of_below HBL.out).trans hk1);have HR1:Hid (RRow w1 a' A):=hr1;have HN1:Hid (∀g,a'=some g->w.heap.size<=g.block):=(fun g hg=>by have:=hn1 g hg;simp at this;omega);have HA1:Hid (R.2≠none->A=R.1):=hA1;obtain⟨⟨u9,c9⟩,f9⟩:=dI (HXK.out w1 hk1) HCS.out 25 (by omega);clear hw1 hk1 hr1 hn1 hl1 hA1)
 go_end0
 refine⟨a',c',A,HF.out,?_,HN1.out,HA1.out⟩
 refine bV HR1.out (fun i hi b off e=>heap_setCell_other w1 ⟨X,25,none⟩ b _ ?_)
 have:=HN1.out _ e
 have:=HZ.out.2.1
 show b≠X
 simp at *
 omega
theorem iL {w:World} {o:Oper} {a:Act} {K:Act->World->Prop} {Q:Exit->Act->World->Prop} (s x:Operand) (t e:TypeId)
 (ho:o.op=.call {callee:=.builtin .append,args:=#[s,x],argTypes:=#[t,t]}) (z:Value) (size bytes:Nat) (ht:Tryz.prog.underlying t=some (.slice e)) (hi:(Tryz.prog.info? e).map (fun i=>(i.zero,i.size,i.bytes))=some (some z,size,bytes))
 (hzs:z.cells.size=size) (hpos:0 < size) (hby:bytes<=100) (B:Nat) (v:Value) (n:Nat) (xs:List Value) (hs:a.eval s=v) (hown:w.ownsRow B e size v n xs) (hBs:B<=w.heap.size)
 (g:Nat) (news:List Value) (hx:a.eval x=.slice (some ⟨g,0,none⟩) 1 1) (hl:news.length=size) (hg:w.heap[g]? = some (.cells news.toArray e (0,0))) (hone:∀u ∈ news,u.oneCell'=true) (hn:n<=1000000)
 (h:∀v' w',w'.ownsRow B e size v' (n+1) (xs++news)->w.grownBy w' v.ownBlock->K (a.put o.dst v') w'):o.wp Tryz.prog a w K Q:=by
 obtain⟨i0,hi,hz0,hz1,hz2⟩:=info_parts hi
 refine wp_append_own w s x t ho B e i0 z size bytes ht hi hz0 hz1 hz2 hzs hpos v n xs hs hown ⟨g,0,none⟩ 1 1 news hx (by omega) ?_ hone (by unfold maxLen;omega) ?_ hBs ?_
 ·intro j u hj
  rw[Addr.add_lit,cell_of_row _ g (0+j) news.toArray e (0,0) hg]
  simpa using hj
 ·have:(n+1) * bytes<=1000001 * 100:=Nat.mul_le_mul (by omega) hby
  omega
 ·intro v' w' h2 h3 _
  exact h v' w' h2 h3
theorem gH {M X off:Nat} {w:World} {e:TypeId} {s:Nat} {v u:Value} {n:Nat} {xs:List Value} (h:w.ownsRow M e s v n xs) (hne:∀k,v.ownBlock=some k->k≠X):(w.setCell ⟨X,off,none⟩ u).ownsRow M e s v n xs:=by
 refine⟨h.1,?_⟩
 rcases h.2 with hn | ⟨g,cap,cur,rfl,hb,hg,rest⟩
 ·exact .inl hn
 ·exact .inr ⟨g,cap,cur,rfl,hb,(heap_setCell_other w ⟨X,off,none⟩ g u (hne g rfl)).trans hg,rest⟩
theorem fR {B X M:Nat} {w0 w w':World} {e:TypeId} {s:Nat} {v:Value} {n:Nat} {xs:List Value} (k:KeepX B X w0 w) (h:w.ownsRow M e s v n xs) (g:w.grownBy w' v.ownBlock) (hM:w0.heap.size<=M):KeepX B X w0 w':=
 ⟨Nat.le_trans k.size g.size,fun x hx hy hl=>(g.block x (Nat.lt_of_lt_of_le hl k.size) (fun q=>by have:=(h.lt x q.symm).1;omega)).trans (k.blk x hx hy hl)⟩
theorem aBb (w0 w:World) (a:Option Addr) (cap:Nat) (l:List Nat) (st:Ls) (C:EyC w0 a cap l) (X:Nat) (cs:Array Value) (hcs:cs.size=29) (hnil:st≠none->cs[27]? = some (.slice none 0 0)) (hX:w0.heap.size < X) (hx:w.heap[X]? = some (.cells cs 73 (0,0))) (h:EyR w0 a cap l w st) :
 Calls Tryz.prog 24 #[(.pointer (some ⟨w0.heap.size,0,none⟩)),.agg #[.int .i64 6,.int .i64 17],(.pointer (some ⟨X,0,none⟩))] w (fun e w'=>∃CS,FP w0 a cap l w X CS (gRow gT st).2 e w'/\CS.size=29/\((gRow gT st).2≠none->∃a' c',CS=cs.setIfInBounds 27 (.slice a' (gRow gT st).1.length c')/\SRow w' a' (gRow gT st).1/\(∀g,a'=some g->w.heap.size<=g.block)/\((gRow gT st).1=[]->a'=none/\c'=0))):=by
 have HB:Hid ((w.alloc (.cells #[.int .i64 6,.int .i64 17] 78)).heap[w.heap.size]? = some (.cells #[.int .i64 6,.int .i64 17] 78 (0,0))):=heap_alloc_new w _
 have HBL:Hid (Below w.heap.size w (w.alloc (.cells #[.int .i64 6,.int .i64 17] 78))):=aA _
 have HE:Hid (EyR w0 a cap l (w.alloc (.cells #[.int .i64 6,.int .i64 17] 78)) st):=h.below HBL.out
 have hXw:X < w.heap.size:=(Array.getElem?_eq_some_iff.1 hx).1
 have HX:Hid ((w.alloc (.cells #[.int .i64 6,.int .i64 17] 78)).heap[X]? = some (.cells cs 73 (0,0))):=(HBL.out.block X hXw).trans hx
 have HZ:Hid (w0.heap.size < X/\X < w.heap.size/\w0.heap.size < w.heap.size):=⟨hX,hXw,h.lt⟩
 have b0:(w.alloc (.cells #[.int .i64 6,.int .i64 17] 78)).cell? ⟨w.heap.size,0,none⟩=some (.int .i64 6):=(aB HB.out 0).1
 have HCS:Hid (cs.size=29):=hcs
 obtain⟨v27,hv27⟩:∃v,cs[27]? = some v:=⟨_,Array.getElem?_eq_getElem (by omega)⟩
 have HV27:Hid (cs.setIfInBounds 27 v27=cs):=by
  show _=_
  apply Array.ext'
  rw[Array.toList_setIfInBounds]
  apply List.ext_getElem?
  intro j
  rw[List.getElem?_set]
  split
  ·rename_i e;subst e
   split
   ·rw[Array.getElem?_toList,hv27]
   ·rename_i q;exact absurd (show 27 < cs.toList.length by simp;omega) q
  ·rfl
 have HVN:Hid (st≠none->v27=.slice none 0 0):=fun q=>by have:=hnil q;rw[hv27] at this;injection this
 have HN:Hid (Calls Tryz.prog 22 #[(.pointer (some ⟨w0.heap.size,0,none⟩)),.int .i64 2] (w.alloc (.cells #[.int .i64 6,.int .i64 17] 78)) (EP w0 a cap l (w.alloc (.cells #[.int .i64 6,.int .i64 17] 78)) (.int .u64 ((gN 2 st).1:Nat)) (gN 2 st).2)):=aR w0 _ a cap l st 2 2 rfl (by decide) (by decide) C HE.out
 have hn:(gN 2 st).1 < 65536:=bL 2 st (EyR.byt C h)
 have HG:Hid (gRow gT st=gL gT (gN 2 st).1 (gN 2 st).2):=rfl
 have HBD:Hid ((gN 2 st).2=none->(gN 2 st).1=0):=iI
 have HST:Hid (st=none->gRow gT st=([],none)/\(gN 2 st).1=0):=fun e=>by subst e;exact⟨rfl,rfl⟩
 have HPB:Hid ((gT none).2=none):=rfl
 have HT:Hid (∀s x,EyR w0 a cap l x s->Calls Tryz.prog 41 #[(.pointer (some ⟨w0.heap.size,0,none⟩))] x (EP w0 a cap l x (.string (gT s).1) (gT s).2)):=fun s x hx=>kZ w0 x a cap l s C hx
 clear h C hx hnil hcs HE hv27
 generalize gRow gT st=R at *
 generalize (gN 2 st).1=n at *
 generalize (gN 2 st).2=s0 at *
 have hnI:(n:Int) < 65536:=by omega
 have en:IntKind.i64.wrap (n:Int)=(n:Int):=by rw[IntKind.wrap_i64];omega
 go_enter Tryz.func24,Tryz.ntmps24
 go_wp2_with (go_at_call 22;refine Calls.mono HN.out ?_;rintro e w1 ⟨rfl,hw1,hk1⟩;have HW1:Hid (EyR w0 a cap l w1 s0):=hw1;have HX1:Hid (w1.heap[X]? = some (.cells cs 73 (0,0))):=hk1.box HX.out (by have:=HZ.out.1;omega);have HK1:Hid (KeepX w0.heap.size X w w1):=KeepX.of ((KeepB.of_below HBL.out).trans hk1);clear hw1 hk1 b0)
 go_loopw [13] (fun iv wr=>∃(k:Nat) (AA:List ByteArray) (s:Ls) (v:Value),k<=n/\iv=.int .i64 k/\AA.length=k/\(k=0->v=v27)/\(s=none->R.2=none)/\(∀ls,s=some ls->R=gPre AA (gL gT (n - k) (some ls)))/\wr.heap[X]? = some (.cells (cs.setIfInBounds 27 v) 73 (0,0))/\(n≠0->wr.ownsRow w.heap.size 9 1 v AA.length (scv AA))/\EyR w0 a cap l wr s/\KeepX w0.heap.size X w wr) (fun iv _=>n - (iof iv).toNat)
 case atStart=>exact⟨0,[],s0,v27,by omega,rfl,rfl,fun _=>rfl,fun e=>by rw[HG.out,HBD.out e,e];rfl,fun ls e=>by rw[HG.out,e];exact cZ HPB.out _ _,by rw[HV27.out];exact HX1.out,fun q=>by rw[HVN.out (fun e=>q (HST.out e).2)];exact World.ownsRow_nil _ _ _ _,HW1.out,HK1.out⟩
 case round=>
  clear HN HW1 HX1 HK1 HX HB HBL
  obtain⟨k,AA,s,v,hk,rfl,hAl,hv0,hsn,hR,hbx,hown,hw1,hkx⟩:=hrel
  obtain⟨I9,_,_,_,x0,x1,x2,_,_⟩:=hw1.open
  have HAL:Hid (AA.length=k):=hAl
  have HKX:Hid (KeepX w0.heap.size X w wr):=hkx
  have HEW:Hid (EyR w0 a cap l wr s):=hw1
  have HBX:Hid (wr.heap[X]? = some (.cells (cs.setIfInBounds 27 v) 73 (0,0))):=hbx
  have HSZ:Hid ((cs.setIfInBounds 27 v).size=29):=by show _=_;rw[Array.size_setIfInBounds];exact HCS.out
  clear hAl hkx hw1 hbx
  by_cases hlt:k < n
  ·have hltI:(k:Int) < (n:Int):=by omega
   cases s with
   | none=>
    simp only[Option.isNone_none] at x2
    have HRN:Hid (R.2=none):=hsn rfl
    clear HT HG HBD HPB hR hown hsn HST HVN HV27
    go_wp2
    go_end0
    exact⟨_,⟨rfl,by rw[HRN.out];exact HEW.out,HBX.out,HKX.out⟩,HSZ.out,fun q=>absurd HRN.out q⟩
   | some ls=>
    simp only[Option.isNone_some] at x2
    have HNK:Hid (n - k=(n - (k+1))+1):=by show _=_;omega
    have HRB:Hid ((gT (some ls)).2=none->R.2=none):=fun e=>by rw[hR ls rfl,HNK.out,eZ _ _ _ e]
    have HRS:Hid (∀l2,(gT (some ls)).2=some l2->R=gPre (AA++[(gT (some ls)).1]) (gL gT (n - (k+1)) (some l2))):=fun l2 e=>by rw[hR ls rfl,HNK.out];exact dS _ _ _ _ e
    have hown2:=hown (by omega)
    obtain⟨va,vn,vc,rfl⟩:∃va vn vc,v=.slice va vn vc:=by
     rcases hown2.2 with⟨rfl,_⟩ | ⟨g,cap,cur,rfl,_⟩
     ·exact⟨_,_,_,rfl⟩
     ·exact⟨_,_,_,rfl⟩
    have HOWN:Hid (wr.ownsRow w.heap.size 9 1 (.slice va vn vc) AA.length (scv AA)):=hown2
    have HC0:=HT.out (some ls) wr.drew (HEW.out.below (aT _))
    have HC:Hid (Calls Tryz.prog 41 #[(.pointer (some ⟨w0.heap.size,0,none⟩))] wr.drew (EP w0 a cap l wr.drew (.string (gT (some ls)).1) (gT (some ls)).2)):=HC0
    generalize (gT (some ls)).1=tv at *
    generalize (gT (some ls)).2=s2 at *
    have HXC:Hid (∀x:World,x.heap[X]? = some (.cells (cs.setIfInBounds 27 (.slice va vn vc)) 73 (0,0))->x.cell? ⟨X,27,none⟩=some (.slice va vn vc)):=fun x hx=>by rw[(aB hx 27).1,Array.getElem?_setIfInBounds];simp[HCS.out]
    have hS0:wr.drew.cell? ⟨X,27,none⟩=some (.slice va vn vc):=HXC.out _ HBX.out
    clear HT HG HBD HPB hR hown hown2 hsn HST HVN HV27 HC0 x0 x1 hv0
    go_wp2_with fail
    refine aD (fun y:World=>y.cell? ⟨X,27,none⟩=some (.slice va vn vc)) 11 (by kernel_rfl) hS0 (fun hHeld=>?_)
    refine lD 0 ?_
    try simp only[Act.put,sP]
    refine lD 1 ?_
    try simp only[Act.put,sP]
    refine lD 2 ?_
    try simp only[Act.put,sP]
    refine lD 3 ?_
    try simp only[Act.put,sP]
    refine lD 4 ?_
    try simp only[Act.put,sP]
    refine lD 5 ?_
    try simp only[Act.put,sP]
    refine lo 6 fun K hK=>?_
    go_simp
    refine Calls.mono HC.out ?_
    rintro e w2 ⟨rfl,hw2,hk2⟩
    have hk3:KeepB w0.heap.size wr w2:=(KeepB.of_below (aT _)).trans hk2
    have hb2:w2.heap[X]? = some (.cells (cs.setIfInBounds 27 (.slice va vn vc)) 73 (0,0)):=hk3.box HBX.out (by have:=HZ.out.1;omega)
    have HO2:Hid ((w2.alloc (.cells #[.string tv] 9)).ownsRow w.heap.size 9 1 (.slice va vn vc) AA.length (scv AA)):=bY (bU HOWN.out hk3 HZ.out.2.2) (aA _)
    have hb3:(w2.alloc (.cells #[.string tv] 9)).heap[X]? = some (.cells (cs.setIfInBounds 27 (.slice va vn vc)) 73 (0,0)):=((aA (w:=w2) _).block X (Array.getElem?_eq_some_iff.1 hb2).1).trans hb2
    have HE2:Hid (EyR w0 a cap l (w2.alloc (.cells #[.string tv] 9)) s2):=hw2.below (aA _)
    have HK2:Hid (KeepX w0.heap.size X w (w2.alloc (.cells #[.string tv] 9))):=(HKX.out.b hk3).b (KeepB.of_below (aA _))
    have HB3:Hid _:=hb3
    have HNEW:Hid ((w2.alloc (.cells #[.string tv] 9)).heap[w2.heap.size]? = some (.cells (List.toArray [Value.string tv]) 9 (0,0))):=heap_alloc_new w2 _
    try dsimp only
    refine hK.out _ _ (HXC.out _ hb2) (fun hH1=>?_)
    clear hK hw2 hk2 hk3 hb2 hb3
    try simp only[Act.put,sP]
    refine lo 7 fun K hK=>?_
    go_simp
    try dsimp only
    refine hK.out _ _ (HXC.out _ HB3.out) (fun hH2=>?_)
    clear hK
    try simp only[Act.put,sP]
    have hle3:w.heap.size<=(w2.alloc (.cells #[.string tv] 9)).heap.size:=HK2.out.size
    generalize (w2.alloc (.cells #[.string tv] 9))=w4 at *
    refine lo 8 fun K hK=>?_
    refine iL _ _ 34 9 rfl _ 1 _ Tryz.underlying34 aA5 rfl (by decide) (by decide) w.heap.size _ _ _ rfl HO2.out hle3 _ [Value.string tv] rfl rfl HNEW.out (by simp[Value.oneCell']) (by rw[HAL.out];omega) ?_
    intro v3 w5 ho3 hg3
    obtain⟨a3,n3,c3,rfl⟩:∃va vn vc,v3=.slice va vn vc:=by
     rcases ho3.2 with⟨rfl,_⟩ | ⟨g,cap,cur,rfl,_⟩
     ·exact⟨_,_,_,rfl⟩
     ·exact⟨_,_,_,rfl⟩
    have hX5:w5.heap[X]? = some (.cells (cs.setIfInBounds 27 (.slice va vn vc)) 73 (0,0)):=(hg3.block X (Array.getElem?_eq_some_iff.1 HB3.out).1 (fun q=>by have:=(HO2.out.lt _ q.symm).1;have:=HZ.out.2.1;omega)).trans HB3.out
    have HE5:Hid (EyR w0 a cap l (w5.setCell ⟨X,27,none⟩ (.slice a3 n3 c3)) s2):=(HE2.out.grown hg3 HO2.out HZ.out.2.2).off HZ.out.1
    have HO5:Hid ((w5.setCell ⟨X,27,none⟩ (.slice a3 n3 c3)).ownsRow w.heap.size 9 1 (.slice a3 n3 c3) (AA.length+1) (scv AA++[Value.string tv])):=gH ho3 (fun k hk=>by have:=(ho3.lt k hk).1;have:=HZ.out.2.1;show k≠X;omega)
    have HX6:Hid ((w5.setCell ⟨X,27,none⟩ (.slice a3 n3 c3)).heap[X]? = some (.cells (cs.setIfInBounds 27 (.slice a3 n3 c3)) 73 (0,0))):=by show _=_;rw[aH hX5];simp
    have HK6:Hid (KeepX w0.heap.size X w (w5.setCell ⟨X,27,none⟩ (.slice a3 n3 c3))):=(fR HK2.out HO2.out hg3 (Nat.le_refl _)).setX
    obtain⟨⟨u9,c9⟩,f9⟩:=dI hX5 (by rw[Array.size_setIfInBounds];exact HCS.out) 27 (by omega)
    refine hK.out _ _ (HXC.out _ hX5) (fun hH3=>?_)
    clear hK ho3 hg3 hX5 hle3
    try simp only[Act.put,sP]
    refine lD 9 ?_
    try simp only[Act.put,sP]
    refine lD 10 ?_
    try simp only[Act.put,sP]
    refine ll 11 fun K hK=>?_
    go_simp
    try dsimp only
    refine hK.out _ _ ?_
    clear hK
    try simp only[Act.put,sP]
    go_wp2_with fail
    exact⟨⟨k+1,AA++[tv],s2,_,by omega,by go_num,by rw[List.length_append,HAL.out];rfl,fun q=>absurd q (by omega),fun e=>HRB.out e,fun l5 e=>HRS.out l5 e,HX6.out,fun _=>by rw[List.length_append,qV];exact HO5.out,HE5.out,HK6.out⟩,by simp[iof];omega⟩
  ·obtain rfl:k=n:=by omega
   have HRT:Hid (R.2=s/\(s≠none->R.1=AA)):=by
    cases s with
    | none=>exact⟨hsn rfl,fun q=>absurd rfl q⟩
    | some ls=>have e:=hR ls rfl;rw[Nat.sub_self,dX] at e;rw[e];exact⟨rfl,fun _=>rfl⟩
   have HFIN:Hid (R.2≠none->∃a' c',v=.slice a' AA.length c'/\SRow wr a' AA/\(∀g,a'=some g->w.heap.size<=g.block)/\(AA=[]->a'=none/\c'=0)):=fun q=>by
    by_cases h0:k=0
    ·have hv:=hv0 h0
     rw[HVN.out (fun e=>q (by rw[(HST.out e).1]))] at hv
     have:AA=[]:=List.eq_nil_of_length_eq_zero (by rw[HAL.out];exact h0)
     subst this
     exact⟨none,0,hv,fun j hj=>(by cases hj),fun g hg=>(by cases hg),fun _=>⟨rfl,rfl⟩⟩
    ·have ho:=hown h0
     obtain⟨a',c',rfl,hs,_⟩:=oB ho
     exact⟨a',c',rfl,hs,fA ho,fun e=>absurd (by rw[<-HAL.out,e];rfl) h0⟩
   clear HT HG HBD HPB hR hsn hown hv0 HST HVN HV27
   go_wp2
   go_end0
   refine⟨_,⟨rfl,by rw[HRT.out.1];exact HEW.out,HBX.out,HKX.out⟩,HSZ.out,fun q=>?_⟩
   obtain⟨a',c',e1,e2,e3,e4⟩:=HFIN.out q
   have e5:=HRT.out.2 (fun e=>q (by rw[HRT.out.1,e]))
   rw[e5]
   exact⟨a',c',by rw[e1],e2,e3,e4⟩
theorem wS (w0 w:World) (a:Option Addr) (cap:Nat) (l:List Nat) (st:Ls) (C:EyC w0 a cap l) (X:Nat) (cs:Array Value) (hcs:cs.size=29) (hnil:st≠none->cs[28]? = some (.slice none 0 0)) (hX:w0.heap.size < X) (hx:w.heap[X]? = some (.cells cs 73 (0,0))) (h:EyR w0 a cap l w st) :
 Calls Tryz.prog 24 #[(.pointer (some ⟨w0.heap.size,0,none⟩)),.agg #[.int .i64 7,.int .i64 18],(.pointer (some ⟨X,0,none⟩))] w (fun e w'=>∃CS,FP w0 a cap l w X CS (gRow gI st).2 e w'/\CS.size=29/\((gRow gI st).2≠none->∃a' c',CS=cs.setIfInBounds 28 (.slice a' (gRow gI st).1.length c')/\IRow w' a' (gRow gI st).1/\(∀g,a'=some g->w.heap.size<=g.block)/\((gRow gI st).1=[]->a'=none/\c'=0))):=by
 have HB:Hid ((w.alloc (.cells #[.int .i64 7,.int .i64 18] 78)).heap[w.heap.size]? = some (.cells #[.int .i64 7,.int .i64 18] 78 (0,0))):=heap_alloc_new w _
 have HBL:Hid (Below w.heap.size w (w.alloc (.cells #[.int .i64 7,.int .i64 18] 78))):=aA _
 have HE:Hid (EyR w0 a cap l (w.alloc (.cells #[.int .i64 7,.int .i64 18] 78)) st):=h.below HBL.out
 have hXw:X < w.heap.size:=(Array.getElem?_eq_some_iff.1 hx).1
 have HX:Hid ((w.alloc (.cells #[.int .i64 7,.int .i64 18] 78)).heap[X]? = some (.cells cs 73 (0,0))):=(HBL.out.block X hXw).trans hx
 have HZ:Hid (w0.heap.size < X/\X < w.heap.size/\w0.heap.size < w.heap.size):=⟨hX,hXw,h.lt⟩
 have b0:(w.alloc (.cells #[.int .i64 7,.int .i64 18] 78)).cell? ⟨w.heap.size,0,none⟩=some (.int .i64 7):=(aB HB.out 0).1
 have HCS:Hid (cs.size=29):=hcs
 obtain⟨v27,hv27⟩:∃v,cs[28]? = some v:=⟨_,Array.getElem?_eq_getElem (by omega)⟩
 have HV27:Hid (cs.setIfInBounds 28 v27=cs):=by
  show _=_
  apply Array.ext'
  rw[Array.toList_setIfInBounds]
  apply List.ext_getElem?
  intro j
  rw[List.getElem?_set]
  split
  ·rename_i e;subst e
   split
   ·rw[Array.getElem?_toList,hv27]
   ·rename_i q;exact absurd (show 28 < cs.toList.length by simp;omega) q
  ·rfl
 have HVN:Hid (st≠none->v27=.slice none 0 0):=fun q=>by have:=hnil q;rw[hv27] at this;injection this
 have HN:Hid (Calls Tryz.prog 22 #[(.pointer (some ⟨w0.heap.size,0,none⟩)),.int .i64 2] (w.alloc (.cells #[.int .i64 7,.int .i64 18] 78)) (EP w0 a cap l (w.alloc (.cells #[.int .i64 7,.int .i64 18] 78)) (.int .u64 ((gN 2 st).1:Nat)) (gN 2 st).2)):=aR w0 _ a cap l st 2 2 rfl (by decide) (by decide) C HE.out
 have hn:(gN 2 st).1 < 65536:=bL 2 st (EyR.byt C h)
 have HG:Hid (gRow gI st=gL gI (gN 2 st).1 (gN 2 st).2):=rfl
 have HBD:Hid ((gN 2 st).2=none->(gN 2 st).1=0):=iI
 have HST:Hid (st=none->gRow gI st=([],none)/\(gN 2 st).1=0):=fun e=>by subst e;exact⟨rfl,rfl⟩
 have HPB:Hid ((gI none).2=none):=rfl
 have HT:Hid (∀s x,EyR w0 a cap l x s->Calls Tryz.prog 22 #[(.pointer (some ⟨w0.heap.size,0,none⟩)),.int .i64 8] x (EP w0 a cap l x (.int .u64 ((gN 8 s).1:Nat)) (gI s).2)/\IntKind.i64.wrap ((gN 8 s).1:Int)=(gI s).1):=fun s x hx=>⟨aR w0 x a cap l s 8 8 rfl (by decide) (by decide) C hx,by
  have hlt:(gN 8 s).1 < 18446744073709551616:=bL 8 s (EyR.byt C hx)
  show IntKind.i64.wrap _=iv _
  rw[IntKind.wrap_i64]
  unfold iv
  split<;>omega⟩
 clear h C hx hnil hcs HE hv27
 generalize gRow gI st=R at *
 generalize (gN 2 st).1=n at *
 generalize (gN 2 st).2=s0 at *
 have hnI:(n:Int) < 65536:=by omega
 have en:IntKind.i64.wrap (n:Int)=(n:Int):=by rw[IntKind.wrap_i64];omega
 go_enter Tryz.func24,Tryz.ntmps24
 go_wp2_with (go_at_call 22;refine Calls.mono HN.out ?_;rintro e w1 ⟨rfl,hw1,hk1⟩;have HW1:Hid (EyR w0 a cap l w1 s0):=hw1;have HX1:Hid (w1.heap[X]? = some (.cells cs 73 (0,0))):=hk1.box HX.out (by have:=HZ.out.1;omega);have HK1:Hid (KeepX w0.heap.size X w w1):=KeepX.of ((KeepB.of_below HBL.out).trans hk1);clear hw1 hk1 b0)
 go_loopw [15] (fun iv wr=>∃(k:Nat) (AA:List Int) (s:Ls) (v:Value),k<=n/\iv=.int .i64 k/\AA.length=k/\(k=0->v=v27)/\(s=none->R.2=none)/\(∀ls,s=some ls->R=gPre AA (gL gI (n - k) (some ls)))/\wr.heap[X]? = some (.cells (cs.setIfInBounds 28 v) 73 (0,0))/\(n≠0->wr.ownsRow w.heap.size 3 1 v AA.length (icv AA))/\EyR w0 a cap l wr s/\KeepX w0.heap.size X w wr) (fun iv _=>n - (iof iv).toNat)
 case atStart=>exact⟨0,[],s0,v27,by omega,rfl,rfl,fun _=>rfl,fun e=>by rw[HG.out,HBD.out e,e];rfl,fun ls e=>by rw[HG.out,e];exact cZ HPB.out _ _,by rw[HV27.out];exact HX1.out,fun q=>by rw[HVN.out (fun e=>q (HST.out e).2)];exact World.ownsRow_nil _ _ _ _,HW1.out,HK1.out⟩
 case round=>
  clear HN HW1 HX1 HK1 HX HB HBL
  obtain⟨k,AA,s,v,hk,rfl,hAl,hv0,hsn,hR,hbx,hown,hw1,hkx⟩:=hrel
  obtain⟨I9,_,_,_,x0,x1,x2,_,_⟩:=hw1.open
  have HAL:Hid (AA.length=k):=hAl
  have HKX:Hid (KeepX w0.heap.size X w wr):=hkx
  have HEW:Hid (EyR w0 a cap l wr s):=hw1
  have HBX:Hid (wr.heap[X]? = some (.cells (cs.setIfInBounds 28 v) 73 (0,0))):=hbx
  have HSZ:Hid ((cs.setIfInBounds 28 v).size=29):=by show _=_;rw[Array.size_setIfInBounds];exact HCS.out
  clear hAl hkx hw1 hbx
  by_cases hlt:k < n
  ·have hltI:(k:Int) < (n:Int):=by omega
   cases s with
   | none=>
    simp only[Option.isNone_none] at x2
    have HRN:Hid (R.2=none):=hsn rfl
    clear HT HG HBD HPB hR hown hsn HST HVN HV27
    go_wp2
    go_end0
    exact⟨_,⟨rfl,by rw[HRN.out];exact HEW.out,HBX.out,HKX.out⟩,HSZ.out,fun q=>absurd HRN.out q⟩
   | some ls=>
    simp only[Option.isNone_some] at x2
    have HNK:Hid (n - k=(n - (k+1))+1):=by show _=_;omega
    have HRB:Hid ((gI (some ls)).2=none->R.2=none):=fun e=>by rw[hR ls rfl,HNK.out,eZ _ _ _ e]
    have HRS:Hid (∀l2,(gI (some ls)).2=some l2->R=gPre (AA++[(gI (some ls)).1]) (gL gI (n - (k+1)) (some l2))):=fun l2 e=>by rw[hR ls rfl,HNK.out];exact dS _ _ _ _ e
    have hown2:=hown (by omega)
    obtain⟨va,vn,vc,rfl⟩:∃va vn vc,v=.slice va vn vc:=by
     rcases hown2.2 with⟨rfl,_⟩ | ⟨g,cap,cur,rfl,_⟩
     ·exact⟨_,_,_,rfl⟩
     ·exact⟨_,_,_,rfl⟩
    have HOWN:Hid (wr.ownsRow w.heap.size 3 1 (.slice va vn vc) AA.length (icv AA)):=hown2
    have HC0:=HT.out (some ls) wr.drew (HEW.out.below (aT _))
    obtain⟨hC0,e8⟩:=HC0
    have HC:Hid (Calls Tryz.prog 22 #[(.pointer (some ⟨w0.heap.size,0,none⟩)),.int .i64 8] wr.drew (EP w0 a cap l wr.drew (.int .u64 ((gN 8 (some ls)).1:Nat)) (gI (some ls)).2)):=hC0
    generalize (gN 8 (some ls)).1=V8 at *
    generalize (gI (some ls)).1=tv at *
    generalize (gI (some ls)).2=s2 at *
    have HXC:Hid (∀x:World,x.heap[X]? = some (.cells (cs.setIfInBounds 28 (.slice va vn vc)) 73 (0,0))->x.cell? ⟨X,28,none⟩=some (.slice va vn vc)):=fun x hx=>by rw[(aB hx 28).1,Array.getElem?_setIfInBounds];simp[HCS.out]
    have hS0:wr.drew.cell? ⟨X,28,none⟩=some (.slice va vn vc):=HXC.out _ HBX.out
    clear HT HG HBD HPB hR hown hown2 hsn HST HVN HV27 x0 x1 hv0
    go_wp2_with fail
    refine aD (fun y:World=>y.cell? ⟨X,28,none⟩=some (.slice va vn vc)) 12 (by kernel_rfl) hS0 (fun hHeld=>?_)
    refine lD 0 ?_
    try simp only[Act.put,sP]
    refine lD 1 ?_
    try simp only[Act.put,sP]
    refine lD 2 ?_
    try simp only[Act.put,sP]
    refine lD 3 ?_
    try simp only[Act.put,sP]
    refine lD 4 ?_
    try simp only[Act.put,sP]
    refine lD 5 ?_
    try simp only[Act.put,sP]
    refine lo 6 fun K hK=>?_
    go_simp
    refine Calls.mono HC.out ?_
    rintro e w2 ⟨rfl,hw2,hk2⟩
    have hk3:KeepB w0.heap.size wr w2:=(KeepB.of_below (aT _)).trans hk2
    have hb2:w2.heap[X]? = some (.cells (cs.setIfInBounds 28 (.slice va vn vc)) 73 (0,0)):=hk3.box HBX.out (by have:=HZ.out.1;omega)
    have HO2:Hid ((w2.alloc (.cells #[.int .i64 tv] 3)).ownsRow w.heap.size 3 1 (.slice va vn vc) AA.length (icv AA)):=bY (bU HOWN.out hk3 HZ.out.2.2) (aA _)
    have hb3:(w2.alloc (.cells #[.int .i64 tv] 3)).heap[X]? = some (.cells (cs.setIfInBounds 28 (.slice va vn vc)) 73 (0,0)):=((aA (w:=w2) _).block X (Array.getElem?_eq_some_iff.1 hb2).1).trans hb2
    have HE2:Hid (EyR w0 a cap l (w2.alloc (.cells #[.int .i64 tv] 3)) s2):=hw2.below (aA _)
    have HK2:Hid (KeepX w0.heap.size X w (w2.alloc (.cells #[.int .i64 tv] 3))):=(HKX.out.b hk3).b (KeepB.of_below (aA _))
    have HB3:Hid _:=hb3
    have HNEW:Hid ((w2.alloc (.cells #[.int .i64 tv] 3)).heap[w2.heap.size]? = some (.cells (List.toArray [Value.int .i64 tv]) 3 (0,0))):=heap_alloc_new w2 _
    try dsimp only
    refine hK.out _ _ (HXC.out _ hb2) (fun hH1=>?_)
    clear hK hw2 hk2 hk3 hb2 hb3
    try simp only[Act.put,sP]
    refine lD 7 ?_
    try simp only[Act.put,sP]
    refine lo 8 fun K hK=>?_
    go_simp
    try dsimp only
    refine hK.out _ _ (HXC.out _ HB3.out) (fun hH2=>?_)
    clear hK
    try simp only[Act.put,sP]
    have hle3:w.heap.size<=(w2.alloc (.cells #[.int .i64 tv] 3)).heap.size:=HK2.out.size
    generalize (w2.alloc (.cells #[.int .i64 tv] 3))=w4 at *
    refine lo 9 fun K hK=>?_
    refine iL _ _ 35 3 rfl _ 1 _ Tryz.underlying35 xW rfl (by decide) (by decide) w.heap.size _ _ _ rfl HO2.out hle3 _ [Value.int .i64 tv] rfl rfl HNEW.out (by simp[Value.oneCell']) (by rw[HAL.out];omega) ?_
    intro v3 w5 ho3 hg3
    obtain⟨a3,n3,c3,rfl⟩:∃va vn vc,v3=.slice va vn vc:=by
     rcases ho3.2 with⟨rfl,_⟩ | ⟨g,cap,cur,rfl,_⟩
     ·exact⟨_,_,_,rfl⟩
     ·exact⟨_,_,_,rfl⟩
    have hX5:w5.heap[X]? = some (.cells (cs.setIfInBounds 28 (.slice va vn vc)) 73 (0,0)):=(hg3.block X (Array.getElem?_eq_some_iff.1 HB3.out).1 (fun q=>by have:=(HO2.out.lt _ q.symm).1;have:=HZ.out.2.1;omega)).trans HB3.out
    have HE5:Hid (EyR w0 a cap l (w5.setCell ⟨X,28,none⟩ (.slice a3 n3 c3)) s2):=(HE2.out.grown hg3 HO2.out HZ.out.2.2).off HZ.out.1
    have HO5:Hid ((w5.setCell ⟨X,28,none⟩ (.slice a3 n3 c3)).ownsRow w.heap.size 3 1 (.slice a3 n3 c3) (AA.length+1) (icv AA++[Value.int .i64 tv])):=gH ho3 (fun k hk=>by have:=(ho3.lt k hk).1;have:=HZ.out.2.1;show k≠X;omega)
    have HX6:Hid ((w5.setCell ⟨X,28,none⟩ (.slice a3 n3 c3)).heap[X]? = some (.cells (cs.setIfInBounds 28 (.slice a3 n3 c3)) 73 (0,0))):=by show _=_;rw[aH hX5];simp
    have HK6:Hid (KeepX w0.heap.size X w (w5.setCell ⟨X,28,none⟩ (.slice a3 n3 c3))):=(fR HK2.out HO2.out hg3 (Nat.le_refl _)).setX
    obtain⟨⟨u9,c9⟩,f9⟩:=dI hX5 (by rw[Array.size_setIfInBounds];exact HCS.out) 28 (by omega)
    refine hK.out _ _ (HXC.out _ hX5) (fun hH3=>?_)
    clear hK ho3 hg3 hX5 hle3
    try simp only[Act.put,sP]
    refine lD 10 ?_
    try simp only[Act.put,sP]
    refine lD 11 ?_
    try simp only[Act.put,sP]
    refine ll 12 fun K hK=>?_
    go_simp
    try dsimp only
    refine hK.out _ _ ?_
    clear hK
    try simp only[Act.put,sP]
    go_wp2_with fail
    exact⟨⟨k+1,AA++[tv],s2,_,by omega,by go_num,by rw[List.length_append,HAL.out];rfl,fun q=>absurd q (by omega),fun e=>HRB.out e,fun l5 e=>HRS.out l5 e,HX6.out,fun _=>by rw[List.length_append,rO];exact HO5.out,HE5.out,HK6.out⟩,by simp[iof];omega⟩
  ·obtain rfl:k=n:=by omega
   have HRT:Hid (R.2=s/\(s≠none->R.1=AA)):=by
    cases s with
    | none=>exact⟨hsn rfl,fun q=>absurd rfl q⟩
    | some ls=>have e:=hR ls rfl;rw[Nat.sub_self,dX] at e;rw[e];exact⟨rfl,fun _=>rfl⟩
   have HFIN:Hid (R.2≠none->∃a' c',v=.slice a' AA.length c'/\IRow wr a' AA/\(∀g,a'=some g->w.heap.size<=g.block)/\(AA=[]->a'=none/\c'=0)):=fun q=>by
    by_cases h0:k=0
    ·have hv:=hv0 h0
     rw[HVN.out (fun e=>q (by rw[(HST.out e).1]))] at hv
     have:AA=[]:=List.eq_nil_of_length_eq_zero (by rw[HAL.out];exact h0)
     subst this
     exact⟨none,0,hv,fun j hj=>(by cases hj),fun g hg=>(by cases hg),fun _=>⟨rfl,rfl⟩⟩
    ·have ho:=hown h0
     obtain⟨a',c',rfl,hs,_⟩:=nQ ho
     exact⟨a',c',rfl,hs,fA ho,fun e=>absurd (by rw[<-HAL.out,e];rfl) h0⟩
   clear HT HG HBD HPB hR hsn hown hv0 HST HVN HV27
   go_wp2
   go_end0
   refine⟨_,⟨rfl,by rw[HRT.out.1];exact HEW.out,HBX.out,HKX.out⟩,HSZ.out,fun q=>?_⟩
   obtain⟨a',c',e1,e2,e3,e4⟩:=HFIN.out q
   have e5:=HRT.out.2 (fun e=>q (by rw[HRT.out.1,e]))
   rw[e5]
   exact⟨a',c',by rw[e1],e2,e3,e4⟩
theorem fY (w:World) (ad:Addr) (len cap n:Nat) (h:n<=cap) (h0:n<=len):(Instr.slice 22 (.slice (some ad) len cap) none (some (.int .i64 (n:Int))) none).run Tryz.prog w=.ok (.slice (some ad) n cap) w:=by
 have hs:(sizeOf 5).run Tryz.prog w=.ok 1 w:=by
  obtain⟨i,hi,e⟩:=Option.map_eq_some_iff.1 Tryz.info5s
  simp[sizeOf,typeInfo,hi,e]
 have h3:(0:Int)<=(n:Int)/\(n:Int)<=(cap:Int):=by omega
 simp[Instr.slice,run_underlying Tryz.underlying22,Instr.sliceBounds,Instr.sliceBound,asIntOf,h3,hs]
 first | omega | (rw[if_pos h];simp[Addr.add]) | simp[h,Addr.add]
theorem yA (w:World) (r:Rc):RRow (w.alloc (.cells r.cells 84)) (some ⟨w.heap.size,0,none⟩) [r]:=by
 have hc:∀j,(w.alloc (.cells r.cells 84)).cell? ⟨w.heap.size,j,none⟩=r.cells[j]?:=fun j=>cell_of_row _ w.heap.size j r.cells 84 (0,0) (heap_alloc_new w _)
 intro i hi
 obtain rfl:i=0:=by simpa using hi
 exact⟨w.heap.size,0,rfl,hc 0,hc 1,hc 2,hc 3,hc 4,hc 5⟩
theorem RRow.keep' {w:World} {a:Option Addr} {R:Nat} {rs:List Rc} {cs:Array Value} (h:RRow w a rs) (hg:∀g,a=some g->g.block≠R):RRow (w.setRow R cs) a rs:=by
 intro i hi
 obtain⟨b,off,e,h0,h1,h2,h3,h4,h5⟩:=h i hi
 have hbM:b≠R:=hg _ e
 exact⟨b,off,e,(aJ hbM).trans h0,(aJ hbM).trans h1,(aJ hbM).trans h2,(aJ hbM).trans h3,(aJ hbM).trans h4,(aJ hbM).trans h5⟩
structure Ql (l:List Nat):Prop where
 s1:36<=getV l 8 4 true
 s2:getV l 8 4 true<=l.length - 12
 s3:getV l 8 4 true<=6000
 bs:getV l 0 8 true<=1125899906842624
 pr:getV l 16 8 true<=4611686018427387904
 sq:getV l 24 8 true<=4611686018427387904
 sp:getV l 32 4 true<=100
 c1:1<=getV l 36 4 true
 c2:getV l 36 4 true<=100
 fi:getV l 40 8 true<=1125899906842624
theorem aB7 {V:Nat} (h:V<=4611686018427387904):wrap64 ((V:Nat):Int)=(V:Int):=w64 _ (by omega) (by omega)
theorem aIn {l:List Nat} (h:Ql l):bOf l=⟨(getV l 0 8 true:Nat),(getV l 32 4 true:Nat),(getV l 16 8 true:Nat),(getV l 24 8 true:Nat),recs (partOf l) (getV l 40 8 true:Nat) (getV l 36 4 true)⟩/\frsOf l=(getV l 40 8 true:Nat):=by
 have h1:=h.bs
 have h2:=h.pr
 have h3:=h.sq
 have h4:=h.fi
 have e:frsOf l=(getV l 40 8 true:Nat):=by unfold frsOf;exact aB7 (by omega)
 refine⟨?_,e⟩
 unfold bOf
 rw[e,aB7 (by omega),aB7 (by omega),aB7 (by omega)]
 rfl
theorem aE1 {V:Nat} {n:Int} (h:V < 18446744073709551616) (h0:0<=wrap64 V) (h1:wrap64 V<=n):(V:Int)<=n:=by
 unfold wrap64 at h0 h1
 omega
theorem kR {l:List Nat} (hb:∀x,x ∈ l->x < 256) (h:OkB l):36<=getV l 8 4 true/\getV l 8 4 true<=l.length - 12/\getV l 8 4 true<=6000/\getV l 0 8 true<=1125899906842624/\getV l 16 8 true<=9223372036854775807/\getV l 24 8 true<=9223372036854775807/\getV l 32 4 true<=100/\1<=getV l 36 4 true/\getV l 36 4 true<=100/\getV l 40 8 true<=1125899906842624:=by
 obtain⟨⟨b0,b1⟩,⟨s0,s1⟩,q0,q1,r0,hri,hc⟩:=eV h.wr
 have hwl:=(iJ h.wr).1
 have htm:=(bZ _).1 (eE h.wr)
 rw[h.fst] at htm
 have hV:∀i,getV l i 8 true < 18446744073709551616:=fun i=>Nat.lt_of_lt_of_le (dK l i 8 (cG hb)) (by decide)
 have hb5:(bOf l).rs.length=getV l 36 4 true:=cW (partOf l) (frsOf l) (cntOf l)
 have e1:(bOf l).base=wrap64 ((getV l 0 8 true:Nat):Int):=rfl
 have e2:(bOf l).prod=wrap64 ((getV l 16 8 true:Nat):Int):=rfl
 have e3:(bOf l).seq=wrap64 ((getV l 24 8 true:Nat):Int):=rfl
 have e4:(bOf l).span=((getV l 32 4 true:Nat):Int):=rfl
 have e5:frsOf l=wrap64 ((getV l 40 8 true:Nat):Int):=rfl
 have hn1:=h.n48
 have hn2:=h.nl
 have hn3:=h.nm
 have hl48:=h.l48
 have hln:lenN l=12+getV l 8 4 true:=rfl
 have m1:=aE1 (hV 0) (by rw[<-e1];exact b0) (by rw[<-e1];exact b1)
 have m5:=aE1 (hV 40) (by rw[<-e5];exact htm.1) (by rw[<-e5];exact htm.2)
 have m2:(getV l 16 8 true:Int)<=9223372036854775807:=by
  have h1:0<=wrap64 ((getV l 16 8 true:Nat):Int):=by rw[<-e2];exact q0
  have h2:=hV 16
  unfold wrap64 at h1
  omega
 have m3:(getV l 24 8 true:Int)<=9223372036854775807:=by
  have h1:0<=wrap64 ((getV l 24 8 true:Nat):Int):=by rw[<-e3];exact q1
  have h2:=hV 24
  unfold wrap64 at h1
  omega
 rw[e4] at s1
 rw[hb5] at r0 hwl
 clear e1 e2 e3 e4 e5 hV htm hb5 hri hc
 generalize getV l 0 8 true=X0 at *
 generalize getV l 8 4 true=X1 at *
 generalize getV l 16 8 true=X2 at *
 generalize getV l 24 8 true=X3 at *
 generalize getV l 32 4 true=X4 at *
 generalize getV l 36 4 true=X5 at *
 generalize getV l 40 8 true=X6 at *
 rw[hln] at hn1 hn2 hn3
 refine⟨?_,?_,?_,?_,?_,?_,?_,?_,?_,?_⟩<;>omega
theorem aFt {l:List Nat} (hb:∀x,x ∈ l->x < 256) (h:¬Ql l) (h2:getV l 16 8 true<=4611686018427387904) (h3:getV l 24 8 true<=4611686018427387904):¬OkB l:=by
 intro hok
 obtain⟨a1,a2,a3,a4,_,_,a5,a6,a7,a8⟩:=kR hb hok
 exact h ⟨a1,a2,a3,a4,h2,h3,a5,a6,a7,a8⟩
theorem aFa {l:List Nat} (hb:∀x,x ∈ l->x < 256) (h:chkB (bOf l)=0) (he:encBL (bOf l)=l.take (lenN l)):OkB l:=by
 have hi:In64B (bOf l):=⟨(aC0 (wrap64_wf _)).2,(aC0 (wrap64_wf _)).2⟩
 have h2:=(jU (b:=bOf l) (l.drop (lenN l)) h hi).1
 rw[he,List.take_append_drop] at h2
 exact h2
def pos (p:List Nat) (f:Int) (k:Nat):Nat:=(bodyL (recs p f k) f).length
theorem oL {p:List Nat} {f:Int} (hp:∀x,x ∈ p->x < 256) (k:Nat) (h:AllOk p f k):rest p f k=p.drop (pos p f k)/\pos p f k<=p.length:=by
 have e:=(mK hp k h).1
 have h2:p.drop (pos p f k)=rest p f k:=by
  have h3:(bodyL (recs p f k) f++rest p f k).drop (bodyL (recs p f k) f).length=rest p f k:=List.drop_left
  rw[<-e] at h3
  exact h3
 refine⟨h2.symm,?_⟩
 have e2:=congrArg List.length e
 rw[List.length_append] at e2
 unfold pos
 omega
theorem zM {p:List Nat} {f:Int} (hp:∀x,x ∈ p->x < 256) (k:Nat) (h:okD (rest p f k) f=true):pos p f (k+1)=pos p f k+decN (rest p f k) f:=by
 unfold pos
 rw[gF,mT,List.length_append,eP,mA,List.append_nil,(nT (qL f k hp) h).2.2]
theorem zE {p:List Nat} {f:Int} {k:Nat} (h:AllOk p f k) (h2:okD (rest p f k) f=true):AllOk p f (k+1):=by
 intro j hj
 by_cases e:j < k
 ·exact h j e
 ·obtain rfl:j=k:=by omega
  exact h2
theorem nX (b:Ba) (a:Option Addr) (cap:Nat) (w:World) (hr:RRow w a b.rs) (hi:In64B b) (hw:wrE b=0) :
 Calls Tryz.prog 80 #[bav b a cap] w fun e w'=>∃v,e=.returned v/\w'.ownsRow w.heap.size 5 1 v (tailL b).length (cv (tailL b))/\Below w.heap.size w w':=by
 obtain⟨⟨b0,b1⟩,⟨s0,s1⟩,q0,q1,r0,hri,hc⟩:=eV hw
 obtain⟨f0,f1⟩:=(bZ _).1 (eE hw)
 have hft:=eE hw
 have hlen:=(iJ hw).1
 obtain⟨i0,i1⟩:=hi
 obtain⟨bn,ebn⟩:=Int.eq_ofNat_of_zero_le b0
 obtain⟨sn,esn⟩:=Int.eq_ofNat_of_zero_le (show 0<=b.span by omega)
 obtain⟨pn,epn⟩:=Int.eq_ofNat_of_zero_le q0
 obtain⟨qn,eqn⟩:=Int.eq_ofNat_of_zero_le q1
 obtain⟨fn,efn⟩:=Int.eq_ofNat_of_zero_le f0
 have HF0:Hid (frs b=(fn:Int)):=efn
 have htl:tailL b=midL pn qn sn b.rs.length fn++bodyL b.rs (frs b):=by
  unfold tailL
  rw[epn,eqn,esn]
  have:(frs b).toNat=fn:=by omega
  rw[this]
  rfl
 obtain⟨F,HF⟩:∃F:Nat->List Nat,Hid (∀k,midL pn qn sn b.rs.length fn++bodyL (b.rs.take k) (frs b)=F k):=⟨_,fun _=>rfl⟩
 have HS:Hid (∀k,k < b.rs.length->F (k+1)=F k++encL (b.rs.getD k rz) (fn:Int)):=fun k hk=>by rw[<-HF.out,<-HF.out,oJ b.rs (frs b) k hk,List.append_assoc,HF0.out]
 have HFz:Hid (F 0=((((([]++lay 8 pn)++lay 8 qn)++lay 4 sn)++lay 4 b.rs.length)++lay 8 fn)):=by
  show _=_
  rw[<-HF.out]
  simp[midL,bodyL]
 have HA:Hid (F b.rs.length=tailL b):=by show _=_;rw[<-HF.out,List.take_length,htl]
 have HFl:Hid (∀k,(F k).length<=600000):=fun k=>by
  rw[<-HF.out,List.length_append,kF]
  have:=iP (frs b) (fun r hr=>hc r (List.mem_of_mem_take (i:=k) hr))
  rw[List.length_take] at this
  omega
 have HEn:Hid (∀k,k < b.rs.length->Enc 94 (b.rs.getD k rz) (fn:Int)):=fun k hk=>by rw[<-HF0.out];exact aBk (hc _ (getD_mem hk)) hft
 have HEL:Hid (∀k,k < b.rs.length->(encL (b.rs.getD k rz) (fn:Int)).length<=5000):=fun k hk=>by
  obtain⟨_,_,_,_,k1,v1,_⟩:=dN (hc _ (getD_mem hk))
  exact jT _ _ k1 v1
 have HR4:Hid (∀w,RRow w a b.rs->∃x off,a=some ⟨x,off,none⟩/\w.cell? ⟨x,off+4,none⟩=some (.int .i64 (fn:Int))):=by
  intro w hr
  obtain⟨x,off,e,_,_,_,_,z4,_⟩:=hr 0 r0
  rw[Nat.zero_mul,Nat.add_zero,show(b.rs.getD 0 rz).t=(fn:Int) from HF0.out] at z4
  exact⟨x,off,e,z4⟩
 rw[<-HA.out]
 clear HA htl hri hc hft hw HF
 obtain⟨base,span,prod,seq,rs⟩:=b
 simp only at *
 subst ebn esn epn eqn
 simp only[bav]
 have hwp:IntKind.u64.wrap (pn:Int)=(pn:Int):=by rw[IntKind.wrap_u64];omega
 have hwq:IntKind.u64.wrap (qn:Int)=(qn:Int):=by rw[IntKind.wrap_u64];omega
 have hws:IntKind.u64.wrap (sn:Int)=(sn:Int):=by rw[IntKind.wrap_u64];omega
 have hwf:IntKind.u64.wrap (fn:Int)=(fn:Int):=by rw[IntKind.wrap_u64];omega
 have hwc:IntKind.u64.wrap (rs.length:Int)=(rs.length:Int):=by rw[IntKind.wrap_u64];omega
 have hrI:(0:Int) < (rs.length:Int):=by omega
 have HR0:Hid (RRow w a rs):=hr
 have tok1:=trivial
 obtain⟨rb,roff,era,_⟩:=HR4.out w hr
 have hrb:rb < w.heap.size:=by
  obtain⟨x,off,e,z0,_⟩:=hr 0 r0
  rw[era] at e
  simp only[Option.some.injEq,Addr.mk.injEq,and_true] at e
  obtain⟨rfl,rfl⟩:=e
  have:=World.block_lt_of_cell? _ _ z0
  simpa using this
 subst era
 have HY4:Hid (∀x,Below w.heap.size w x->x.cell? ⟨rb,roff+4,none⟩=some (.int .i64 (fn:Int))):=by
  intro x hb
  obtain⟨y,off,e,h⟩:=HR4.out x (RRow.below HR0.out hb)
  simp only[Option.some.injEq,Addr.mk.injEq,and_true] at e
  obtain⟨rfl,rfl⟩:=e
  exact h
 have hfb:(fn:Int)<=1125899906842624:=by rw[<-HF0.out];exact f1
 clear hr HR4 b0 q0 q1 f0 f1 HF0 efn
 obtain⟨u,HU⟩:∃u,Hid (w.alloc (.cells #[.int .i64 (bn:Int),.int .i64 (sn:Int),.int .i64 (pn:Int),.int .i64 (qn:Int),.slice (some ⟨rb,roff,none⟩) rs.length cap] 88)=u):=⟨_,rfl⟩
 have HUB:Hid (BxS w (bcells ⟨(bn:Int),(sn:Int),(pn:Int),(qn:Int),rs⟩ (some ⟨rb,roff,none⟩) cap) u):=by have:=BxS.new w (bcells ⟨(bn:Int),(sn:Int),(pn:Int),(qn:Int),rs⟩ (some ⟨rb,roff,none⟩) cap);rw[show w.alloc (.cells (bcells ⟨(bn:Int),(sn:Int),(pn:Int),(qn:Int),rs⟩ (some ⟨rb,roff,none⟩) cap) 88)=u from HU.out] at this;exact this
 have HL1:Hid (([]++lay 8 pn).length<=1000):=by show _<=_;simp[aP]
 have HL2:Hid ((([]++lay 8 pn)++lay 8 qn).length<=1000):=by show _<=_;simp[aP]
 have HL3:Hid (((([]++lay 8 pn)++lay 8 qn)++lay 4 sn).length<=1000):=by show _<=_;simp[aP]
 have HL4:Hid ((((([]++lay 8 pn)++lay 8 qn)++lay 4 sn)++lay 4 rs.length).length<=1000):=by show _<=_;simp[aP]
 have HX1:Hid _:=fun v x l hl h1 h2=>fS v l 8 pn x u u.heap.size h1 h2 (Nat.le_refl _) hl (by omega) (by omega)
 have HX2:Hid _:=fun v x l hl h1 h2=>fS v l 8 qn x u u.heap.size h1 h2 (Nat.le_refl _) hl (by omega) (by omega)
 have HX3:Hid _:=fun v x l hl h1 h2=>fS v l 4 sn x u u.heap.size h1 h2 (Nat.le_refl _) hl (by omega) (by omega)
 have HX4:Hid _:=fun v x l hl h1 h2=>fS v l 4 rs.length x u u.heap.size h1 h2 (Nat.le_refl _) hl (by omega) (by omega)
 have HX5:Hid _:=fun v x l hl h1 h2=>fS v l 8 fn x u u.heap.size h1 h2 (Nat.le_refl _) hl (by omega) (by omega)
 generalize lay 8 pn=l1 at *
 generalize lay 8 qn=l2 at *
 generalize lay 4 sn=l3 at *
 generalize lay 4 rs.length=l4 at *
 generalize lay 8 fn=l5 at *
 go_enter Tryz.func80,Tryz.ntmps80
 go_wp2_with (first
  | (go_at_call 35;have _t:=tok1;rw[HU.out];refine(HX1.out _ _ [] (by simp) (World.ownsRow_nil _ _ _ _) (Below.refl _ _)).mono ?_;clear tok1 _t;rintro e x1 ⟨v1,rfl,hown1,hb1⟩;have HB1:Hid (BxS w (bcells ⟨(bn:Int),(sn:Int),(pn:Int),(qn:Int),rs⟩ (some ⟨rb,roff,none⟩) cap) x1):=BxS.below HUB.out hb1;have hy1:=HY4.out _ HB1.out.bel;obtain⟨c0,c1,c2,c3,c4,cz⟩:=BxS.cells HB1.out;simp only at c0 c1 c2 c3 c4)
  | (go_at_call 35;have _t:=hown1;refine(HX2.out _ _ ([]++l1) HL1.out hown1 hb1).mono ?_;clear _t hown1 hb1 hy1 c0 c1 c2 c3 c4 cz;rintro e x2 ⟨v2,rfl,hown2,hb2⟩;have HB2:Hid (BxS w (bcells ⟨(bn:Int),(sn:Int),(pn:Int),(qn:Int),rs⟩ (some ⟨rb,roff,none⟩) cap) x2):=BxS.below HUB.out hb2;have hy2:=HY4.out _ HB2.out.bel;obtain⟨c0,c1,c2,c3,c4,cz⟩:=BxS.cells HB2.out;simp only at c0 c1 c2 c3 c4)
  | (go_at_call 35;have _t:=hown2;refine(HX3.out _ _ (([]++l1)++l2) HL2.out hown2 hb2).mono ?_;clear _t hown2 hb2 hy2 c0 c1 c2 c3 c4 cz;rintro e x3 ⟨v3,rfl,hown3,hb3⟩;have HB3:Hid (BxS w (bcells ⟨(bn:Int),(sn:Int),(pn:Int),(qn:Int),rs⟩ (some ⟨rb,roff,none⟩) cap) x3):=BxS.below HUB.out hb3;have hy3:=HY4.out _ HB3.out.bel;obtain⟨c0,c1,c2,c3,c4,cz⟩:=BxS.cells HB3.out;simp only at c0 c1 c2 c3 c4)
  | (go_at_call 35;have _t:=hown3;refine(HX4.out _ _ ((([]++l1)++l2)++l3) HL3.out hown3 hb3).mono ?_;clear _t hown3 hb3 hy3 c0 c1 c2 c3 c4 cz;rintro e x4 ⟨v4,rfl,hown4,hb4⟩;have HB4:Hid (BxS w (bcells ⟨(bn:Int),(sn:Int),(pn:Int),(qn:Int),rs⟩ (some ⟨rb,roff,none⟩) cap) x4):=BxS.below HUB.out hb4;have hy4:=HY4.out _ HB4.out.bel;obtain⟨c0,c1,c2,c3,c4,cz⟩:=BxS.cells HB4.out;simp only at c0 c1 c2 c3 c4)
  | (go_at_call 35;have _t:=hown4;refine(HX5.out _ _ (((([]++l1)++l2)++l3)++l4) HL4.out hown4 hb4).mono ?_;clear _t hown4 hb4 hy4 c0 c1 c2 c3 c4 cz;rintro e x5 ⟨v5,rfl,hown5,hb5⟩;have HB5:Hid (BxS w (bcells ⟨(bn:Int),(sn:Int),(pn:Int),(qn:Int),rs⟩ (some ⟨rb,roff,none⟩) cap) x5):=BxS.below HUB.out hb5;have hy5:=HY4.out _ HB5.out.bel;obtain⟨c0,c1,c2,c3,c4,cz⟩:=BxS.cells HB5.out;simp only at c0 c1 c2 c3 c4))
 clear c0 c1 c2 c3 c4 cz hy5
 go_loopw [3,4] (fun p i x=>∃k:Nat,k<=rs.length/\i=.int .i64 k/\x.ownsRow u.heap.size 5 1 p (F k).length (cv (F k))/\Below u.heap.size u x) (fun _ i _=>rs.length - (intOf i).toNat)
 case atStart=>exact⟨0,by omega,rfl,by rw[HFz.out];exact hown5,hb5⟩
 case round=>
  clear hown5 hb5 HB1 HB2 HB3 HB4 HB5
  obtain⟨k,hk,rfl,hown,hb⟩:=hrel
  have HB:Hid (BxS w (bcells ⟨(bn:Int),(sn:Int),(pn:Int),(qn:Int),rs⟩ (some ⟨rb,roff,none⟩) cap) wr):=BxS.below HUB.out hb
  have hy:=HY4.out _ HB.out.bel
  obtain⟨c0,c1,c2,c3,c4,cz⟩:=BxS.cells HB.out
  simp only at c0 c1 c2 c3 c4
  by_cases hlt:k < rs.length
  ·have hltI:(k:Int) < (rs.length:Int):=by omega
   have HE:=HEn.out k hlt
   have HL:Hid (F (k+1)=F k++encL (rs.getD k rz) (fn:Int)):=HS.out k hlt
   have h5:=HFl.out k
   have h6:=HEL.out k hlt
   obtain⟨b',off',e,z0,z1,z2,z3,z4,z5⟩:=(RRow.below HR0.out HB.out.bel) k hlt
   simp only[Option.some.injEq,Addr.mk.injEq,and_true] at e
   obtain⟨rfl,rfl⟩:=e
   have hrx:rb < wr.heap.size:=by omega
   have hz3:u.heap.size<=wr.heap.size:=hb.size
   unfold Enc at HE
   generalize rs.getD k rz=r at *
   generalize encL r (fn:Int)=L at *
   have HEn2:Hid _:=HE
   clear HE
   obtain⟨hk',kk,hv,v,t,o⟩:=r
   simp only at z0 z1 z2 z3 z4 z5
   simp only[Rc.cells] at HEn2
   have hS0:(fun y:World=>y.cell? ⟨w.heap.size,4,none⟩=some (.slice (some ⟨rb,roff,none⟩) rs.length cap)/\y.cell? ⟨rb,roff+4,none⟩=some (.int .i64 (fn:Int))/\y.cell? ⟨rb,roff+k * 6,none⟩=some (.bool hk')/\y.cell? ⟨rb,roff+k * 6+1,none⟩=some (.string kk)/\y.cell? ⟨rb,roff+k * 6+2,none⟩=some (.bool hv)/\y.cell? ⟨rb,roff+k * 6+3,none⟩=some (.string v)/\y.cell? ⟨rb,roff+k * 6+4,none⟩=some (.int .i64 t)/\y.cell? ⟨rb,roff+k * 6+5,none⟩=some (.int .i64 o)) wr:=⟨c4,hy,z0,z1,z2,z3,z4,z5⟩
   have HKP:Hid (∀x y,Below x.heap.size x y->(fun y:World=>y.cell? ⟨w.heap.size,4,none⟩=some (.slice (some ⟨rb,roff,none⟩) rs.length cap)/\y.cell? ⟨rb,roff+4,none⟩=some (.int .i64 (fn:Int))/\y.cell? ⟨rb,roff+k * 6,none⟩=some (.bool hk')/\y.cell? ⟨rb,roff+k * 6+1,none⟩=some (.string kk)/\y.cell? ⟨rb,roff+k * 6+2,none⟩=some (.bool hv)/\y.cell? ⟨rb,roff+k * 6+3,none⟩=some (.string v)/\y.cell? ⟨rb,roff+k * 6+4,none⟩=some (.int .i64 t)/\y.cell? ⟨rb,roff+k * 6+5,none⟩=some (.int .i64 o)) x->(fun y:World=>y.cell? ⟨w.heap.size,4,none⟩=some (.slice (some ⟨rb,roff,none⟩) rs.length cap)/\y.cell? ⟨rb,roff+4,none⟩=some (.int .i64 (fn:Int))/\y.cell? ⟨rb,roff+k * 6,none⟩=some (.bool hk')/\y.cell? ⟨rb,roff+k * 6+1,none⟩=some (.string kk)/\y.cell? ⟨rb,roff+k * 6+2,none⟩=some (.bool hv)/\y.cell? ⟨rb,roff+k * 6+3,none⟩=some (.string v)/\y.cell? ⟨rb,roff+k * 6+4,none⟩=some (.int .i64 t)/\y.cell? ⟨rb,roff+k * 6+5,none⟩=some (.int .i64 o)) y):=by
    rintro x y hb ⟨g0,g1,g2,g3,g4,g5,g6,g7⟩
    exact⟨(hb.cell (World.block_lt_of_cell? _ _ g0)).trans g0,(hb.cell (World.block_lt_of_cell? _ _ g1)).trans g1,(hb.cell (World.block_lt_of_cell? _ _ g2)).trans g2,(hb.cell (World.block_lt_of_cell? _ _ g3)).trans g3,(hb.cell (World.block_lt_of_cell? _ _ g4)).trans g4,(hb.cell (World.block_lt_of_cell? _ _ g5)).trans g5,(hb.cell (World.block_lt_of_cell? _ _ g6)).trans g6,(hb.cell (World.block_lt_of_cell? _ _ g7)).trans g7⟩
   go_wp2_with fail
   go_region_held3 (fun y:World=>y.cell? ⟨w.heap.size,4,none⟩=some (.slice (some ⟨rb,roff,none⟩) rs.length cap)/\y.cell? ⟨rb,roff+4,none⟩=some (.int .i64 (fn:Int))/\y.cell? ⟨rb,roff+k * 6,none⟩=some (.bool hk')/\y.cell? ⟨rb,roff+k * 6+1,none⟩=some (.string kk)/\y.cell? ⟨rb,roff+k * 6+2,none⟩=some (.bool hv)/\y.cell? ⟨rb,roff+k * 6+3,none⟩=some (.string v)/\y.cell? ⟨rb,roff+k * 6+4,none⟩=some (.int .i64 t)/\y.cell? ⟨rb,roff+k * 6+5,none⟩=some (.int .i64 o)) (first | exact hS4 | exact hS0)
    ((go_at_call 94;refine(HEn2.out _).mono ?_;rintro e w4 ⟨a4,c4',rfl,hr4,hn4,hb4⟩;have hS4:=HKP.out _ _ hb4 hS0;have hb5:Below wr.heap.size wr w4:=(Below.refl _ wr).drew.trans hb4;have hown4:=fQ hown hb5;have hbel4:=hb.trans (hb5.mono hz3)))
   go_wp2_with (at_builtin;refine aS (by rfl) _ _ rfl u.heap.size u _ _ _ rfl hown4 hbel4 hbel4.size a4 c4' L rfl hr4 hn4 (by omega) ?_;intro v5 w5 hown5 hbel5)
   refine⟨⟨k+1,by omega,by go_num,by rw[HL.out,List.length_append,dR];exact hown5,hbel5⟩,by simp[intOf];omega⟩
  ·obtain rfl:k=rs.length:=by omega
   go_wp2_with fail
   go_ret
   exact⟨_,rfl,cJ hown (by have:=HUB.out.bel.size;omega),HB.out.bel⟩
theorem aEg {b:Ba} (h:numsB b=false):chkB b=1:=by
 have:wrE b=1:=by unfold wrE;rw[h];simp
 unfold chkB
 rw[this]
 simp
theorem uT {b:Ba} (h:¬Rise b.rs b.span):chkB b=1:=by
 have:wrE b=1:=by unfold wrE;rw[tW h];simp
 unfold chkB
 rw[this]
 simp
theorem sX {b:Ba} (hn:numsB b=true) (h:Rise b.rs b.span):wrE b=fstE b.rs:=by unfold wrE;rw[hn,rC h];simp
theorem tY {r:Rc} (h:r.o < 0):chk r=1:=by
 unfold chk
 rw[if_pos]
 unfold oddB
 simp[h]
theorem aFj {b:Ba} (hn:numsB b=true) (h0:0 < b.rs.length) (h:(b.rs.getD 0 rz).o < 0):chkB b=1:=by
 by_cases hr:Rise b.rs b.span
 ·have e1:=sM b.rs 0 h0 (fun x hx=>by omega) (by rw[tY h];omega)
  have:wrE b=1:=by rw[sX hn hr,e1,tY h]
  unfold chkB
  rw[this]
  simp
 ·exact uT hr
theorem aHw {b:Ba} (hn:numsB b=true) (hr:Rise b.rs b.span) (k:Nat) (hk:k < b.rs.length) (h:∀x,x < k->chk (b.rs.getD x rz)=0) (hc:chk (b.rs.getD k rz)≠0):chkB b=chk (b.rs.getD k rz):=by
 have e:=sX hn hr
 rw[sM b.rs k hk h hc] at e
 unfold chkB
 rw[e,if_neg hc]
theorem aGh {b:Ba} (hn:numsB b=true) (hr:Rise b.rs b.span) (h:∀x,x < b.rs.length->chk (b.rs.getD x rz)=0):wrE b=0:=by rw[sX hn hr,rH b.rs h]
def szs (rs:List Rc):Nat:=(rs.map fun r=>r.k.size+r.v.size).sum
theorem pX (rs:List Rc) (k:Nat) (h:k < rs.length):szs (rs.take (k+1))=szs (rs.take k)+((rs.getD k rz).k.size+(rs.getD k rz).v.size):=by
 unfold szs
 rw[List.take_succ_eq_append_getElem h,List.map_append,List.sum_append]
 simp[List.getD,h]
theorem size_nil {s:ByteArray} (h:s.toList=[]):s.size=0:=by
 rw[empty_of h]
 rfl
theorem aGw {r:Rc} (first:Int) (h:chk r=0):r.k.size+r.v.size<=(encL r first).length:=by
 obtain⟨_,_,_,_,_,_,hk,hv⟩:=dN h
 have e1:r.k.size<=(textL r.hk r.k).length:=by
  unfold textL
  cases e:r.hk
  ·rw[size_nil (hk e)];omega
  ·simp[dO]
 have e2:r.v.size<=(textL r.hv r.v).length:=by
  unfold textL
  cases e:r.hv
  ·rw[size_nil (hv e)];omega
  ·simp[dO]
 unfold encL
 simp only[List.length_cons,List.length_append]
 omega
theorem aFc {rs:List Rc} (first:Int) (h:∀r,r ∈ rs->chk r=0):szs rs<=(bodyL rs first).length:=by
 induction rs with
 | nil=>simp[szs]
 | cons r t ih=>
  have h1:=ih (fun q hq=>h q (by simp[hq]))
  have h2:=aGw first (h r (by simp))
  rw[eP,List.length_append]
  simp only[szs,List.map_cons,List.sum_cons] at h1 ⊢
  omega
theorem aAk {rs:List Rc} {span:Int} (h:Rise rs span) (k:Nat) (hk:k<=rs.length) (hc:∀x,x < k->chk (rs.getD x rz)=0) (hs:span<=100):k<=100:=by
 have hg:∀i,i < k->(i:Int)<=(rs.getD i rz).o:=by
  intro i
  induction i with
  | zero=>
   intro hi
   have:=(dN (hc 0 hi)).2.2.1
   omega
  | succ i ih=>
   intro hi
   have h1:=ih (by omega)
   have h2:=(h (i+1) (by omega)).2 (by omega)
   simp only[Nat.add_sub_cancel] at h2
   omega
 by_cases h0:k=0
 ·omega
 ·have h3:=hg (k - 1) (by omega)
  have h4:=(h (k - 1) (by omega)).1
  omega
theorem aF9 {rs:List Rc} (k:Nat) (hk:k<=rs.length) (hc:∀x,x < k->chk (rs.getD x rz)=0):szs (rs.take k)<=k * 4000:=by
 induction k with
 | zero=>simp[szs]
 | succ k ih=>
  rw[pX rs k (by omega)]
  have:=ih (by omega) (fun x hx=>hc x (by omega))
  obtain⟨_,_,_,_,k1,v1,_⟩:=dN (hc k (by omega))
  omega
theorem qQ (b:Ba) (a:Option Addr) (cap:Nat) (w:World) (hr:RRow w a b.rs) (hi:In64B b) (hl:b.rs.length<=maxLen) :
 Calls Tryz.prog 79 #[bav b a cap] w fun e w'=>e=.returned (.int .i64 (chkB b))/\Below w.heap.size w w':=by
 have hl0:=hl
 unfold maxLen at hl
 have PN:Hid (numsB b=false->chkB b=1):=aEg
 have PR:Hid (¬Rise b.rs b.span->chkB b=1):=uT
 have PG:Hid (numsB b=true->(b.rs.getD 0 rz).o < 0->0 < b.rs.length->chkB b=1):=fun h1 h2 h3=>aFj h1 h3 h2
 have PA:Hid (numsB b=true->Rise b.rs b.span->∀k,k < b.rs.length->(∀x,x < k->chk (b.rs.getD x rz)=0)->chk (b.rs.getD k rz)≠0->chkB b=chk (b.rs.getD k rz)):=fun h1 h2 k=>aHw h1 h2 k
 have PZ:Hid (numsB b=true->Rise b.rs b.span->(∀x,x < b.rs.length->chk (b.rs.getD x rz)=0)->wrE b=0):=aGh
 have PS:Hid (∀n,(∀x,x < b.rs.length->chk (b.rs.getD x rz)=0)->szs b.rs=n->wrE b=0->6000 < n->chkB b=2):=by
  intro n h hn hw hs
  have hc:=(eV hw).2.2.2.2.2.2
  have:=aFc (frs b) hc
  unfold chkB
  rw[if_pos hw,if_pos (by omega)]
 have PC:Hid (∀m,wrE b=0->(tailL b).length=m->chkB b=if 6000 < m+16 then 2 else 0):=by
  intro m hw hm
  have:=fM b
  unfold chkB
  rw[if_pos hw,show 48+(bodyL b.rs (frs b)).length=m+16 by omega]
 have PB:Hid (∀x,RRow x a b.rs->wrE b=0->Calls Tryz.prog 80 #[bav b a cap] x fun e w'=>∃v,e=.returned v/\w'.ownsRow x.heap.size 5 1 v (tailL b).length (cv (tailL b))/\Below x.heap.size x w'):=fun x hx hw=>nX b a cap x hx hi hw
 have PM:Hid (wrE b=0->(∀i,(tailL b).getD i 0 < 256)/\(tailL b).length<=600000):=by
  intro hw
  refine⟨cG (fun x hx=>fP hw x (by unfold encBL;exact List.mem_append_right _ hx)),?_⟩
  have h1:=iP (frs b) (eV hw).2.2.2.2.2.2
  have h2:=(iJ hw).1
  have h3:=fM b
  omega
 have PL:Hid (wrE b=0->b.rs.length<=100):=fun hw=>(iJ hw).1
 obtain⟨c,HC⟩:∃c,Hid (chkB b=c):=⟨_,rfl⟩
 have HNU:Hid (numsB b=(baseB b.base && decide (1<=b.span) && decide (b.span<=100) && decide (0<=b.prod) && decide (0<=b.seq) && decide (0 < b.rs.length))):=rfl
 rw[HC.out] at PN PR PG PA PS PC ⊢
 obtain⟨W0,HW0⟩:∃W0,Hid (wrE b=W0):=⟨_,rfl⟩
 rw[HW0.out] at PZ PS PC PB PM PL
 generalize tailL b=TL at *
 generalize numsB b=nb at *
 clear HC HW0 hi
 obtain⟨base,span,prod,seq,rs⟩:=b
 simp only[bav] at *
 simp only[baseB] at HNU
 have HR0:Hid (RRow w a rs):=hr
 clear hr
 have HZ:Hid (∀cs,Below w.heap.size w (w.alloc (.cells cs 88))):=fun cs=>aA _
 by_cases h1:base < 0
 ·have h1d:decide (base < 0)=true:=decide_eq_true h1
  go_enter Tryz.func79,Tryz.ntmps79
  go_wp2_with fail
  go_ret
  refine⟨cN (PN.out ?_).symm,HZ.out _⟩
  rw[HNU.out]
  simp
  try omega
 ·have h1d:decide (base < 0)=false:=decide_eq_false h1
  by_cases h2:1125899906842624 < base
  ·have h2d:decide (1125899906842624 < base)=true:=decide_eq_true h2
   go_enter Tryz.func79,Tryz.ntmps79
   go_wp2_with fail
   go_ret
   refine⟨cN (PN.out ?_).symm,HZ.out _⟩
   rw[HNU.out]
   simp
   try omega
  ·have h2d:decide (1125899906842624 < base)=false:=decide_eq_false h2
   by_cases h3:span < 1
   ·have h3d:decide (span < 1)=true:=decide_eq_true h3
    go_enter Tryz.func79,Tryz.ntmps79
    go_wp2_with fail
    go_ret
    refine⟨cN (PN.out ?_).symm,HZ.out _⟩
    rw[HNU.out]
    simp
    try omega
   ·have h3d:decide (span < 1)=false:=decide_eq_false h3
    by_cases h4:100 < span
    ·have h4d:decide (100 < span)=true:=decide_eq_true h4
     go_enter Tryz.func79,Tryz.ntmps79
     go_wp2_with fail
     go_ret
     refine⟨cN (PN.out ?_).symm,HZ.out _⟩
     rw[HNU.out]
     simp
     try omega
    ·have h4d:decide (100 < span)=false:=decide_eq_false h4
     by_cases h5:prod < 0
     ·have h5d:decide (prod < 0)=true:=decide_eq_true h5
      go_enter Tryz.func79,Tryz.ntmps79
      go_wp2_with fail
      go_ret
      refine⟨cN (PN.out ?_).symm,HZ.out _⟩
      rw[HNU.out]
      simp
      try omega
     ·have h5d:decide (prod < 0)=false:=decide_eq_false h5
      by_cases h6:seq < 0
      ·have h6d:decide (seq < 0)=true:=decide_eq_true h6
       go_enter Tryz.func79,Tryz.ntmps79
       go_wp2_with fail
       go_ret
       refine⟨cN (PN.out ?_).symm,HZ.out _⟩
       rw[HNU.out]
       simp
       try omega
      ·have h6d:decide (seq < 0)=false:=decide_eq_false h6
       by_cases h7:((rs.length:Int) == 0)=true
       ·go_enter Tryz.func79,Tryz.ntmps79
        go_wp2_with fail
        go_ret
        refine⟨cN (PN.out ?_).symm,HZ.out _⟩
        rw[HNU.out]
        have:rs.length=0:=by simpa using h7
        simp[this]
       have h7d:((rs.length:Int) == 0)=false:=by simpa using h7
       have hpos:0 < rs.length:=by
        rcases Nat.eq_zero_or_pos rs.length with h | h
        ·exact absurd (by rw[h];rfl) h7
        ·exact h
       have hnb:nb=true:=by
        rw[HNU.out]
        simp[hpos]
        omega
       subst hnb
       clear HNU PN
       go_enter Tryz.func79,Tryz.ntmps79
       go_wp2_with fail
       have HB0:Hid (BxS w (bcells ⟨base,span,prod,seq,rs⟩ a cap) (w.alloc (.cells #[.int .i64 base,.int .i64 span,.int .i64 prod,.int .i64 seq,.slice a rs.length cap] 88))):=BxS.new w _
       have HSP:Hid (span<=100):=(by show _<=_;omega)
       clear h1 h1d h2 h2d h3 h3d h4 h4d h5 h5d h6 h6d h7 h7d HZ
       go_loopw [3,4] (fun l i wr=>∃(k:Nat) (z:Int),k<=rs.length/\i=.int .i64 k/\l=.int .i64 z/\(k=0->z = -1)/\(0 < k->z=(rs.getD (k - 1) rz).o)/\(∀x,x < k->RiseAt rs span x)/\BxS w (bcells ⟨base,span,prod,seq,rs⟩ a cap) wr) (fun _ i _=>rs.length - (intOf i).toNat)
       case atStart=>exact⟨0,-1,by omega,rfl,rfl,fun _=>rfl,fun h=>absurd h (by omega),by intro x hx;omega,HB0.out⟩
       case round=>
        obtain⟨k,z,hk,rfl,rfl,hz0,hz1,hS,hB⟩:=hrel
        have HS:Hid (∀x,x < k->RiseAt rs span x):=hS
        have HB:Hid (BxS w (bcells ⟨base,span,prod,seq,rs⟩ a cap) wr):=hB
        obtain⟨c0,c1,c2,c3,c4,cz⟩:=BxS.cells hB
        simp only at c0 c1 c2 c3 c4
        clear hS hB HB0
        by_cases hlt:k < rs.length
        ·have hltI:(k:Int) < (rs.length:Int):=by omega
         have HQ:Hid ((rs.getD k rz).o < span->z < (rs.getD k rz).o->∀x,x < k+1->RiseAt rs span x):=by
          intro e1 e2 j hj
          by_cases hjk:j=k
          ·subst hjk
           exact⟨e1,fun h=>by rw[<-hz1 h];exact e2⟩
          ·exact HS.out j (by omega)
         have HN:Hid (¬((rs.getD k rz).o < span/\z < (rs.getD k rz).o)->c=1):=by
          intro h
          by_cases hk0:k=0
          ·by_cases ho:(rs.getD 0 rz).o < 0
           ·exact PG.out trivial ho hpos
           ·refine PR.out (fun q=>h ⟨(q k hlt).1,?_⟩)
            rw[hz0 hk0,hk0]
            omega
          ·refine PR.out (fun q=>h ⟨(q k hlt).1,?_⟩)
           rw[hz1 (by omega)]
           exact(q k hlt).2 (by omega)
         obtain⟨b',off,rfl,z0,z1,z2,z3,z4,z5⟩:=(RRow.below HR0.out HB.out.bel) k hlt
         have hbz:=World.block_lt_of_cell? _ _ z0
         simp only at hbz
         have HBB:Hid (∀cs,BxS w (bcells ⟨base,span,prod,seq,rs⟩ (some ⟨b',off,none⟩) cap) (wr.alloc (.cells cs 84))):=fun cs=>BxS.below HB.out (aA _)
         have HO:Hid (∀o,(rs.getD k rz).o=o->(rs.getD (k+1 - 1) rz).o=o):=fun o h=>by rw[Nat.add_sub_cancel];exact h
         clear hz0 hz1
         generalize rs.getD k rz=r at *
         obtain⟨hk',kk,hv,v,t,o⟩:=r
         simp only at z0 z1 z2 z3 z4 z5
         by_cases g1:o<=z
         ·have g1d:decide (o<=z)=true:=decide_eq_true g1
          go_wp2_with fail
          go_ret
          exact⟨cN (HN.out (fun q=>absurd q.2 (by show ¬z < o;omega))).symm,(HBB.out _).bel⟩
         ·have g1d:decide (o<=z)=false:=decide_eq_false g1
          by_cases g2:span<=o
          ·have g2d:decide (span<=o)=true:=decide_eq_true g2
           go_wp2_with fail
           go_ret
           exact⟨cN (HN.out (fun q=>absurd q.1 (by show ¬o < span;omega))).symm,(HBB.out _).bel⟩
          ·have g2d:decide (span<=o)=false:=decide_eq_false g2
           go_wp2_with fail
           exact⟨⟨k+1,o,by omega,by go_num,rfl,fun h=>absurd h (by omega),fun _=>(HO.out o rfl).symm,HQ.out (by show o < span;omega) (by show z < o;omega),HBB.out _⟩,by simp[intOf];omega⟩
        ·obtain rfl:k=rs.length:=by omega
         have HRS:Hid (Rise rs span):=HS.out
         clear HS hz0 hz1 PR PG
         have HB1:=HB
         clear HB
         have HSZ:Hid (szs (rs.take rs.length)=szs rs):=by show _=_;rw[List.take_length]
         have HWR:Hid ((∀x,x < rs.length->chk (rs.getD x rz)=0)->W0=0):=fun h=>PZ.out trivial HRS.out h
         go_wp2_with fail
         clear c0 c1 c2 c3 c4 cz
         go_loopw [6,7] (fun n i wr=>∃(k:Nat),k<=rs.length/\i=.int .i64 k/\n=.int .i64 ((szs (rs.take k):Nat):Int)/\(∀x,x < k->chk (rs.getD x rz)=0)/\BxS w (bcells ⟨base,span,prod,seq,rs⟩ a cap) wr) (fun _ i _=>rs.length - (intOf i).toNat)
         case atStart=>exact⟨0,by omega,rfl,rfl,by intro x hx;omega,HB1.out⟩
         case round=>
          clear HB1
          obtain⟨k,hk,rfl,rfl,hS,hB⟩:=hrel
          have HS:Hid (∀x,x < k->chk (rs.getD x rz)=0):=hS
          have HB:Hid (BxS w (bcells ⟨base,span,prod,seq,rs⟩ a cap) wr):=hB
          have hk100:=aAk HRS.out k hk hS HSP.out
          have hnb:=aF9 k hk hS
          obtain⟨c0,c1,c2,c3,c4,cz⟩:=BxS.cells hB
          simp only at c0 c1 c2 c3 c4
          clear hS hB
          by_cases hlt:k < rs.length
          ·have hltI:(k:Int) < (rs.length:Int):=by omega
           have HQ:Hid (chk (rs.getD k rz)=0->∀x,x < k+1->chk (rs.getD x rz)=0):=by
            intro e j hj
            by_cases hjk:j=k
            ·subst hjk;exact e
            ·exact HS.out j (by omega)
           have HN:Hid (chk (rs.getD k rz)≠0->c=chk (rs.getD k rz)):=fun h=>PA.out trivial HRS.out k hlt HS.out h
           have HST:Hid (szs (rs.take (k+1))=szs (rs.take k)+((rs.getD k rz).k.size+(rs.getD k rz).v.size)):=pX rs k hlt
           have HKV:Hid (chk (rs.getD k rz)=0->(rs.getD k rz).k.size<=2000/\(rs.getD k rz).v.size<=2000):=fun h=>⟨(dN h).2.2.2.2.1,(dN h).2.2.2.2.2.1⟩
           have HCK:Hid _:=nI (rs.getD k rz)
           have HRR:=RRow.below HR0.out HB.out.bel
           obtain⟨b',off,rfl,z0,z1,z2,z3,z4,z5⟩:=HRR k hlt
           have hbz:=World.block_lt_of_cell? _ _ z0
           simp only at hbz
           have HRX:Hid (∀x,Below wr.heap.size wr x->x.cell? ⟨b',off+k * 6+1,none⟩=some (.string (rs.getD k rz).k)/\x.cell? ⟨b',off+k * 6+3,none⟩=some (.string (rs.getD k rz).v)):=fun x hx=>⟨(hx.cell (World.block_lt_of_cell? _ _ z1)).trans z1,(hx.cell (World.block_lt_of_cell? _ _ z3)).trans z3⟩
           clear HRR
           generalize szs (rs.take k)=S at *
           generalize rs.getD k rz=r at *
           obtain⟨cc,HC0⟩:∃cc,Hid (chk r=cc):=⟨_,rfl⟩
           rw[HC0.out] at HCK HQ HN HKV
           obtain⟨hk',kk,hv,v,t,o⟩:=r
           simp only at z0 z1 z2 z3 z4 z5
           simp only[Rc.cells] at HCK
           by_cases h0:cc=0
           ·subst h0
            obtain⟨kb,vb⟩:=HKV.out rfl
            simp only at kb vb
            have kbI:(kk.size:Int)<=2000:=by omega
            have vbI:(v.size:Int)<=2000:=by omega
            have hSI:(S:Int)<=400000:=by omega
            have w1:IntKind.i64.wrap ((S:Int)+(kk.size:Int))=(S:Int)+(kk.size:Int):=by rw[IntKind.wrap_i64];omega
            have w2:IntKind.i64.wrap ((S:Int)+(kk.size:Int)+(v.size:Int))=(S:Int)+(kk.size:Int)+(v.size:Int):=by rw[IntKind.wrap_i64];omega
            go_wp2_with (go_at_call 93;refine(HCK.out _).mono ?_;rintro e w4 ⟨rfl,hb4⟩;have HB4:Hid (BxS w (bcells ⟨base,span,prod,seq,rs⟩ (some ⟨b',off,none⟩) cap) w4):=BxS.below HB.out hb4;obtain⟨y1,y3⟩:=HRX.out w4 hb4;clear c0 c1 c2 c3 c4 cz z0 z1 z2 z3 z4 z5;obtain⟨c0,c1,c2,c3,c4,cz⟩:=BxS.cells HB4.out;simp only at c0 c1 c2 c3 c4 y1 y3)
            go_quiet (fail)
            go_wp2
            refine⟨⟨k+1,by omega,by go_num,?_,HQ.out trivial,?_⟩,by simp[intOf];omega⟩
            ·rw[HST.out];go_num
            ·exact BxS.below HB4.out (below_drewN (Below.refl _ _) _)
           ·have h0':(cc != 0)=true:=by rw[bne_iff_ne];exact h0
            go_wp2_with (go_at_call 93;refine(HCK.out _).mono ?_;rintro e w4 ⟨rfl,hb4⟩;have HB4:Hid (Below w.heap.size w w4):=HB.out.bel.trans (hb4.mono HB.out.bel.size))
            go_ret
            exact⟨cN (HN.out (by simpa using h0')).symm,HB4.out⟩
          ·obtain rfl:k=rs.length:=by omega
           have hW:=HWR.out HS.out
           subst hW
           obtain⟨n0,HN0⟩:∃n0,Hid (szs rs=n0):=⟨_,rfl⟩
           rw[HSZ.out,HN0.out] at hnb ⊢
           by_cases h6:(6000:Int) < (n0:Int)
           ·have h6d:decide ((6000:Int) < (n0:Int))=true:=decide_eq_true h6
            go_wp2_with fail
            go_ret
            exact⟨cN (PS.out n0 HS.out HN0.out (by trivial) (by omega)).symm,HB.out.bel⟩
           ·have h6d:decide ((6000:Int) < (n0:Int))=false:=decide_eq_false h6
            obtain⟨HTB,hTL⟩:=PM.out rfl
            have HTB2:Hid (∀i,TL.getD i 0 < 256):=HTB
            clear HTB
            obtain⟨m,HM⟩:∃m,Hid (TL.length=m):=⟨_,rfl⟩
            have hcm:=PC.out m rfl HM.out
            have HPB:Hid _:=fun x hx=>PB.out x hx rfl
            rw[HM.out] at hTL
            have w3:IntKind.i64.wrap ((m:Int)+16)=(m:Int)+16:=by rw[IntKind.wrap_i64];omega
            have HCM:Hid (c=if 6000 < m+16 then 2 else 0):=hcm
            clear hcm
            by_cases h8:(6000:Int) < (m:Int)+16
            ·go_wp2_with (go_at_call 80;refine(HPB.out _ (RRow.below HR0.out HB.out.bel)).mono ?_;rintro e w5 ⟨v5,rfl,hown5,hb5⟩;obtain⟨a5,k5,rfl,hr5,hn5⟩:=bQ hown5 HTB2.out;rw[HM.out];have HB5:Hid (Below w.heap.size w w5):=HB.out.bel.trans (hb5.mono HB.out.bel.size);clear hown5 hr5 hn5)
             go_ret
             exact⟨cN (by rw[HCM.out,if_pos (by omega)]),HB5.out⟩
            ·go_wp2_with (go_at_call 80;refine(HPB.out _ (RRow.below HR0.out HB.out.bel)).mono ?_;rintro e w5 ⟨v5,rfl,hown5,hb5⟩;obtain⟨a5,k5,rfl,hr5,hn5⟩:=bQ hown5 HTB2.out;rw[HM.out];have HB5:Hid (Below w.heap.size w w5):=HB.out.bel.trans (hb5.mono HB.out.bel.size);clear hown5 hr5 hn5)
             go_ret
             exact⟨cN (by rw[HCM.out,if_neg (by omega)]),HB5.out⟩
theorem jW (b:Ba) (a:Option Addr) (cap:Nat) (hi:In64B b) (hl:b.rs.length<=maxLen):BEnc 51 b a cap:=fun w ht hr=>by
 have HK:Hid (∀x,RRow x a b.rs->Calls Tryz.prog 79 #[bav b a cap] x fun e w'=>e=.returned (.int .i64 (chkB b))/\Below x.heap.size x w'):=fun x hx=>qQ b a cap x hx hi hl
 have HR0:Hid (RRow w a b.rs):=hr
 by_cases h:chkB b=0
 ·obtain⟨hw,h6⟩:=dD h
  have hR:encBR b=encBL b:=by unfold encBR;rw[if_pos h]
  rw[h] at HK
  rw[h,hR]
  obtain⟨b0,b1⟩:=(eV hw).1
  obtain⟨bn,ebn⟩:=Int.eq_ofNat_of_zero_le b0
  have HB:Hid (∀x,RRow x a b.rs->Calls Tryz.prog 80 #[bav b a cap] x fun e w'=>∃v,e=.returned v/\w'.ownsRow x.heap.size 5 1 v (tailL b).length (cv (tailL b))/\Below x.heap.size x w'):=fun x hx=>nX b a cap x hx hi hw
  have HTB:Hid (∀i,(tailL b).getD i 0 < 256):=cG (fun x hx=>fP hw x (by unfold encBL;exact List.mem_append_right _ hx))
  have hTL:(tailL b).length<=6000:=by have:=fM b;omega
  have hsl:=sum_lt (tailL b) (bF HTB.out)
  have hE:encBL b=(([]++lay 8 bn)++lay 4 ((tailL b).length+4))++lay 4 (P.sum (tailL b))++tailL b:=by
   unfold encBL headL
   rw[ebn]
   simp
  rw[hE]
  generalize tailL b=TL at *
  have HSU:Hid (∀x a k,Row x a TL->Calls Tryz.prog 81 #[.slice a TL.length k] x fun e w'=>e=.returned (.int .u32 ((P.sum TL:Nat):Int))/\w'=x):=fun x a k hr=>qY a k TL x hr (by unfold maxLen;omega)
  generalize P.sum TL=sn at *
  clear hE hR h hw h6 b0
  obtain⟨base,span,prod,seq,rs⟩:=b
  simp only[bav] at *
  subst ebn
  have HX1:Hid _:=fun v x u l hl h1 h2=>fS v l 8 bn x u u.heap.size h1 h2 (Nat.le_refl _) hl (by omega) (by omega)
  have HX2:Hid _:=fun v x u l hl h1 h2=>fS v l 4 (TL.length+4) x u u.heap.size h1 h2 (Nat.le_refl _) hl (by omega) (by omega)
  have HX3:Hid _:=fun v x u l hl h1 h2=>fS v l 4 sn x u u.heap.size h1 h2 (Nat.le_refl _) hl (by omega) (by omega)
  have HL1:Hid (([]++lay 8 bn).length<=1000):=by show _<=_;simp[aP]
  have HL2:Hid ((([]++lay 8 bn)++lay 4 (TL.length+4)).length<=1000):=by show _<=_;simp[aP]
  have HL3:Hid (((([]++lay 8 bn)++lay 4 (TL.length+4))++lay 4 sn).length<=1000):=by show _<=_;simp[aP]
  generalize lay 8 bn=l1 at *
  generalize lay 4 (TL.length+4)=l2 at *
  generalize lay 4 sn=l3 at *
  have hw1:IntKind.u64.wrap (bn:Int)=(bn:Int):=by rw[IntKind.wrap_u64];omega
  have hw2:IntKind.i64.wrap ((TL.length:Int)+4)=((TL.length+4:Nat):Int):=by rw[IntKind.wrap_i64];omega
  have hw3:IntKind.u64.wrap ((TL.length+4:Nat):Int)=((TL.length+4:Nat):Int):=by rw[IntKind.wrap_u64];omega
  have hw4:IntKind.u64.wrap (sn:Int)=(sn:Int):=by rw[IntKind.wrap_u64];omega
  obtain⟨tn,HTN⟩:∃tn,Hid (TL.length+4=tn):=⟨_,rfl⟩
  rw[HTN.out] at HX2 hw2 hw3
  clear hr ht b1
  have tok1:=trivial
  go_enter Tryz.func51,Tryz.ntmps51
  go_wp2_with (first
   | (go_at_call 79;refine(HK.out _ (RRow.below HR0.out (aA _))).mono ?_;rintro e w1 ⟨rfl,hb1⟩;have HB1:Hid (BxS w (bcells ⟨(bn:Int),span,prod,seq,rs⟩ a cap) w1):=BxS.below (BxS.new w _) hb1;have HRR:Hid (RRow w1 a rs):=RRow.below (RRow.below HR0.out (aA _)) hb1;obtain⟨c0,c1,c2,c3,c4,cz⟩:=BxS.cells HB1.out;simp only at c0 c1 c2 c3 c4;clear hb1)
   | (go_at_call 80;refine(HB.out _ HRR.out).mono ?_;rintro e w2 ⟨v2,rfl,hown2,hb2⟩;obtain⟨a2,k2,rfl,hr2,hn2⟩:=bQ hown2 HTB.out;have HB2:Hid (BxS w (bcells ⟨(bn:Int),span,prod,seq,rs⟩ a cap) w2):=BxS.below HB1.out hb2;clear c0 c1 c2 c3 c4 cz hown2 hb2 HRR;obtain⟨c0,c1,c2,c3,c4,cz⟩:=BxS.cells HB2.out;simp only at c0 c1 c2 c3 c4;have HRW:Hid (Row w2 a2 TL):=hr2;clear hr2)
   | (go_at_call 35;have _t:=tok1;refine(HX1.out _ _ w2 [] (by simp) (World.ownsRow_nil _ _ _ _) (Below.refl _ _)).mono ?_;clear tok1 _t;rintro e x1 ⟨v1,rfl,hown1,hb1⟩)
   | (go_at_call 35;have _t:=hown1;refine(HX2.out _ _ w2 ([]++l1) HL1.out hown1 hb1).mono ?_;clear hown1 _t;rintro e x2 ⟨v3,rfl,hown2,hb2⟩;have hr2:=Row.below HRW.out hb2)
   | (go_at_call 81;refine(HSU.out _ _ _ hr2).mono ?_;rintro e x3 ⟨rfl,hw⟩;subst x3)
   | (go_at_call 35;have _t:=hown2;refine(HX3.out _ _ w2 (([]++l1)++l2) HL2.out hown2 hb2).mono ?_;clear hown2 _t hr2;rintro e x4 ⟨v4,rfl,hown4,hb4⟩;have hr4:=Row.below HRW.out hb4)
   | (at_builtin;refine aS (by rfl) _ _ rfl w2.heap.size w2 _ _ _ rfl hown4 hb4 hb4.size a2 k2 TL rfl hr4 hn2 (by have:=HL3.out;omega) ?_;intro v5 w5 hown5 hbel5))
  go_ret2
  refine⟨v5,rfl,?_,HB2.out.bel.trans (hbel5.mono HB2.out.bel.size)⟩
  rw[List.length_append,dR]
  exact cJ hown5 HB2.out.bel.size
 ·have hR:encBR b=[]:=by unfold encBR;rw[if_neg h]
  have hne:(chkB b != 0)=true:=by rw[bne_iff_ne];exact h
  rw[hR]
  generalize chkB b=c at *
  obtain⟨base,span,prod,seq,rs⟩:=b
  simp only[bav] at *
  clear h hr ht
  go_enter Tryz.func51,Tryz.ntmps51
  go_wp2_with (go_at_call 79;refine(HK.out _ (RRow.below HR0.out (aA _))).mono ?_;rintro e w1 ⟨rfl,hb1⟩;have HB1:Hid (Below w.heap.size w w1):=(aA _).trans (hb1.mono (by simp)))
  go_ret2
  exact⟨_,rfl,World.ownsRow_nil _ _ _ _,HB1.out⟩
theorem aF {u y:World} (hb:Below ((u.alloc (.cells rz.cells 84)).alloc (.cells rz.cells 84)).heap.size ((u.alloc (.cells rz.cells 84)).alloc (.cells rz.cells 84)) y) :
 y.heap[u.heap.size]? = some (.cells rz.cells 84 (0,0))/\y.heap[u.heap.size+1]? = some (.cells rz.cells 84 (0,0))/\Below u.heap.size u y:=by
 have h1:(u.alloc (.cells rz.cells 84)).heap[u.heap.size]? = some (.cells rz.cells 84 (0,0)):=heap_alloc_new u _
 have h2:((u.alloc (.cells rz.cells 84)).alloc (.cells rz.cells 84)).heap[(u.alloc (.cells rz.cells 84)).heap.size]? = some (.cells rz.cells 84 (0,0)):=heap_alloc_new _ _
 have h3:=(aA (w:=u.alloc (.cells rz.cells 84)) (.cells rz.cells 84)).block u.heap.size (by simp)
 rw[World.size_alloc] at h2
 have hB:Below u.heap.size u ((u.alloc (.cells rz.cells 84)).alloc (.cells rz.cells 84)):=(aA _).trans ((aA _).mono (by simp))
 exact⟨by rw[hb.block _ (by simp;omega),h3];exact h1,by rw[hb.block _ (by simp)];exact h2,hB.trans (hb.mono (by simp;omega))⟩
theorem aDq (b off:Nat) (first:Int) (u:World) (c:Nat) (hc0:u.cell? ⟨b,off,none⟩=some (.int .u8 (c:Int))) (h3:c<=3) (f0:0<=first) (f1:first<=1125899906842624) (V0:Nat) (HU0:Hid (Calls Tryz.prog 86 #[.slice (some ⟨b,off,none⟩) 0 0] ((u.alloc (.cells #[.bool false,.string ⟨#[]⟩,.bool false,.string ⟨#[]⟩,.int .i64 0,.int .i64 0] 84)).alloc (.cells #[.bool false,.string ⟨#[]⟩,.bool false,.string ⟨#[]⟩,.int .i64 0,.int .i64 0] 84)) fun e w'=>e=.returned (.tuple #[.int .u64 (V0:Int),.int .i64 0])/\w'=((u.alloc (.cells #[.bool false,.string ⟨#[]⟩,.bool false,.string ⟨#[]⟩,.int .i64 0,.int .i64 0] 84)).alloc (.cells #[.bool false,.string ⟨#[]⟩,.bool false,.string ⟨#[]⟩,.int .i64 0,.int .i64 0] 84)))) :
 Calls Tryz.prog 65 #[.slice (some ⟨b,off,none⟩) 1 1,.int .i64 first] u fun e w'=>e=.returned (.tuple #[.agg rz.cells,.int .i64 0,.int .i64 10])/\Below u.heap.size u w':=by
 have h0:=trivial
 have hbw:b < u.heap.size:=World.block_lt_of_cell? _ _ hc0
 have h3I:¬(3:Int) < (c:Int):=by omega
 have g0I:¬first < 0:=by omega
 have g1I:¬1125899906842624 < first:=by omega
 have tok1:=trivial
 go_enter Tryz.func65,Tryz.ntmps65
 go_wp2_with (first
  | (go_at_call 86;have _t:=tok1;refine Calls.mono HU0.out ?_;clear tok1 _t;rintro e w1 ⟨rfl,hw⟩;subst w1)
  | (have _t:=h0;refine wpList_load_row rfl 84 _ rfl (u.heap.size+1) rfl 84 rz.cells (0,0) _ (aF (Below.refl _ _)).2.1 Tryz.underlying84 rfl Tryz.info84 ?_)
  | (have _t:=h0;refine wpList_store_row rfl 84 _ _ rfl u.heap.size rz.cells rfl rfl 84 rz.cells (aF (Below.refl _ _)).1 Tryz.info84 rfl (bM _) ?_))
 refine bodyPost_ret (v:=.tuple #[.agg rz.cells,.int .i64 0,.int .i64 10]) ?_ rfl ⟨rfl,?_⟩
 ·exact aN (p:=4) (u:=5) (u2:=6) (by rfl) _ _ u.heap.size rz _ _ (by rfl) (by rfl) (by rfl) (setRow_heap _ _ _ _ _ _ (aF (Below.refl _ _)).1)
 ·exact below_setRow (aF (Below.refl _ _)).2.2 (Nat.le_refl _) _
theorem aCs (b off cap len:Nat) (first:Int) (u:World) (c:Nat) (hc0:u.cell? ⟨b,off,none⟩=some (.int .u8 (c:Int))) (h0:0 < len) (hl:len<=6000) (hlc:len<=cap) (hcm:cap<=9223372036854775807) (h3:c<=3) (f0:0<=first) (f1:first<=1125899906842624) (hc1:¬cap=1) (V0:Nat) (HU0:Hid (Calls Tryz.prog 86 #[.slice (some ⟨b,off+1,none⟩) (len - 1) (cap - 1)] ((u.alloc (.cells #[.bool false,.string ⟨#[]⟩,.bool false,.string ⟨#[]⟩,.int .i64 0,.int .i64 0] 84)).alloc (.cells #[.bool false,.string ⟨#[]⟩,.bool false,.string ⟨#[]⟩,.int .i64 0,.int .i64 0] 84)) fun e w'=>e=.returned (.tuple #[.int .u64 (V0:Int),.int .i64 0])/\w'=((u.alloc (.cells #[.bool false,.string ⟨#[]⟩,.bool false,.string ⟨#[]⟩,.int .i64 0,.int .i64 0] 84)).alloc (.cells #[.bool false,.string ⟨#[]⟩,.bool false,.string ⟨#[]⟩,.int .i64 0,.int .i64 0] 84)))) :
 Calls Tryz.prog 65 #[.slice (some ⟨b,off,none⟩) len cap,.int .i64 first] u fun e w'=>e=.returned (.tuple #[.agg rz.cells,.int .i64 0,.int .i64 10])/\Below u.heap.size u w':=by
 have hbw:b < u.heap.size:=World.block_lt_of_cell? _ _ hc0
 have h0I:((len:Int) == 0)=false:=by rw[beq_eq_false_iff_ne];omega
 have h0J:(0:Int) < (len:Int):=by omega
 have h3I:¬(3:Int) < (c:Int):=by omega
 have g0I:¬first < 0:=by omega
 have g1I:¬1125899906842624 < first:=by omega
 have hlI:(len:Int)<=6000:=by omega
 have hlcI:(len:Int)<=(cap:Int):=by omega
 have tok1:=trivial
 go_enter Tryz.func65,Tryz.ntmps65
 go_wp2_with (first
  | (go_at_call 86;have _t:=tok1;refine Calls.mono HU0.out ?_;clear tok1 _t;rintro e w1 ⟨rfl,hw⟩;subst w1)
  | (have _t:=h0;refine wpList_load_row rfl 84 _ rfl (u.heap.size+1) rfl 84 rz.cells (0,0) _ (aF (Below.refl _ _)).2.1 Tryz.underlying84 rfl Tryz.info84 ?_)
  | (have _t:=h0;refine wpList_store_row rfl 84 _ _ rfl u.heap.size rz.cells rfl rfl 84 rz.cells (aF (Below.refl _ _)).1 Tryz.info84 rfl (bM _) ?_))
 refine bodyPost_ret (v:=.tuple #[.agg rz.cells,.int .i64 0,.int .i64 10]) ?_ rfl ⟨rfl,?_⟩
 ·exact aN (p:=4) (u:=5) (u2:=6) (by rfl) _ _ u.heap.size rz _ _ (by rfl) (by rfl) (by rfl) (setRow_heap _ _ _ _ _ _ (aF (Below.refl _ _)).1)
 ·exact below_setRow (aF (Below.refl _ _)).2.2 (Nat.le_refl _) _
theorem aBw (b off cap len:Nat) (first:Int) (u:World) (c:Nat) (hc0:u.cell? ⟨b,off,none⟩=some (.int .u8 (c:Int))) (h0:0 < len) (hl:len<=6000) (hlc:len<=cap) (hcm:cap<=9223372036854775807) (h3:c<=3) (f0:0<=first) (f1:first<=1125899906842624) (hc1:¬cap=1) (V0 n0:Nat) (hn0:((n0:Int) == 0)=false) (hV:(100:Int)<=(V0:Int)) (HU0:Hid (Calls Tryz.prog 86 #[.slice (some ⟨b,off+1,none⟩) (len - 1) (cap - 1)] ((u.alloc (.cells #[.bool false,.string ⟨#[]⟩,.bool false,.string ⟨#[]⟩,.int .i64 0,.int .i64 0] 84)).alloc (.cells #[.bool false,.string ⟨#[]⟩,.bool false,.string ⟨#[]⟩,.int .i64 0,.int .i64 0] 84)) fun e w'=>e=.returned (.tuple #[.int .u64 (V0:Int),.int .i64 (n0:Int)])/\w'=((u.alloc (.cells #[.bool false,.string ⟨#[]⟩,.bool false,.string ⟨#[]⟩,.int .i64 0,.int .i64 0] 84)).alloc (.cells #[.bool false,.string ⟨#[]⟩,.bool false,.string ⟨#[]⟩,.int .i64 0,.int .i64 0] 84)))) :
 Calls Tryz.prog 65 #[.slice (some ⟨b,off,none⟩) len cap,.int .i64 first] u fun e w'=>e=.returned (.tuple #[.agg rz.cells,.int .i64 0,.int .i64 10])/\Below u.heap.size u w':=by
 have hbw:b < u.heap.size:=World.block_lt_of_cell? _ _ hc0
 have h0I:((len:Int) == 0)=false:=by rw[beq_eq_false_iff_ne];omega
 have h0J:(0:Int) < (len:Int):=by omega
 have h3I:¬(3:Int) < (c:Int):=by omega
 have g0I:¬first < 0:=by omega
 have g1I:¬1125899906842624 < first:=by omega
 have hlI:(len:Int)<=6000:=by omega
 have hlcI:(len:Int)<=(cap:Int):=by omega
 have tok1:=trivial
 go_enter Tryz.func65,Tryz.ntmps65
 go_wp2_with (first
  | (go_at_call 86;have _t:=tok1;refine Calls.mono HU0.out ?_;clear tok1 _t;rintro e w1 ⟨rfl,hw⟩;subst w1)
  | (have _t:=h0;refine wpList_load_row rfl 84 _ rfl (u.heap.size+1) rfl 84 rz.cells (0,0) _ (aF (Below.refl _ _)).2.1 Tryz.underlying84 rfl Tryz.info84 ?_)
  | (have _t:=h0;refine wpList_store_row rfl 84 _ _ rfl u.heap.size rz.cells rfl rfl 84 rz.cells (aF (Below.refl _ _)).1 Tryz.info84 rfl (bM _) ?_))
 refine bodyPost_ret (v:=.tuple #[.agg rz.cells,.int .i64 0,.int .i64 10]) ?_ rfl ⟨rfl,?_⟩
 ·exact aN (p:=4) (u:=5) (u2:=6) (by rfl) _ _ u.heap.size rz _ _ (by rfl) (by rfl) (by rfl) (setRow_heap _ _ _ _ _ _ (aF (Below.refl _ _)).1)
 ·exact below_setRow (aF (Below.refl _ _)).2.2 (Nat.le_refl _) _
theorem aEr (b off len:Nat) (first:Int) (u:World) (c:Nat) (hc0:u.cell? ⟨b,off,none⟩=some (.int .u8 (c:Int))) (h0:0 < len) (hl:len<=6000) (h3:c<=3) (f0:0<=first) (f1:first<=1125899906842624) (V0 n0:Nat) (hc1:¬1+n0=1) (hn0:((n0:Int) == 0)=false) (hV:¬(100:Int)<=(V0:Int)) (hln:len=1+n0) (HU0:Hid (Calls Tryz.prog 86 #[.slice (some ⟨b,off+1,none⟩) n0 n0] ((u.alloc (.cells #[.bool false,.string ⟨#[]⟩,.bool false,.string ⟨#[]⟩,.int .i64 0,.int .i64 0] 84)).alloc (.cells #[.bool false,.string ⟨#[]⟩,.bool false,.string ⟨#[]⟩,.int .i64 0,.int .i64 0] 84)) fun e w'=>e=.returned (.tuple #[.int .u64 (V0:Int),.int .i64 (n0:Int)])/\w'=((u.alloc (.cells #[.bool false,.string ⟨#[]⟩,.bool false,.string ⟨#[]⟩,.int .i64 0,.int .i64 0] 84)).alloc (.cells #[.bool false,.string ⟨#[]⟩,.bool false,.string ⟨#[]⟩,.int .i64 0,.int .i64 0] 84)))) (V1:Nat) (Z:Int) (HU1:Hid (Calls Tryz.prog 86 #[.slice (some ⟨b,off,none⟩) 0 0] ((u.alloc (.cells #[.bool false,.string ⟨#[]⟩,.bool false,.string ⟨#[]⟩,.int .i64 0,.int .i64 0] 84)).alloc (.cells #[.bool false,.string ⟨#[]⟩,.bool false,.string ⟨#[]⟩,.int .i64 0,.int .i64 0] 84)) fun e w'=>e=.returned (.tuple #[.int .u64 (V1:Int),.int .i64 0])/\w'=((u.alloc (.cells #[.bool false,.string ⟨#[]⟩,.bool false,.string ⟨#[]⟩,.int .i64 0,.int .i64 0] 84)).alloc (.cells #[.bool false,.string ⟨#[]⟩,.bool false,.string ⟨#[]⟩,.int .i64 0,.int .i64 0] 84)))) (HZ:Hid (Calls Tryz.prog 87 #[.int .u64 (V1:Int)] ((u.alloc (.cells #[.bool false,.string ⟨#[]⟩,.bool false,.string ⟨#[]⟩,.int .i64 0,.int .i64 0] 84)).alloc (.cells #[.bool false,.string ⟨#[]⟩,.bool false,.string ⟨#[]⟩,.int .i64 0,.int .i64 0] 84)) fun e w'=>e=.returned (.int .i64 Z)/\w'=((u.alloc (.cells #[.bool false,.string ⟨#[]⟩,.bool false,.string ⟨#[]⟩,.int .i64 0,.int .i64 0] 84)).alloc (.cells #[.bool false,.string ⟨#[]⟩,.bool false,.string ⟨#[]⟩,.int .i64 0,.int .i64 0] 84)))) :
 Calls Tryz.prog 65 #[.slice (some ⟨b,off,none⟩) len len,.int .i64 first] u fun e w'=>e=.returned (.tuple #[.agg rz.cells,.int .i64 0,.int .i64 10])/\Below u.heap.size u w':=by
 subst hln
 have hbw:b < u.heap.size:=World.block_lt_of_cell? _ _ hc0
 have h0I:(((1+n0:Nat):Int) == 0)=false:=by rw[beq_eq_false_iff_ne];omega
 have h0J:(0:Int) < ((1+n0:Nat):Int):=by omega
 have h3I:¬(3:Int) < (c:Int):=by omega
 have g0I:¬first < 0:=by omega
 have g1I:¬1125899906842624 < first:=by omega
 have hlI:((1+n0:Nat):Int)<=6000:=by omega
 have tok1:=trivial
 go_enter Tryz.func65,Tryz.ntmps65
 go_wp2_with (first
  | (go_at_call 86;have _t:=tok1;refine Calls.mono HU0.out ?_;clear tok1 _t;rintro e w1 ⟨rfl,hw⟩;subst w1)
  | (go_at_call 86;refine Calls.mono HU1.out ?_;rintro e w1 ⟨rfl,hw⟩;subst w1)
  | (go_at_call 87;refine Calls.mono HZ.out ?_;rintro e w1 ⟨rfl,hw⟩;subst w1)
  | (have _t:=h3;refine wpList_load_row rfl 84 _ rfl (u.heap.size+1) rfl 84 rz.cells (0,0) _ (aF (Below.refl _ _)).2.1 Tryz.underlying84 rfl Tryz.info84 ?_)
  | (have _t:=h3;refine wpList_store_row rfl 84 _ _ rfl u.heap.size rz.cells rfl rfl 84 rz.cells (aF (Below.refl _ _)).1 Tryz.info84 rfl (bM _) ?_))
 refine bodyPost_ret (v:=.tuple #[.agg rz.cells,.int .i64 0,.int .i64 10]) ?_ rfl ⟨rfl,?_⟩
 ·exact aN (p:=4) (u:=5) (u2:=6) (by rfl) _ _ u.heap.size rz _ _ (by rfl) (by rfl) (by rfl) (setRow_heap _ _ _ _ _ _ (aF (Below.refl _ _)).1)
 ·exact below_setRow (aF (Below.refl _ _)).2.2 (Nat.le_refl _) _
theorem aD5 (b off cap len:Nat) (first:Int) (u:World) (c:Nat) (hc0:u.cell? ⟨b,off,none⟩=some (.int .u8 (c:Int))) (h0:0 < len) (hl:len<=6000) (hlc:len<=cap) (hcm:cap<=9223372036854775807) (h3:c<=3) (f0:0<=first) (f1:first<=1125899906842624) (hc1:¬cap=1) (V0 n0:Nat) (hn0:((n0:Int) == 0)=false) (hV:¬(100:Int)<=(V0:Int)) (HU0:Hid (Calls Tryz.prog 86 #[.slice (some ⟨b,off+1,none⟩) (len - 1) (cap - 1)] ((u.alloc (.cells #[.bool false,.string ⟨#[]⟩,.bool false,.string ⟨#[]⟩,.int .i64 0,.int .i64 0] 84)).alloc (.cells #[.bool false,.string ⟨#[]⟩,.bool false,.string ⟨#[]⟩,.int .i64 0,.int .i64 0] 84)) fun e w'=>e=.returned (.tuple #[.int .u64 (V0:Int),.int .i64 (n0:Int)])/\w'=((u.alloc (.cells #[.bool false,.string ⟨#[]⟩,.bool false,.string ⟨#[]⟩,.int .i64 0,.int .i64 0] 84)).alloc (.cells #[.bool false,.string ⟨#[]⟩,.bool false,.string ⟨#[]⟩,.int .i64 0,.int .i64 0] 84)))) (hi:1+n0<=len) (hc2:¬cap=1+n0) (V1 n1:Nat) (Z:Int) (hn1:n1=0) (HU1:Hid (Calls Tryz.prog 86 #[.slice (some ⟨b,off+(1+n0),none⟩) (len - (1+n0)) (cap - (1+n0))] ((u.alloc (.cells #[.bool false,.string ⟨#[]⟩,.bool false,.string ⟨#[]⟩,.int .i64 0,.int .i64 0] 84)).alloc (.cells #[.bool false,.string ⟨#[]⟩,.bool false,.string ⟨#[]⟩,.int .i64 0,.int .i64 0] 84)) fun e w'=>e=.returned (.tuple #[.int .u64 (V1:Int),.int .i64 (n1:Int)])/\w'=((u.alloc (.cells #[.bool false,.string ⟨#[]⟩,.bool false,.string ⟨#[]⟩,.int .i64 0,.int .i64 0] 84)).alloc (.cells #[.bool false,.string ⟨#[]⟩,.bool false,.string ⟨#[]⟩,.int .i64 0,.int .i64 0] 84)))) (HZ:Hid (Calls Tryz.prog 87 #[.int .u64 (V1:Int)] ((u.alloc (.cells #[.bool false,.string ⟨#[]⟩,.bool false,.string ⟨#[]⟩,.int .i64 0,.int .i64 0] 84)).alloc (.cells #[.bool false,.string ⟨#[]⟩,.bool false,.string ⟨#[]⟩,.int .i64 0,.int .i64 0] 84)) fun e w'=>e=.returned (.int .i64 Z)/\w'=((u.alloc (.cells #[.bool false,.string ⟨#[]⟩,.bool false,.string ⟨#[]⟩,.int .i64 0,.int .i64 0] 84)).alloc (.cells #[.bool false,.string ⟨#[]⟩,.bool false,.string ⟨#[]⟩,.int .i64 0,.int .i64 0] 84)))) :
 Calls Tryz.prog 65 #[.slice (some ⟨b,off,none⟩) len cap,.int .i64 first] u fun e w'=>e=.returned (.tuple #[.agg rz.cells,.int .i64 0,.int .i64 10])/\Below u.heap.size u w':=by
 have hbw:b < u.heap.size:=World.block_lt_of_cell? _ _ hc0
 have h0I:((len:Int) == 0)=false:=by rw[beq_eq_false_iff_ne];omega
 have h0J:(0:Int) < (len:Int):=by omega
 have h3I:¬(3:Int) < (c:Int):=by omega
 have g0I:¬first < 0:=by omega
 have g1I:¬1125899906842624 < first:=by omega
 have hlI:(len:Int)<=6000:=by omega
 have hlcI:(len:Int)<=(cap:Int):=by omega
 have hiI:1+(n0:Int)<=(len:Int):=by omega
 have hicI:1+(n0:Int)<=(cap:Int):=by omega
 subst hn1
 have tok1:=trivial
 go_enter Tryz.func65,Tryz.ntmps65
 go_wp2_with (first
  | (go_at_call 86;have _t:=tok1;refine Calls.mono HU0.out ?_;clear tok1 _t;rintro e w1 ⟨rfl,hw⟩;subst w1)
  | (go_at_call 86;refine Calls.mono HU1.out ?_;rintro e w1 ⟨rfl,hw⟩;subst w1)
  | (go_at_call 87;refine Calls.mono HZ.out ?_;rintro e w1 ⟨rfl,hw⟩;subst w1)
  | (have _t:=h0;refine wpList_load_row rfl 84 _ rfl (u.heap.size+1) rfl 84 rz.cells (0,0) _ (aF (Below.refl _ _)).2.1 Tryz.underlying84 rfl Tryz.info84 ?_)
  | (have _t:=h0;refine wpList_store_row rfl 84 _ _ rfl u.heap.size rz.cells rfl rfl 84 rz.cells (aF (Below.refl _ _)).1 Tryz.info84 rfl (bM _) ?_))
 refine bodyPost_ret (v:=.tuple #[.agg rz.cells,.int .i64 0,.int .i64 10]) ?_ rfl ⟨rfl,?_⟩
 ·exact aN (p:=4) (u:=5) (u2:=6) (by rfl) _ _ u.heap.size rz _ _ (by rfl) (by rfl) (by rfl) (setRow_heap _ _ _ _ _ _ (aF (Below.refl _ _)).1)
 ·exact below_setRow (aF (Below.refl _ _)).2.2 (Nat.le_refl _) _
theorem aEb (b off cap len:Nat) (first:Int) (u:World) (c:Nat) (hc0:u.cell? ⟨b,off,none⟩=some (.int .u8 (c:Int))) (h0:0 < len) (hl:len<=6000) (hlc:len<=cap) (hcm:cap<=9223372036854775807) (h3:c<=3) (f0:0<=first) (f1:first<=1125899906842624) (hc1:¬cap=1) (V0 n0:Nat) (hn0:((n0:Int) == 0)=false) (hV:¬(100:Int)<=(V0:Int)) (HU0:Hid (Calls Tryz.prog 86 #[.slice (some ⟨b,off+1,none⟩) (len - 1) (cap - 1)] ((u.alloc (.cells #[.bool false,.string ⟨#[]⟩,.bool false,.string ⟨#[]⟩,.int .i64 0,.int .i64 0] 84)).alloc (.cells #[.bool false,.string ⟨#[]⟩,.bool false,.string ⟨#[]⟩,.int .i64 0,.int .i64 0] 84)) fun e w'=>e=.returned (.tuple #[.int .u64 (V0:Int),.int .i64 (n0:Int)])/\w'=((u.alloc (.cells #[.bool false,.string ⟨#[]⟩,.bool false,.string ⟨#[]⟩,.int .i64 0,.int .i64 0] 84)).alloc (.cells #[.bool false,.string ⟨#[]⟩,.bool false,.string ⟨#[]⟩,.int .i64 0,.int .i64 0] 84)))) (hi:1+n0<=len) (hc2:¬cap=1+n0) (V1 n1:Nat) (Z:Int) (hn1:((n1:Int) == 0)=false) (hd:Z < -first) (HU1:Hid (Calls Tryz.prog 86 #[.slice (some ⟨b,off+(1+n0),none⟩) (len - (1+n0)) (cap - (1+n0))] ((u.alloc (.cells #[.bool false,.string ⟨#[]⟩,.bool false,.string ⟨#[]⟩,.int .i64 0,.int .i64 0] 84)).alloc (.cells #[.bool false,.string ⟨#[]⟩,.bool false,.string ⟨#[]⟩,.int .i64 0,.int .i64 0] 84)) fun e w'=>e=.returned (.tuple #[.int .u64 (V1:Int),.int .i64 (n1:Int)])/\w'=((u.alloc (.cells #[.bool false,.string ⟨#[]⟩,.bool false,.string ⟨#[]⟩,.int .i64 0,.int .i64 0] 84)).alloc (.cells #[.bool false,.string ⟨#[]⟩,.bool false,.string ⟨#[]⟩,.int .i64 0,.int .i64 0] 84)))) (HZ:Hid (Calls Tryz.prog 87 #[.int .u64 (V1:Int)] ((u.alloc (.cells #[.bool false,.string ⟨#[]⟩,.bool false,.string ⟨#[]⟩,.int .i64 0,.int .i64 0] 84)).alloc (.cells #[.bool false,.string ⟨#[]⟩,.bool false,.string ⟨#[]⟩,.int .i64 0,.int .i64 0] 84)) fun e w'=>e=.returned (.int .i64 Z)/\w'=((u.alloc (.cells #[.bool false,.string ⟨#[]⟩,.bool false,.string ⟨#[]⟩,.int .i64 0,.int .i64 0] 84)).alloc (.cells #[.bool false,.string ⟨#[]⟩,.bool false,.string ⟨#[]⟩,.int .i64 0,.int .i64 0] 84)))) :
 Calls Tryz.prog 65 #[.slice (some ⟨b,off,none⟩) len cap,.int .i64 first] u fun e w'=>e=.returned (.tuple #[.agg rz.cells,.int .i64 0,.int .i64 10])/\Below u.heap.size u w':=by
 have hbw:b < u.heap.size:=World.block_lt_of_cell? _ _ hc0
 have h0I:((len:Int) == 0)=false:=by rw[beq_eq_false_iff_ne];omega
 have h0J:(0:Int) < (len:Int):=by omega
 have h3I:¬(3:Int) < (c:Int):=by omega
 have g0I:¬first < 0:=by omega
 have g1I:¬1125899906842624 < first:=by omega
 have hlI:(len:Int)<=6000:=by omega
 have hlcI:(len:Int)<=(cap:Int):=by omega
 have hiI:1+(n0:Int)<=(len:Int):=by omega
 have hicI:1+(n0:Int)<=(cap:Int):=by omega
 have tok1:=trivial
 go_enter Tryz.func65,Tryz.ntmps65
 go_wp2_with (first
  | (go_at_call 86;have _t:=tok1;refine Calls.mono HU0.out ?_;clear tok1 _t;rintro e w1 ⟨rfl,hw⟩;subst w1)
  | (go_at_call 86;refine Calls.mono HU1.out ?_;rintro e w1 ⟨rfl,hw⟩;subst w1)
  | (go_at_call 87;refine Calls.mono HZ.out ?_;rintro e w1 ⟨rfl,hw⟩;subst w1)
  | (have _t:=h0;refine wpList_load_row rfl 84 _ rfl (u.heap.size+1) rfl 84 rz.cells (0,0) _ (aF (Below.refl _ _)).2.1 Tryz.underlying84 rfl Tryz.info84 ?_)
  | (have _t:=h0;refine wpList_store_row rfl 84 _ _ rfl u.heap.size rz.cells rfl rfl 84 rz.cells (aF (Below.refl _ _)).1 Tryz.info84 rfl (bM _) ?_))
 refine bodyPost_ret (v:=.tuple #[.agg rz.cells,.int .i64 0,.int .i64 10]) ?_ rfl ⟨rfl,?_⟩
 ·exact aN (p:=4) (u:=5) (u2:=6) (by rfl) _ _ u.heap.size rz _ _ (by rfl) (by rfl) (by rfl) (setRow_heap _ _ _ _ _ _ (aF (Below.refl _ _)).1)
 ·exact below_setRow (aF (Below.refl _ _)).2.2 (Nat.le_refl _) _
theorem aD2 (b off cap len:Nat) (first:Int) (u:World) (c:Nat) (hc0:u.cell? ⟨b,off,none⟩=some (.int .u8 (c:Int))) (h0:0 < len) (hl:len<=6000) (hlc:len<=cap) (hcm:cap<=9223372036854775807) (h3:c<=3) (f0:0<=first) (f1:first<=1125899906842624) (hc1:¬cap=1) (V0 n0:Nat) (hn0:((n0:Int) == 0)=false) (hV:¬(100:Int)<=(V0:Int)) (HU0:Hid (Calls Tryz.prog 86 #[.slice (some ⟨b,off+1,none⟩) (len - 1) (cap - 1)] ((u.alloc (.cells #[.bool false,.string ⟨#[]⟩,.bool false,.string ⟨#[]⟩,.int .i64 0,.int .i64 0] 84)).alloc (.cells #[.bool false,.string ⟨#[]⟩,.bool false,.string ⟨#[]⟩,.int .i64 0,.int .i64 0] 84)) fun e w'=>e=.returned (.tuple #[.int .u64 (V0:Int),.int .i64 (n0:Int)])/\w'=((u.alloc (.cells #[.bool false,.string ⟨#[]⟩,.bool false,.string ⟨#[]⟩,.int .i64 0,.int .i64 0] 84)).alloc (.cells #[.bool false,.string ⟨#[]⟩,.bool false,.string ⟨#[]⟩,.int .i64 0,.int .i64 0] 84)))) (hi:1+n0<=len) (hc2:¬cap=1+n0) (V1 n1:Nat) (Z:Int) (hn1:((n1:Int) == 0)=false) (hd0:¬Z < -first) (hd:1125899906842624 - first < Z) (HU1:Hid (Calls Tryz.prog 86 #[.slice (some ⟨b,off+(1+n0),none⟩) (len - (1+n0)) (cap - (1+n0))] ((u.alloc (.cells #[.bool false,.string ⟨#[]⟩,.bool false,.string ⟨#[]⟩,.int .i64 0,.int .i64 0] 84)).alloc (.cells #[.bool false,.string ⟨#[]⟩,.bool false,.string ⟨#[]⟩,.int .i64 0,.int .i64 0] 84)) fun e w'=>e=.returned (.tuple #[.int .u64 (V1:Int),.int .i64 (n1:Int)])/\w'=((u.alloc (.cells #[.bool false,.string ⟨#[]⟩,.bool false,.string ⟨#[]⟩,.int .i64 0,.int .i64 0] 84)).alloc (.cells #[.bool false,.string ⟨#[]⟩,.bool false,.string ⟨#[]⟩,.int .i64 0,.int .i64 0] 84)))) (HZ:Hid (Calls Tryz.prog 87 #[.int .u64 (V1:Int)] ((u.alloc (.cells #[.bool false,.string ⟨#[]⟩,.bool false,.string ⟨#[]⟩,.int .i64 0,.int .i64 0] 84)).alloc (.cells #[.bool false,.string ⟨#[]⟩,.bool false,.string ⟨#[]⟩,.int .i64 0,.int .i64 0] 84)) fun e w'=>e=.returned (.int .i64 Z)/\w'=((u.alloc (.cells #[.bool false,.string ⟨#[]⟩,.bool false,.string ⟨#[]⟩,.int .i64 0,.int .i64 0] 84)).alloc (.cells #[.bool false,.string ⟨#[]⟩,.bool false,.string ⟨#[]⟩,.int .i64 0,.int .i64 0] 84)))) :
 Calls Tryz.prog 65 #[.slice (some ⟨b,off,none⟩) len cap,.int .i64 first] u fun e w'=>e=.returned (.tuple #[.agg rz.cells,.int .i64 0,.int .i64 10])/\Below u.heap.size u w':=by
 have hbw:b < u.heap.size:=World.block_lt_of_cell? _ _ hc0
 have h0I:((len:Int) == 0)=false:=by rw[beq_eq_false_iff_ne];omega
 have h0J:(0:Int) < (len:Int):=by omega
 have h3I:¬(3:Int) < (c:Int):=by omega
 have g0I:¬first < 0:=by omega
 have g1I:¬1125899906842624 < first:=by omega
 have hlI:(len:Int)<=6000:=by omega
 have hlcI:(len:Int)<=(cap:Int):=by omega
 have hiI:1+(n0:Int)<=(len:Int):=by omega
 have hicI:1+(n0:Int)<=(cap:Int):=by omega
 have tok1:=trivial
 go_enter Tryz.func65,Tryz.ntmps65
 go_wp2_with (first
  | (go_at_call 86;have _t:=tok1;refine Calls.mono HU0.out ?_;clear tok1 _t;rintro e w1 ⟨rfl,hw⟩;subst w1)
  | (go_at_call 86;refine Calls.mono HU1.out ?_;rintro e w1 ⟨rfl,hw⟩;subst w1)
  | (go_at_call 87;refine Calls.mono HZ.out ?_;rintro e w1 ⟨rfl,hw⟩;subst w1)
  | (have _t:=h0;refine wpList_load_row rfl 84 _ rfl (u.heap.size+1) rfl 84 rz.cells (0,0) _ (aF (Below.refl _ _)).2.1 Tryz.underlying84 rfl Tryz.info84 ?_)
  | (have _t:=h0;refine wpList_store_row rfl 84 _ _ rfl u.heap.size rz.cells rfl rfl 84 rz.cells (aF (Below.refl _ _)).1 Tryz.info84 rfl (bM _) ?_))
 refine bodyPost_ret (v:=.tuple #[.agg rz.cells,.int .i64 0,.int .i64 10]) ?_ rfl ⟨rfl,?_⟩
 ·exact aN (p:=4) (u:=5) (u2:=6) (by rfl) _ _ u.heap.size rz _ _ (by rfl) (by rfl) (by rfl) (setRow_heap _ _ _ _ _ _ (aF (Below.refl _ _)).1)
 ·exact below_setRow (aF (Below.refl _ _)).2.2 (Nat.le_refl _) _
end Go.Proofs.YtaooidckmepdeaaGreatDoor
