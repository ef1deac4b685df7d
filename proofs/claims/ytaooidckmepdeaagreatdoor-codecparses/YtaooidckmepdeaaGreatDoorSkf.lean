/- Kv Map Kq Kh Ki Kj Kw -/
import Derived.Test.YtaooidckmepdeaaGreatDoorSke
import Derived.Maps.RangeWalk
import Derived.Maps.OwnOps
import Derived.Laws.StructEq
import Derived.Carry
import Derived.Laws.ResultCell
namespace Go.Proofs.YtaooidckmepdeaaGreatDoor
set_option linter.unusedSimpArgs false
set_option linter.unusedVariables false
set_option maxRecDepth 100000
set_option maxHeartbeats 6400000
open Go.RowKit
structure KeepX (B X:Nat) (w w':World):Prop where
 size:w.heap.size<=w'.heap.size
 blk:∀x,x≠B->x≠X->x < w.heap.size->w'.heap[x]? = w.heap[x]?
theorem KeepX.refl (B X:Nat) (w:World):KeepX B X w w:=⟨Nat.le_refl _,fun _ _ _ _=>rfl⟩
theorem KeepX.trans {B X:Nat} {w w1 w2:World} (h:KeepX B X w w1) (k:KeepX B X w1 w2):KeepX B X w w2:=
 ⟨Nat.le_trans h.size k.size,fun x hx hy hl=>(k.blk x hx hy (Nat.lt_of_lt_of_le hl h.size)).trans (h.blk x hx hy hl)⟩
theorem KeepX.of {B X:Nat} {w w':World} (h:KeepB B w w'):KeepX B X w w':=⟨h.size,fun x hx _ hl=>h.blk x hx hl⟩
theorem KeepX.put {B X off:Nat} {w w':World} {v:Value} (h:KeepB B w w'):KeepX B X w (w'.setCell ⟨X,off,none⟩ v):=
 ⟨Nat.le_trans h.size (by simp[World.setCell]),fun x hx hy hl=>(heap_setCell_other w' ⟨X,off,none⟩ x v hy).trans (h.blk x hx hl)⟩
def TkP (w0 w:World) (X:Nat) (b:Bd) (st:Ls) (e:Ending) (w':World):Prop:=e=.returned (.tuple #[])/\(∃p,BdX w' X b p)/\RdR w0 w' st/\KeepX w0.heap.size X w w'
theorem aT (w:World):Below w.heap.size w w.drew:=(Below.refl _ _).drew
theorem oA {w0 w w2:World} {X:Nat} {b:Bd} {p:Pt} {st:Ls} (f:Nat) (v:Int) (hf:f < 20) (hk:kd f=0∨kd f=1) (hb:b f=fz) (hX:w0.heap.size < X) (hr:RdR w0 w2 st) (hx:BdX w2 X b p) (kk:KeepB w0.heap.size w w2) :
 TkP w0 w X (setB b f (vn v)) st (.returned (.tuple #[])) (w2.setCell ⟨X,f,none⟩ (.int .i64 v)):=by
 have h11:f≠11/\f≠17/\f≠18/\f≠19:=by refine⟨?_,?_,?_,?_⟩<;>rintro rfl<;>rcases hk with q | q<;>exact absurd q (by decide)
 obtain⟨r1,r2,r3,r4⟩:=hx.rows f (.int .i64 v)
 have e11:setB b f (vn v) 11=b 11:=by simp[setB,Ne.symm h11.1]
 have e17:setB b f (vn v) 17=b 17:=by simp[setB,Ne.symm h11.2.1]
 have e18:setB b f (vn v) 18=b 18:=by simp[setB,Ne.symm h11.2.2.1]
 have e19:setB b f (vn v) 19=b 19:=by simp[setB,Ne.symm h11.2.2.2]
 refine⟨rfl,⟨p,?_,by rw[e11];exact r1,by rw[e17];exact r2,by rw[e18];exact r3,r4,by rw[e19];exact hx.bb,hx.n1,hx.o1,hx.o2,hx.o3,hx.o4⟩,hr.off' hX,KeepX.put kk⟩
 rw[xR b p f v hf hk hb]
 exact bG hx.box f _
theorem vW {w0 w w2:World} {X:Nat} {b:Bd} {p:Pt} {st:Ls} (f:Nat) (v:ByteArray) (hf:f<=1) (hb:b f=fz) (hX:w0.heap.size < X) (hr:RdR w0 w2 st) (hx:BdX w2 X b p) (kk:KeepB w0.heap.size w w2) :
 TkP w0 w X (setB b f (vt v)) st (.returned (.tuple #[])) (w2.setCell ⟨X,20+f,none⟩ (.string v)):=by
 have h11:f≠11/\f≠17/\f≠18/\f≠19:=by omega
 obtain⟨r1,r2,r3,r4⟩:=hx.rows (20+f) (.string v)
 have e11:setB b f (vt v) 11=b 11:=by simp[setB,Ne.symm h11.1]
 have e17:setB b f (vt v) 17=b 17:=by simp[setB,Ne.symm h11.2.1]
 have e18:setB b f (vt v) 18=b 18:=by simp[setB,Ne.symm h11.2.2.1]
 have e19:setB b f (vt v) 19=b 19:=by simp[setB,Ne.symm h11.2.2.2]
 refine⟨rfl,⟨p,?_,by rw[e11];exact r1,by rw[e17];exact r2,by rw[e18];exact r3,r4,by rw[e19];exact hx.bb,hx.n1,hx.o1,hx.o2,hx.o3,hx.o4⟩,hr.off' hX,KeepX.put kk⟩
 rw[aAo b p f v hf hb]
 exact bG hx.box (20+f) _
theorem xB {w0 w w2:World} {X:Nat} {b:Bd} {p:Pt} {st:Ls} (x:List Rc) (a:Option Addr) (c:Nat) (hb:b 11=fz) (hX:w0.heap.size < X) (hXw:X < w.heap.size) (hr:RdR w0 w2 st) (hx:BdX w2 X b p) (kk:KeepB w0.heap.size w w2)
 (hrow:RRow w2 a x) (hn:a=none->c=0) (hg:∀g,a=some g->w.heap.size<=g.block) :
 TkP w0 w X (setB b 11 (vr' x)) st (.returned (.tuple #[])) (w2.setCell ⟨X,40,none⟩ (.slice a x.length c)):=by
 obtain⟨r1,r2,r3,r4⟩:=hx.rows 40 (.slice a x.length c)
 have hs:∀k,k≠X->(w2.setCell ⟨X,40,none⟩ (.slice a x.length c)).heap[k]? = w2.heap[k]?:=fun k hk=>heap_setCell_other w2 ⟨X,40,none⟩ k _ hk
 have hne:∀bb off,a=some ⟨bb,off,none⟩->bb≠X:=fun bb off e=>(by have:=hg _ e;simp only at this;omega)
 have hgt:∀g,a=some g->X < g.block:=fun g e=>Nat.lt_of_lt_of_le hXw (hg g e)
 refine⟨rfl,⟨{p with ra:=a,rc:=c},?_,(by have q:setB b 11 (vr' x) 11=vr' x:=(by simp[setB]);rw[q];exact bV hrow (fun i hi bb off e=>hs bb (hne bb off e))),(by have q:setB b 11 (vr' x) 17=b 17:=(by simp[setB]);rw[q];exact r2),(by have q:setB b 11 (vr' x) 18=b 18:=(by simp[setB]);rw[q];exact r3),r4,(by have q:setB b 11 (vr' x) 19=b 19:=(by simp[setB]);rw[q];exact hx.bb),hn,hgt,hx.o2,hx.o3,hx.o4⟩,hr.off' hX,KeepX.put kk⟩
 rw[lY b p {p with ra:=a,rc:=c} 11 (vr' x) 0 (.slice a x.length c) rfl rfl hb (by decide) (by simp[setB,vr'])]
 exact bG hx.box 40 _
theorem xE {w0 w w2:World} {X:Nat} {b:Bd} {p:Pt} {st:Ls} (x:List ByteArray) (a:Option Addr) (c:Nat) (hb:b 17=fz) (hX:w0.heap.size < X) (hXw:X < w.heap.size) (hr:RdR w0 w2 st) (hx:BdX w2 X b p) (kk:KeepB w0.heap.size w w2)
 (hrow:SRow w2 a x) (hn:a=none->c=0) (hg:∀g,a=some g->w.heap.size<=g.block) :
 TkP w0 w X (setB b 17 (vm x)) st (.returned (.tuple #[])) (w2.setCell ⟨X,41,none⟩ (.slice a x.length c)):=by
 obtain⟨r1,r2,r3,r4⟩:=hx.rows 41 (.slice a x.length c)
 have hs:∀k,k≠X->(w2.setCell ⟨X,41,none⟩ (.slice a x.length c)).heap[k]? = w2.heap[k]?:=fun k hk=>heap_setCell_other w2 ⟨X,41,none⟩ k _ hk
 have hne:∀bb off,a=some ⟨bb,off,none⟩->bb≠X:=fun bb off e=>(by have:=hg _ e;simp only at this;omega)
 have hgt:∀g,a=some g->X < g.block:=fun g e=>Nat.lt_of_lt_of_le hXw (hg g e)
 refine⟨rfl,⟨{p with na:=a,nc:=c},?_,(by have q:setB b 17 (vm x) 11=b 11:=(by simp[setB]);rw[q];exact r1),(by have q:setB b 17 (vm x) 17=vm x:=(by simp[setB]);rw[q];exact dT hrow (fun i hi bb off e=>hs bb (hne bb off e))),(by have q:setB b 17 (vm x) 18=b 18:=(by simp[setB]);rw[q];exact r3),r4,(by have q:setB b 17 (vm x) 19=b 19:=(by simp[setB]);rw[q];exact hx.bb),hx.n1,hx.o1,hgt,hx.o3,hx.o4⟩,hr.off' hX,KeepX.put kk⟩
 rw[lY b p {p with na:=a,nc:=c} 17 (vm x) 1 (.slice a x.length c) rfl rfl hb (by decide) (by simp[setB,vm])]
 exact bG hx.box 41 _
theorem wA {w0 w w2:World} {X:Nat} {b:Bd} {p:Pt} {st:Ls} (x:List Int) (a:Option Addr) (c:Nat) (hb:b 18=fz) (hX:w0.heap.size < X) (hXw:X < w.heap.size) (hr:RdR w0 w2 st) (hx:BdX w2 X b p) (kk:KeepB w0.heap.size w w2)
 (hrow:IRow w2 a x) (hn:a=none->c=0) (hg:∀g,a=some g->w.heap.size<=g.block) :
 TkP w0 w X (setB b 18 (vc x)) st (.returned (.tuple #[])) (w2.setCell ⟨X,42,none⟩ (.slice a x.length c)):=by
 obtain⟨r1,r2,r3,r4⟩:=hx.rows 42 (.slice a x.length c)
 have hs:∀k,k≠X->(w2.setCell ⟨X,42,none⟩ (.slice a x.length c)).heap[k]? = w2.heap[k]?:=fun k hk=>heap_setCell_other w2 ⟨X,42,none⟩ k _ hk
 have hne:∀bb off,a=some ⟨bb,off,none⟩->bb≠X:=fun bb off e=>(by have:=hg _ e;simp only at this;omega)
 have hgt:∀g,a=some g->X < g.block:=fun g e=>Nat.lt_of_lt_of_le hXw (hg g e)
 refine⟨rfl,⟨{p with ca:=a,cc:=c},?_,(by have q:setB b 18 (vc x) 11=b 11:=(by simp[setB]);rw[q];exact r1),(by have q:setB b 18 (vc x) 17=b 17:=(by simp[setB]);rw[q];exact r2),(by have q:setB b 18 (vc x) 18=vc x:=(by simp[setB]);rw[q];exact dU hrow (fun i hi bb off e=>hs bb (hne bb off e))),r4,(by have q:setB b 18 (vc x) 19=b 19:=(by simp[setB]);rw[q];exact hx.bb),hx.n1,hx.o1,hx.o2,hgt,hx.o4⟩,hr.off' hX,KeepX.put kk⟩
 rw[lY b p {p with ca:=a,cc:=c} 18 (vc x) 2 (.slice a x.length c) rfl rfl hb (by decide) (by simp[setB,vc])]
 exact bG hx.box 42 _
theorem wH {w0 w w2:World} {X:Nat} {b:Bd} {p:Pt} {st:Ls} (x:List Ba) (a:Option Addr) (c:Nat) (ss:List Bs) (hss:ss.map (·.b)=x) (hb:b 19=fz) (hX:w0.heap.size < X) (hXw:X < w.heap.size) (hr:RdR w0 w2 st) (hx:BdX w2 X b p) (kk:KeepB w0.heap.size w w2)
 (hrow:BRow w2 a ss) (hn:a=none->c=0) (hg:∀g,a=some g->w.heap.size<=g.block) :
 TkP w0 w X (setB b 19 (vb x)) st (.returned (.tuple #[])) (w2.setCell ⟨X,43,none⟩ (.slice a ss.length c)):=by
 obtain⟨r1,r2,r3,r4⟩:=hx.rows 43 (.slice a ss.length c)
 have hs:∀k,k≠X->(w2.setCell ⟨X,43,none⟩ (.slice a ss.length c)).heap[k]? = w2.heap[k]?:=fun k hk=>heap_setCell_other w2 ⟨X,43,none⟩ k _ hk
 have hne:∀bb off,a=some ⟨bb,off,none⟩->bb≠X:=fun bb off e=>(by have:=hg _ e;simp only at this;omega)
 have hgt:∀g,a=some g->X < g.block:=fun g e=>Nat.lt_of_lt_of_le hXw (hg g e)
 refine⟨rfl,⟨{p with ba:=a,bc:=c,bs:=ss},?_,(by have q:setB b 19 (vb x) 11=b 11:=(by simp[setB]);rw[q];exact r1),(by have q:setB b 19 (vb x) 17=b 17:=(by simp[setB]);rw[q];exact r2),(by have q:setB b 19 (vb x) 18=b 18:=(by simp[setB]);rw[q];exact r3),⟨eT hrow.1 (fun i hi bb off e=>hs bb (hne bb off e)),fun i hi=>⟨bV (hrow.2 i hi).1 (fun j hj bb off e=>hs bb (lI hx.box (hrow.2 i hi).1 j hj bb off e)),(hrow.2 i hi).2⟩⟩,(by have q:setB b 19 (vb x) 19=vb x:=(by simp[setB]);rw[q];exact hss),hx.n1,hx.o1,hx.o2,hx.o3,hgt⟩,hr.off' hX,KeepX.put kk⟩
 rw[lY b p {p with ba:=a,bc:=c,bs:=ss} 19 (vb x) 3 (.slice a ss.length c) rfl rfl hb (by decide) (by simp[setB,vb])]
 exact bG hx.box 43 _
theorem aFn (w0 w:World) (st:Ls) (X:Nat) (b:Bd) (p:Pt) (f:Nat) (hf:f < 20) (ek:kd f=0) (hb:b f=fz) (hX:w0.heap.size < X) (h:RdR w0 w st) (hx:BdX w X b p) :
 Calls Tryz.prog 39 #[(.pointer (some ⟨w0.heap.size,0,none⟩)),.pointer (some ⟨X,0,none⟩),.int .i64 (f:Int)] w (TkP w0 w X (setB b f (gK (kd f) st).1) (gK (kd f) st).2):=by
 have HK:Hid (∀x,Calls Tryz.prog 54 #[.int .i64 (f:Int)] x fun e w'=>e=.returned (.int .i64 ((kd f:Nat):Int))/\w'=x):=fun x=>cO f x
 have HC:Hid (∀x,RdR w0 x st->Calls Tryz.prog 55 #[(.pointer (some ⟨w0.heap.size,0,none⟩))] x (RP w0 x (.int .i64 (gI st).1) (gI st).2)):=fun x hx=>mC w0 x st hx
 have e2:gK (kd f) st=(vn (gI st).1,(gI st).2):=by rw[ek];rfl
 rw[e2]
 rw[ek] at HK
 have HEND:Hid (∀w2 v s2,RdR w0 w2 s2->BdX w2 X b p->KeepB w0.heap.size w w2->TkP w0 w X (setB b f (vn v)) s2 (.returned (.tuple #[])) (w2.setCell ⟨X,f,none⟩ (.int .i64 v))):=fun w2 v s2 q1 q2 q3=>oA f v hf (.inl ek) hb hX q1 q2 q3
 have HR:Hid (RdR w0 w.drew st):=h.below (aT _)
 have HX:Hid (∀w2,KeepB w0.heap.size w.drew w2->BdX w2 X b p/\KeepB w0.heap.size w w2):=fun w2 k=>⟨(BdX.keepB hx h hX (KeepB.of_below (aT _))).keepB (h.below (aT _)) hX k,(KeepB.of_below (aT _)).trans k⟩
 have hfI:(f:Int) < 20:=by omega
 clear e2 ek hX h hx
 dsimp only
 generalize (gI st).1=vv at *
 generalize (gI st).2=s2 at *
 go_enter Tryz.func39,Tryz.ntmps39
 go_wp2_with (first
  | (go_at_call 54;refine(HK.out _).mono ?_;rintro e w1 ⟨rfl,hw1⟩;subst w1))
 refine aD (fun _:World=>True) 7 (by kernel_rfl) trivial (fun hHeld=>?_)
 refine lF 0 ?_
 try simp only[Act.put,sP]
 refine lF 1 ?_
 try simp only[Act.put,sP]
 refine lF 2 ?_
 try simp only[Act.put,sP]
 refine lF 4 ?_
 try simp only[Act.put,sP]
 refine lF 5 ?_
 try simp only[Act.put,sP]
 refine lo 3 fun K hK=>?_
 go_simp
 refine Calls.mono (HC.out _ HR.out) ?_
 rintro e w2 ⟨rfl,hw2,hk2⟩
 obtain⟨hx2,hkk⟩:=HX.out w2 hk2
 have HE:=HEND.out w2 vv s2 hw2 hx2 hkk
 obtain⟨cn,ct,_,_,_,_,hlt⟩:=dZ hx2.box
 have hcL:=cn f hf
 have hfL:=(aB hx2.box (f)).2
 clear cn ct hw2 hkk hk2
 have HE2:Hid _:=HE
 clear HE hx2
 try dsimp only
 refine hK.out _ _ trivial (fun hH2=>?_)
 clear hK
 try simp only[Act.put,sP]
 refine lF 6 ?_
 try simp only[Act.put,sP]
 refine ll 7 fun K hK=>?_
 go_simp
 try dsimp only
 refine hK.out _ _ ?_
 clear hK
 try simp only[Act.put,sP]
 go_wp2_with (fail)
 go_end0
 exact⟨rfl,HE2.out.2⟩
theorem aGe (w0 w:World) (st:Ls) (X:Nat) (b:Bd) (p:Pt) (f:Nat) (hf:f < 20) (ek:kd f=1) (hb:b f=fz) (hX:w0.heap.size < X) (h:RdR w0 w st) (hx:BdX w X b p) :
 Calls Tryz.prog 39 #[(.pointer (some ⟨w0.heap.size,0,none⟩)),.pointer (some ⟨X,0,none⟩),.int .i64 (f:Int)] w (TkP w0 w X (setB b f (gK (kd f) st).1) (gK (kd f) st).2):=by
 have HK:Hid (∀x,Calls Tryz.prog 54 #[.int .i64 (f:Int)] x fun e w'=>e=.returned (.int .i64 ((kd f:Nat):Int))/\w'=x):=fun x=>cO f x
 have HC:Hid (∀x,RdR w0 x st->Calls Tryz.prog 56 #[(.pointer (some ⟨w0.heap.size,0,none⟩)),.int .i64 1,.int .i64 1] x (RP w0 x (.int .i64 ((gUp 1 1 st).1:Nat)) (gUp 1 1 st).2)):=fun x hx=>uA w0 x st 1 1 1 rfl rfl (by decide) hx
 have e2:gK (kd f) st=(vn ((gUp 1 1 st).1:Nat),(gUp 1 1 st).2):=by rw[ek];rfl
 rw[e2]
 rw[ek] at HK
 have HEND:Hid (∀w2 v s2,RdR w0 w2 s2->BdX w2 X b p->KeepB w0.heap.size w w2->TkP w0 w X (setB b f (vn v)) s2 (.returned (.tuple #[])) (w2.setCell ⟨X,f,none⟩ (.int .i64 v))):=fun w2 v s2 q1 q2 q3=>oA f v hf (.inr ek) hb hX q1 q2 q3
 have HR:Hid (RdR w0 w.drew st):=h.below (aT _)
 have HX:Hid (∀w2,KeepB w0.heap.size w.drew w2->BdX w2 X b p/\KeepB w0.heap.size w w2):=fun w2 k=>⟨(BdX.keepB hx h hX (KeepB.of_below (aT _))).keepB (h.below (aT _)) hX k,(KeepB.of_below (aT _)).trans k⟩
 have hfI:(f:Int) < 20:=by omega
 clear e2 ek hX h hx
 dsimp only
 generalize (((gUp 1 1 st).1:Nat):Int)=vv at *
 generalize (gUp 1 1 st).2=s2 at *
 go_enter Tryz.func39,Tryz.ntmps39
 go_wp2_with (first
  | (go_at_call 54;refine(HK.out _).mono ?_;rintro e w1 ⟨rfl,hw1⟩;subst w1))
 refine aD (fun _:World=>True) 7 (by kernel_rfl) trivial (fun hHeld=>?_)
 refine lF 0 ?_
 try simp only[Act.put,sP]
 refine lF 1 ?_
 try simp only[Act.put,sP]
 refine lF 2 ?_
 try simp only[Act.put,sP]
 refine lF 4 ?_
 try simp only[Act.put,sP]
 refine lF 5 ?_
 try simp only[Act.put,sP]
 refine lo 3 fun K hK=>?_
 go_simp
 refine Calls.mono (HC.out _ HR.out) ?_
 rintro e w2 ⟨rfl,hw2,hk2⟩
 obtain⟨hx2,hkk⟩:=HX.out w2 hk2
 have HE:=HEND.out w2 vv s2 hw2 hx2 hkk
 obtain⟨cn,ct,_,_,_,_,hlt⟩:=dZ hx2.box
 have hcL:=cn f hf
 have hfL:=(aB hx2.box (f)).2
 clear cn ct hw2 hkk hk2
 have HE2:Hid _:=HE
 clear HE hx2
 try dsimp only
 refine hK.out _ _ trivial (fun hH2=>?_)
 clear hK
 try simp only[Act.put,sP]
 refine lF 6 ?_
 try simp only[Act.put,sP]
 refine ll 7 fun K hK=>?_
 go_simp
 try dsimp only
 refine hK.out _ _ ?_
 clear hK
 try simp only[Act.put,sP]
 go_wp2_with (fail)
 go_end0
 exact⟨rfl,HE2.out.2⟩
theorem aG7 (w0 w:World) (st:Ls) (X:Nat) (b:Bd) (p:Pt) (f:Nat) (hf:f < 20) (ek:kd f=2) (hk1:f<=1) (hb:b f=fz) (hX:w0.heap.size < X) (h:RdR w0 w st) (hx:BdX w X b p) :
 Calls Tryz.prog 39 #[(.pointer (some ⟨w0.heap.size,0,none⟩)),.pointer (some ⟨X,0,none⟩),.int .i64 (f:Int)] w (TkP w0 w X (setB b f (gK (kd f) st).1) (gK (kd f) st).2):=by
 have HK:Hid (∀x,Calls Tryz.prog 54 #[.int .i64 (f:Int)] x fun e w'=>e=.returned (.int .i64 ((kd f:Nat):Int))/\w'=x):=fun x=>cO f x
 have HC:Hid (∀x,RdR w0 x st->Calls Tryz.prog 57 #[(.pointer (some ⟨w0.heap.size,0,none⟩))] x (RP w0 x (.string (gT st).1) (gT st).2)):=fun x hx=>kT w0 x st hx
 have e2:gK (kd f) st=(vt (gT st).1,(gT st).2):=by rw[ek];rfl
 rw[e2]
 rw[ek] at HK
 have HEND:Hid (∀w2 v s2,RdR w0 w2 s2->BdX w2 X b p->KeepB w0.heap.size w w2->TkP w0 w X (setB b f (vt v)) s2 (.returned (.tuple #[])) (w2.setCell ⟨X,20+f,none⟩ (.string v))):=fun w2 v s2 q1 q2 q3=>vW f v hk1 hb hX q1 q2 q3
 have HR:Hid (RdR w0 w.drew st):=h.below (aT _)
 have HX:Hid (∀w2,KeepB w0.heap.size w.drew w2->BdX w2 X b p/\KeepB w0.heap.size w w2):=fun w2 k=>⟨(BdX.keepB hx h hX (KeepB.of_below (aT _))).keepB (h.below (aT _)) hX k,(KeepB.of_below (aT _)).trans k⟩
 have hfI:(f:Int) < 20:=by omega
 clear e2 ek hX h hx hk1
 dsimp only
 generalize (gT st).1=vv at *
 generalize (gT st).2=s2 at *
 go_enter Tryz.func39,Tryz.ntmps39
 go_wp2_with (first
  | (go_at_call 54;refine(HK.out _).mono ?_;rintro e w1 ⟨rfl,hw1⟩;subst w1))
 refine aD (fun _:World=>True) 7 (by kernel_rfl) trivial (fun hHeld=>?_)
 refine lF 0 ?_
 try simp only[Act.put,sP]
 refine lF 1 ?_
 try simp only[Act.put,sP]
 refine lF 2 ?_
 try simp only[Act.put,sP]
 refine lF 4 ?_
 try simp only[Act.put,sP]
 refine lF 5 ?_
 try simp only[Act.put,sP]
 refine lo 3 fun K hK=>?_
 go_simp
 refine Calls.mono (HC.out _ HR.out) ?_
 rintro e w2 ⟨rfl,hw2,hk2⟩
 obtain⟨hx2,hkk⟩:=HX.out w2 hk2
 have HE:=HEND.out w2 vv s2 hw2 hx2 hkk
 obtain⟨cn,ct,_,_,_,_,hlt⟩:=dZ hx2.box
 have hcL:=ct f hf
 have hfL:=(aB hx2.box (20+f)).2
 clear cn ct hw2 hkk hk2
 have HE2:Hid _:=HE
 clear HE hx2
 try dsimp only
 refine hK.out _ _ trivial (fun hH2=>?_)
 clear hK
 try simp only[Act.put,sP]
 refine lF 6 ?_
 try simp only[Act.put,sP]
 refine ll 7 fun K hK=>?_
 go_simp
 try dsimp only
 refine hK.out _ _ ?_
 clear hK
 try simp only[Act.put,sP]
 go_wp2_with (fail)
 go_end0
 exact⟨rfl,HE2.out.2⟩
theorem aFo (w0 w:World) (st:Ls) (X:Nat) (b:Bd) (p:Pt) (hb:b 11=fz) (hX:w0.heap.size < X) (h:RdR w0 w st) (hx:BdX w X b p) :
 Calls Tryz.prog 39 #[(.pointer (some ⟨w0.heap.size,0,none⟩)),.pointer (some ⟨X,0,none⟩),.int .i64 11] w (TkP w0 w X (setB b 11 (vr' (gRow gRec st).1)) (gRow gRec st).2):=by
 have HK:Hid (∀x,Calls Tryz.prog 54 #[.int .i64 11] x fun e w'=>e=.returned (.int .i64 3)/\w'=x):=fun x=>cO 11 x
 have hXw:X < w.heap.size:=(Array.getElem?_eq_some_iff.1 hx.box).1
 have HC:Hid _:=zU w0 w st h
 have HX:Hid (∀w2,KeepB w0.heap.size w w2->BdX w2 X b p):=fun w2 k=>hx.keepB h hX k
 clear h hx
 generalize (gRow gRec st).1=vv at *
 generalize (gRow gRec st).2=s2 at *
 go_enter Tryz.func39,Tryz.ntmps39
 go_wp2_with (first
  | (go_at_call 54;refine(HK.out _).mono ?_;rintro e w1 ⟨rfl,hw1⟩;subst w1)
  | (go_at_call 58;go_loud (refine Calls.mono HC.out ?_;rintro e w2 ⟨⟨a,c,rfl,hrow,hn2,hg2⟩,hw2,hk2⟩;have hx2:=HX.out w2 hk2;have HE:=xB (w:=w) (b:=b) (p:=p) (st:=s2) vv a c hb hX hXw hw2 hx2 hk2 hrow hn2 hg2;obtain⟨cn,ct,c0,c1,c2,c3,hlt⟩:=dZ hx2.box;have hfL:=(aB hx2.box 40).2;have HE2:Hid _:=HE;clear HE hx2 cn ct hw2 hk2 HC hrow hn2 hg2;generalize vv.length=LL at *)))
 go_end0
 exact⟨rfl,HE2.out.2⟩
theorem aFe (w0 w:World) (st:Ls) (X:Nat) (b:Bd) (p:Pt) (hb:b 17=fz) (hX:w0.heap.size < X) (h:RdR w0 w st) (hx:BdX w X b p) :
 Calls Tryz.prog 39 #[(.pointer (some ⟨w0.heap.size,0,none⟩)),.pointer (some ⟨X,0,none⟩),.int .i64 17] w (TkP w0 w X (setB b 17 (vm (gRow gT st).1)) (gRow gT st).2):=by
 have HK:Hid (∀x,Calls Tryz.prog 54 #[.int .i64 17] x fun e w'=>e=.returned (.int .i64 4)/\w'=x):=fun x=>cO 17 x
 have hXw:X < w.heap.size:=(Array.getElem?_eq_some_iff.1 hx.box).1
 have HC:Hid _:=aA7 w0 w st h
 have HX:Hid (∀w2,KeepB w0.heap.size w w2->BdX w2 X b p):=fun w2 k=>hx.keepB h hX k
 clear h hx
 generalize (gRow gT st).1=vv at *
 generalize (gRow gT st).2=s2 at *
 go_enter Tryz.func39,Tryz.ntmps39
 go_wp2_with (first
  | (go_at_call 54;refine(HK.out _).mono ?_;rintro e w1 ⟨rfl,hw1⟩;subst w1)
  | (go_at_call 60;go_loud (refine Calls.mono HC.out ?_;rintro e w2 ⟨⟨a,c,rfl,hrow,hn2,hg2⟩,hw2,hk2⟩;have hx2:=HX.out w2 hk2;have HE:=xE (w:=w) (b:=b) (p:=p) (st:=s2) vv a c hb hX hXw hw2 hx2 hk2 hrow hn2 hg2;obtain⟨cn,ct,c0,c1,c2,c3,hlt⟩:=dZ hx2.box;have hfL:=(aB hx2.box 41).2;have HE2:Hid _:=HE;clear HE hx2 cn ct hw2 hk2 HC hrow hn2 hg2;generalize vv.length=LL at *)))
 go_end0
 exact⟨rfl,HE2.out.2⟩
theorem aFp (w0 w:World) (st:Ls) (X:Nat) (b:Bd) (p:Pt) (hb:b 18=fz) (hX:w0.heap.size < X) (h:RdR w0 w st) (hx:BdX w X b p) :
 Calls Tryz.prog 39 #[(.pointer (some ⟨w0.heap.size,0,none⟩)),.pointer (some ⟨X,0,none⟩),.int .i64 18] w (TkP w0 w X (setB b 18 (vc (gRow gI st).1)) (gRow gI st).2):=by
 have HK:Hid (∀x,Calls Tryz.prog 54 #[.int .i64 18] x fun e w'=>e=.returned (.int .i64 5)/\w'=x):=fun x=>cO 18 x
 have hXw:X < w.heap.size:=(Array.getElem?_eq_some_iff.1 hx.box).1
 have HC:Hid _:=zO w0 w st h
 have HX:Hid (∀w2,KeepB w0.heap.size w w2->BdX w2 X b p):=fun w2 k=>hx.keepB h hX k
 clear h hx
 generalize (gRow gI st).1=vv at *
 generalize (gRow gI st).2=s2 at *
 go_enter Tryz.func39,Tryz.ntmps39
 go_wp2_with (first
  | (go_at_call 54;refine(HK.out _).mono ?_;rintro e w1 ⟨rfl,hw1⟩;subst w1)
  | (go_at_call 61;go_loud (refine Calls.mono HC.out ?_;rintro e w2 ⟨⟨a,c,rfl,hrow,hn2,hg2⟩,hw2,hk2⟩;have hx2:=HX.out w2 hk2;have HE:=wA (w:=w) (b:=b) (p:=p) (st:=s2) vv a c hb hX hXw hw2 hx2 hk2 hrow hn2 hg2;obtain⟨cn,ct,c0,c1,c2,c3,hlt⟩:=dZ hx2.box;have hfL:=(aB hx2.box 42).2;have HE2:Hid _:=HE;clear HE hx2 cn ct hw2 hk2 HC hrow hn2 hg2;generalize vv.length=LL at *)))
 go_end0
 exact⟨rfl,HE2.out.2⟩
theorem aFr (w0 w:World) (st:Ls) (X:Nat) (b:Bd) (p:Pt) (ht:Tab w0) (hb:b 19=fz) (hX:w0.heap.size < X) (h:RdR w0 w st) (hx:BdX w X b p) :
 Calls Tryz.prog 39 #[(.pointer (some ⟨w0.heap.size,0,none⟩)),.pointer (some ⟨X,0,none⟩),.int .i64 19] w (TkP w0 w X (setB b 19 (vb (gRow gBat st).1)) (gRow gBat st).2):=by
 have HK:Hid (∀x,Calls Tryz.prog 54 #[.int .i64 19] x fun e w'=>e=.returned (.int .i64 6)/\w'=x):=fun x=>cO 19 x
 have hXw:X < w.heap.size:=(Array.getElem?_eq_some_iff.1 hx.box).1
 have HC:Hid _:=zI w0 w st ht h
 have HX:Hid (∀w2,KeepB w0.heap.size w w2->BdX w2 X b p):=fun w2 k=>hx.keepB h hX k
 clear h hx
 generalize (gRow gBat st).1=vv at *
 generalize (gRow gBat st).2=s2 at *
 go_enter Tryz.func39,Tryz.ntmps39
 go_wp2_with (first
  | (go_at_call 54;refine(HK.out _).mono ?_;rintro e w1 ⟨rfl,hw1⟩;subst w1)
  | (go_at_call 62;go_loud (refine Calls.mono HC.out ?_;rintro e w2 ⟨⟨a,c,ss,rfl,hrow,hss,hn2,hg2⟩,hw2,hk2⟩;have hx2:=HX.out w2 hk2;have HE:=wH (w:=w) (b:=b) (p:=p) (st:=s2) vv a c ss hss hb hX hXw hw2 hx2 hk2 hrow hn2 hg2;obtain⟨cn,ct,c0,c1,c2,c3,hlt⟩:=dZ hx2.box;have hfL:=(aB hx2.box 43).2;have HE2:Hid _:=HE;clear HE hx2 cn ct hw2 hk2 HC hrow hn2 hg2;generalize ss.length=LL at *)))
 go_end0
 exact⟨rfl,HE2.out.2⟩
theorem take_any (w0 w:World) (st:Ls) (X:Nat) (b:Bd) (p:Pt) (f:Nat) (hf:f < 20) (ht:Tab w0) (hb:b f=fz) (hX:w0.heap.size < X) (h:RdR w0 w st) (hx:BdX w X b p) :
 Calls Tryz.prog 39 #[(.pointer (some ⟨w0.heap.size,0,none⟩)),.pointer (some ⟨X,0,none⟩),.int .i64 (f:Int)] w (TkP w0 w X (setB b f (gK (kd f) st).1) (gK (kd f) st).2):=by
 obtain⟨k3,k4,k5,k6⟩:=sQ f
 rcases dJ f with e | e | e | e | e | e | e
 ·exact aFn w0 w st X b p f hf e hb hX h hx
 ·exact aGe w0 w st X b p f hf e hb hX h hx
 ·exact aG7 w0 w st X b p f hf e (by unfold kd at e;grind) hb hX h hx
 ·obtain rfl:=k3 e
  exact aFo w0 w st X b p hb hX h hx
 ·obtain rfl:=k4 e
  exact aFe w0 w st X b p hb hX h hx
 ·obtain rfl:=k5 e
  exact aFp w0 w st X b p hb hX h hx
 ·obtain rfl:=k6 e
  exact aFr w0 w st X b p ht hb hX h hx
section
open Go.RowKit Go.MapKept
open Go.ChangeMaps (setBlock heap_setBlock_same heap_setBlock_other modify_eq_set)
section
variable {α:Type}
structure KB (k:TypeId) (mk:α->Value):Prop where
 inj:∀{a b:α},mk a=mk b->a=b
 check:∀(w:World) (em:Bool) (a:α),(Instr.checkKey em 10000 k (mk a)).run Tryz.prog w=.ok () w
 find:∀(w:World) (a:α) (es:List MapEntry),(∀e ∈ es,∃b,e.key=mk b)->
  ((Instr.findKey k (mk a) es).run Tryz.prog w=.ok none w/\∀e ∈ es,e.key≠mk a)∨∃j e,(Instr.findKey k (mk a) es).run Tryz.prog w=.ok (some (j,e.val)) w/\es[j]? = some e/\e.key=mk a
 stays:∀(w:World) (a:α),(Instr.keyThatStays (mk a) (mk a)).run Tryz.prog w=.ok (mk a) w
structure Ent (mk:α->Value) (es:Array MapEntry) (clock:Nat) (f:α->Option Value):Prop where
 stamped:Stamped es clock
 keys:∀x ∈ es.toList,∃a,x.key=mk a/\f a=some x.val
 all:∀a v,f a=some v->∃x ∈ es.toList,x.key=mk a/\x.val=v
def MapIs (w:World) (b:Nat) (mk:α->Value) (f:α->Option Value) (n:Nat):Prop:=
 ∃es clock,w.heap[b]? = some (.map es clock)/\Ent mk es clock f/\es.size<=n
variable {mk:α->Value} {f:α->Option Value} {w w':World} {b n:Nat}
theorem MapIs.lt (h:MapIs w b mk f n):b < w.heap.size:=by
 obtain⟨es,c,hb,_⟩:=h
 exact(Array.getElem?_eq_some_iff.1 hb).1
theorem MapIs.blk (h:MapIs w b mk f n) (e:w'.heap[b]? = w.heap[b]?):MapIs w' b mk f n:=by
 obtain⟨es,c,hb,r⟩:=h
 exact⟨es,c,e.trans hb,r⟩
theorem MapIs.below (h:MapIs w b mk f n) (hb:Below w.heap.size w w'):MapIs w' b mk f n:=h.blk (hb.block b h.lt)
theorem MapIs.mono (h:MapIs w b mk f n) {m:Nat} (hm:n<=m):MapIs w b mk f m:=by
 obtain⟨es,c,hb,e,hs⟩:=h
 exact⟨es,c,hb,e,Nat.le_trans hs hm⟩
theorem MapIs.made (w:World):MapIs (w.alloc (.map #[] 0)) w.heap.size mk (fun _=>none) 0:=
 ⟨#[],0,(MapKept.heap_alloc w _).1,⟨stamped_empty 0,by simp,by simp⟩,Nat.le_refl _⟩
theorem mQ {es:Array MapEntry} {c:Nat} (h:Stamped es c) {x y:MapEntry} (hx:x ∈ es.toList) (hy:y ∈ es.toList) (e:x.key=y.key):x=y:=
 entry_eq_of_key ((stamped_iff es c).1 h).2.2 hx hy e
theorem Ent.val {k:TypeId} (K:KB k mk) {es:Array MapEntry} {c:Nat} (h:Ent mk es c f) {x:MapEntry} (hx:x ∈ es.toList) {a:α} (e:x.key=mk a):f a=some x.val:=by
 obtain⟨b,e2,hf⟩:=h.keys x hx
 rw[e2] at e
 rw[<-K.inj e];exact hf
theorem MapIs.look {k t e:TypeId} (h:MapIs w b mk f n) (K:KB k mk) (ht:Tryz.prog.underlying t=some (.map k e)) {z:Value} (hz:∀w,(zeroValue e).run Tryz.prog w=.ok z w) (a:α) :
 (Instr.lookup t (.map (some b)) (mk a) false).run Tryz.prog w=.ok ((f a).getD z) w:=by
 obtain⟨es,c,hb,E,_⟩:=h
 rcases K.find w a es.toList (fun x hx=>by obtain⟨y,e1,_⟩:=E.keys x hx;exact⟨y,e1⟩) with⟨h1,h2⟩ | ⟨j,e0,h1,h2,h3⟩
 ·have hf:f a=none:=by
   cases hfa:f a with
   | none=>rfl
   | some v=>
    obtain⟨x,hx,hk,_⟩:=E.all a v hfa
    exact absurd hk (h2 x hx)
  rw[hf]
  simp[Instr.lookup,run_underlying ht,MapKept.run_getObj_map hb,K.check w _ a,h1,hz,Result.andThen]
 ·rw[E.val K (List.mem_of_getElem? h2) h3]
  simp[Instr.lookup,run_underlying ht,MapKept.run_getObj_map hb,K.check w _ a,h1,Result.andThen]
theorem MapIs.lookOk {k t e:TypeId} (h:MapIs w b mk f n) (K:KB k mk) (ht:Tryz.prog.underlying t=some (.map k e)) {z:Value} (hz:∀w,(zeroValue e).run Tryz.prog w=.ok z w) (a:α) :
 (Instr.lookup t (.map (some b)) (mk a) true).run Tryz.prog w=.ok (.tuple #[(f a).getD z,.bool (f a).isSome]) w:=by
 obtain⟨es,c,hb,E,_⟩:=h
 rcases K.find w a es.toList (fun x hx=>by obtain⟨y,e1,_⟩:=E.keys x hx;exact⟨y,e1⟩) with⟨h1,h2⟩ | ⟨j,e0,h1,h2,h3⟩
 ·have hf:f a=none:=by
   cases hfa:f a with
   | none=>rfl
   | some v=>
    obtain⟨x,hx,hk,_⟩:=E.all a v hfa
    exact absurd hk (h2 x hx)
  rw[hf]
  simp[Instr.lookup,run_underlying ht,MapKept.run_getObj_map hb,K.check w _ a,h1,hz,Result.andThen]
 ·have hm:e0 ∈ es.toList:=List.mem_of_getElem? h2
  rw[E.val K hm h3]
  simp[Instr.lookup,run_underlying ht,MapKept.run_getObj_map hb,K.check w _ a,h1,hz,Result.andThen]
variable [DecidableEq α]
def put (f:α->Option Value) (a:α) (v:Value):α->Option Value:=fun x=>if x=a then some v else f x
theorem MapIs.store {k t e:TypeId} (h:MapIs w b mk f n) (K:KB k mk) (ht:Tryz.prog.underlying t=some (.map k e)) (a:α) (v:Value) :
 ∃es' c',(∀w',w'.heap[b]? = w.heap[b]?->(Instr.mapUpdate t (.map (some b)) (mk a) v).run Tryz.prog w'=.ok () (setBlock w' b (.map es' c')))/\Ent mk es' c' (put f a v)/\es'.size<=n+1:=by
 obtain⟨es,c,hb,E,hs⟩:=h
 have hkeys:∀x ∈ es.toList,∃b,x.key=mk b:=fun x hx=>by obtain⟨y,e1,_⟩:=E.keys x hx;exact⟨y,e1⟩
 have hcase:(∀x ∈ es.toList,x.key≠mk a)∨∃(j:Nat) (e0:MapEntry),es.toList[j]? = some e0/\e0.key=mk a:=by
  rcases K.find w a es.toList hkeys with⟨_,h2⟩ | ⟨j,e0,_,h2,h3⟩
  ·exact .inl h2
  ·exact .inr ⟨j,e0,h2,h3⟩
 rcases hcase with h2 | ⟨j,e0,h2,h3⟩
 ·refine⟨es.push ⟨mk a,v,c⟩,c+1,fun w' e=>?_,⟨stamped_push E.stamped h2,?_,?_⟩,by simp;omega⟩
  ·have hb':=e.trans hb
   rcases K.find w' a es.toList hkeys with⟨h1,_⟩ | ⟨j,e0,_,h2',h3⟩
   ·simp[Instr.mapUpdate,run_underlying ht,MapKept.run_getObj_map hb',K.check w' false a,h1,MapKept.run_setObj_map _ hb',Result.andThen,setBlock]
   ·exact absurd h3 (h2 e0 (List.mem_of_getElem? h2'))
  ·intro x hx
   simp only[Array.toList_push,List.mem_append,List.mem_singleton] at hx
   rcases hx with hx | rfl
   ·obtain⟨y,e1,e2⟩:=E.keys x hx
    refine⟨y,e1,?_⟩
    have:y≠a:=fun q=>h2 x hx (by rw[e1,q])
    simp[put,this,e2]
   ·exact⟨a,rfl,by simp[put]⟩
  ·intro y u hy
   unfold put at hy
   split at hy
   ·rename_i q
    subst q
    exact⟨⟨mk y,v,c⟩,by simp,rfl,by simpa using hy⟩
   ·obtain⟨x,hx,e1,e2⟩:=E.all y u hy
    exact⟨x,by simp at hx ⊢;exact .inl hx,e1,e2⟩
 ·have hj:es[j]? = some e0:=by simpa using h2
  have hjl:j < es.toList.length:=(List.getElem?_eq_some_iff.1 h2).1
  have hlist:(es.modify j (fun e'=>{e' with key:=mk a,val:=v})).toList=es.toList.set j {e0 with key:=mk a,val:=v}:=by rw[Array.toList_modify,modify_eq_set _ _ _ _ h2]
  have hother:∀x ∈ es.toList.set j {e0 with key:=mk a,val:=v},x = {e0 with key:=mk a,val:=v}∨(x ∈ es.toList/\x.key≠mk a):=by
   intro x hx
   obtain⟨i,hi,ex⟩:=List.getElem_of_mem hx
   rw[List.getElem_set] at ex
   split at ex
   ·exact Or.inl ex.symm
   ·rename_i hne
    have hi':i < es.toList.length:=by simpa using hi
    have hxm:x ∈ es.toList:=ex▸List.getElem_mem hi'
    refine Or.inr ⟨hxm,fun q=>hne ?_⟩
    have hxe:x=e0:=mQ E.stamped hxm (List.mem_of_getElem? h2) (q.trans h3.symm)
    have hnd:(es.toList.map (·.born)).Nodup:=E.stamped.2.1
    have h0:es.toList[j]=e0:=(List.getElem?_eq_some_iff.1 h2).2
    have hb2:(es.toList.map (·.born))[j]'(by simpa using hjl)=(es.toList.map (·.born))[i]'(by simpa using hi'):=by simp only[List.getElem_map];rw[h0,ex,hxe]
    exact(List.getElem_inj hnd).1 hb2
  refine⟨es.modify j (fun e'=>{e' with key:=mk a,val:=v}),c,fun w' e=>?_,⟨stamped_modify E.stamped _ _ (fun _ _=>rfl) (fun e' _ he'=>by rw[hj] at he';cases he';exact h3.symm),?_,?_⟩,by simp;omega⟩
  ·have hb':=e.trans hb
   rcases K.find w' a es.toList hkeys with⟨_,h2'⟩ | ⟨j',e0',h1,h2',h3'⟩
   ·exact absurd h3 (h2' e0 (List.mem_of_getElem? h2))
   ·have he:e0'=e0:=mQ E.stamped (List.mem_of_getElem? h2') (List.mem_of_getElem? h2) (h3'.trans h3.symm)
    have hjj:j'=j:=by
     have hnd:(es.toList.map (·.born)).Nodup:=E.stamped.2.1
     have hjl':j' < es.toList.length:=(List.getElem?_eq_some_iff.1 h2').1
     have a1:es.toList[j]=e0:=(List.getElem?_eq_some_iff.1 h2).2
     have a2:es.toList[j']=e0':=(List.getElem?_eq_some_iff.1 h2').2
     have hb2:(es.toList.map (·.born))[j']'(by simpa using hjl')=(es.toList.map (·.born))[j]'(by simpa using hjl):=by simp only[List.getElem_map];rw[a1,a2,he]
     exact(List.getElem_inj hnd).1 hb2
    subst hjj
    subst he
    simp[Instr.mapUpdate,run_underlying ht,MapKept.run_getObj_map hb',K.check w' false a,h1,hj,h3,K.stays w' a,MapKept.run_setObj_map _ hb',Result.andThen,setBlock]
  ·intro x hx
   rw[hlist] at hx
   rcases hother x hx with rfl | ⟨hx',hne⟩
   ·exact⟨a,rfl,by simp[put]⟩
   ·obtain⟨y,e1,e2⟩:=E.keys x hx'
    refine⟨y,e1,?_⟩
    have:y≠a:=fun q=>hne (by rw[e1,q])
    simp[put,this,e2]
  ·intro y u hy
   unfold put at hy
   rw[hlist]
   split at hy
   ·rename_i q
    subst q
    exact⟨{e0 with key:=mk y,val:=v},List.mem_iff_getElem.2 ⟨j,by simpa using hjl,by simp⟩,rfl,by simpa using hy⟩
   ·rename_i q
    obtain⟨x,hx,e1,e2⟩:=E.all y u hy
    obtain⟨i,hi,ex⟩:=List.getElem_of_mem hx
    refine⟨x,List.mem_iff_getElem.2 ⟨i,by simpa using hi,?_⟩,e1,e2⟩
    rw[List.getElem_set,if_neg,ex]
    intro hji
    subst hji
    have a1:es.toList[j]=e0:=(List.getElem?_eq_some_iff.1 h2).2
    rw[ex] at a1
    rw[a1,h3] at e1
    exact q (K.inj e1).symm
end
end
section
open Go.RowKit Go.MapKept
open Go.ChangeMaps (setBlock heap_setBlock_same heap_setBlock_other modify_eq_set)
abbrev mkP (p:Int × Int):Value:=.agg #[.int .i64 p.1,.int .i64 p.2]
theorem kQ:Tryz.prog.underlying 104=some (.struct (Tryz.prog.fieldsOf 104)):=by kernel_rfl
theorem aCj:Tryz.prog.stoodInHeld 104=false:=by kernel_rfl
theorem aFm:(Tryz.prog.info? 59).map (fun i=>(i.zero,i.size,i.bytes))=some (some (.int .i64 0),1,8):=by kernel_rfl
theorem info3:(Tryz.prog.info? 3).map (fun i=>(i.zero,i.size,i.bytes))=some (some (.int .i64 0),1,8):=by kernel_rfl
theorem size3 (w:World):(sizeOf 3).run Tryz.prog w=.ok 1 w:=by
 obtain⟨i0,hi,hz0,hz1,hz2⟩:=info_parts info3
 simp[sizeOf,typeInfo,hi,hz1]
theorem aEx (w:World) (cs:Array Value) (i:Nat) (v:Value) (h:cs[i]? = some v):(part 3 cs i).run Tryz.prog w=.ok v w:=by
 simp[part,isAgg,run_underlying Tryz.underlying3,size3,h]
theorem aFu (w:World):(sizeOf 59).run Tryz.prog w=.ok 1 w:=by
 obtain⟨i0,hi,hz0,hz1,hz2⟩:=info_parts aFm
 simp[sizeOf,typeInfo,hi,hz1]
theorem aAc (w:World) (cs:Array Value) (i:Nat) (v:Value) (h:cs[i]? = some v):(part 59 cs i).run Tryz.prog w=.ok v w:=by
 simp[part,isAgg,run_underlying Tryz.underlying59,aFu,h]
theorem two {β γ:Type} {g:β->γ} {l:List β} {x y:γ} (h:l.map g=[x,y]):∃a b,l=[a,b]/\g a=x/\g b=y:=by
 rcases l with _ | ⟨a,_ | ⟨b,_ | ⟨c,r⟩⟩⟩<;>simp at h
 exact⟨a,b,rfl,h⟩
theorem eqP (w:World) (p q:Int × Int):(Op.equal 104 (mkP p) (mkP q)).run Tryz.prog w=.ok (decide (p=q)) w:=by
 have h:=run_equalIn_struct (P:=Tryz.prog) w 9999 104 #[.int .i64 p.1,.int .i64 p.2] #[.int .i64 q.1,.int .i64 q.2] kQ aCj
 rw[show Op.equal 104 (mkP p) (mkP q)=Op.equalIn (9999+1) 104 (mkP p) (mkP q) from rfl,h]
 have hl:(Tryz.prog.fieldsOf 104).toList.map (fun f=>(f.name,f.type,f.offset))=[("way",59,0),("kind",3,1)]:=by kernel_rfl
 generalize (Tryz.prog.fieldsOf 104).toList=fs at hl
 obtain⟨f1,f2,rfl,hf1,hf2⟩:=two hl
 simp only[Prod.mk.injEq] at hf1 hf2
 obtain⟨n1,t1,o1⟩:=hf1
 obtain⟨n2,t2,o2⟩:=hf2
 obtain⟨a,b⟩:=p
 obtain⟨c,d⟩:=q
 simp only[Op.eqFields,n1,t1,o1,n2,t2,o2]
 by_cases h1:a=c<;>by_cases h2:b=d<;>simp[aEx,aAc,run_equalIn_int (P:=Tryz.prog) _ 9998 3 .i64 .i64 _ _ Tryz.underlying3,run_equalIn_int (P:=Tryz.prog) _ 9998 59 .i64 .i64 _ _ Tryz.underlying59,Result.andThen,h1,h2]
theorem aE8 (w:World) (em:Bool) (p:Int × Int):(Instr.checkKey em 10000 104 (mkP p)).run Tryz.prog w=.ok () w:=by
 unfold Instr.checkKey
 simp only[Sem.run_bind,run_underlying kQ,Result.andThen]
 rw[<-Array.forIn_toList]
 have hl:(Tryz.prog.fieldsOf 104).toList.map (fun f=>(f.name,f.type,f.offset))=[("way",59,0),("kind",3,1)]:=by kernel_rfl
 generalize (Tryz.prog.fieldsOf 104).toList=fs at hl
 obtain⟨f1,f2,rfl,hf1,hf2⟩:=two hl
 simp only[Prod.mk.injEq] at hf1 hf2
 obtain⟨n1,t1,o1⟩:=hf1
 obtain⟨n2,t2,o2⟩:=hf2
 have hc:∀z:Int,(Instr.checkKey em 9999 3 (.int .i64 z)).run Tryz.prog w=.ok () w:=fun z=>run_checkKey Tryz.underlying3 (show IsKey (.int .i64) (.int .i64 z) from rfl) em 9998
 have hc2:∀z:Int,(Instr.checkKey em 9999 59 (.int .i64 z)).run Tryz.prog w=.ok () w:=fun z=>run_checkKey Tryz.underlying59 (show IsKey (.int .i64) (.int .i64 z) from rfl) em 9998
 simp[List.forIn_cons,n1,t1,o1,n2,t2,o2,aEx,aAc,hc,hc2,Result.andThen]
theorem aEw (w:World) (p:Int × Int):∀(es:List MapEntry) (i:Nat),(∀e ∈ es,∃b,e.key=mkP b)->
 ((Instr.findAsking 104 (mkP p) es i).run Tryz.prog w=.ok none w/\∀e ∈ es,e.key≠mkP p)∨∃j e,(Instr.findAsking 104 (mkP p) es i).run Tryz.prog w=.ok (some (i+j,e.val)) w/\es[j]? = some e/\e.key=mkP p
 | [],i,_=>by simp[Instr.findAsking]
 | e::es,i,h=>by
  obtain⟨q,hq⟩:=h e (by simp)
  unfold Instr.findAsking
  rw[hq]
  simp only[Sem.run_bind,eqP,Result.andThen]
  by_cases hpq:p=q
  ·subst hpq
   exact Or.inr ⟨0,e,by simp,rfl,hq⟩
  ·simp only[hpq,decide_false,Bool.false_eq_true,if_false]
   rcases aEw w p es (i+1) (fun x hx=>h x (by simp[hx])) with⟨h1,h2⟩ | ⟨j,e',h1,h2,h3⟩
   ·refine Or.inl ⟨h1,fun x hx=>?_⟩
    rcases List.mem_cons.1 hx with rfl | hx
    ·rw[hq]
     intro c
     simp only[mkP,Value.agg.injEq] at c
     obtain⟨a,b⟩:=p
     obtain⟨a',b'⟩:=q
     simp at c
     exact hpq (by rw[c.1,c.2])
    ·exact h2 x hx
   ·exact Or.inr ⟨j+1,e',by rw[h1];simp;omega,by simpa using h2,h3⟩
theorem aDd {p q:Int × Int} (c:mkP p=mkP q):p=q:=by
 simp only[mkP,Value.agg.injEq] at c
 obtain⟨a,b⟩:=p
 obtain⟨a',b'⟩:=q
 simp at c
 rw[c.1,c.2]
theorem xX (p:Int × Int) (fs:Array Field):∀(es:List MapEntry),(∀e ∈ es,∃b,e.key=mkP b)->Instr.findNow (.struct fs) (mkP p) es 0=if es=[] then some none else none
 | [],_=>by simp[Instr.findNow]
 | e::es,h=>by simp[Instr.findNow,Instr.sameNow]
theorem kbP:KB 104 mkP where
 inj:=aDd
 check:=aE8
 find:=fun w p es hes=>by
  have h0:(Instr.findKey 104 (mkP p) es).run Tryz.prog w=if es=[] then .ok none w else (Instr.findAsking 104 (mkP p) es).run Tryz.prog w:=by
   unfold Instr.findKey
   simp only[Sem.run_bind,run_underlying kQ,Result.andThen,xX p _ es hes]
   by_cases he:es=[]<;>simp[he]
  rw[h0]
  by_cases he:es=[]
  ·subst he;simp
  ·rw[if_neg he]
   rcases aEw w p es 0 hes with h | ⟨j,e,h1,h2,h3⟩
   ·exact Or.inl h
   ·exact Or.inr ⟨j,e,by simpa using h1,h2,h3⟩
 stays:=fun w p=>by
  have:Instr.sameBits 10000 (mkP p) (mkP p)=true:=by simp[mkP,Instr.sameBits]
  simp[Instr.keyThatStays,this]
end
section
open Go.RowKit Go.MapKept
open Go.ChangeMaps (setBlock heap_setBlock_same heap_setBlock_other)
section
variable {P:Program} {ops:Array Oper} {Q:Exit->Act->World->Prop} {md:Region.Mode}
theorem aAm (l:Array Bool) (i k:Nat) (d:Bool) (h:i < l.size):(l.setIfInBounds i true).getD k d=if k=i then true else l.getD k d:=by
 simp only[Array.getD_eq_getD_getElem?,Array.getElem?_setIfInBounds]
 by_cases e:k=i
 ·subst e;simp[h]
 ·simp[e,Ne.symm e]
def open' (l:Array Bool):Nat:=(l.toList.filter (fun b=>!b)).length
theorem aBg (l:List Bool) (i:Nat) (h:i < l.length) (hf:l[i]=false):((l.set i true).filter (fun b=>!b)).length+1=(l.filter (fun b=>!b)).length:=by
 induction l generalizing i with
 | nil=>simp at h
 | cons b r ih=>
  cases i with
  | zero=>simp at hf;subst hf;simp
  | succ i=>
   have:=ih i (by simpa using h) (by simpa using hf)
   cases b<;>simp[List.filter_cons] at this ⊢<;>omega
theorem mB (htop:∀i o,ops[i]? = some o->∀e ∈ o.after,Region.binds md e=true->e.on < i) (l:Array Bool) (hl:l.size=ops.size) (hr:Region.ready md ops l=[]):∀i,i < ops.size->l.getD i false=true:=by
 intro i
 induction i using Nat.strongRecOn with
 | ind i ih=>
  intro hi
  cases hb:l.getD i false with
  | true=>rfl
  | false=>
   exfalso
   have hb2:l.getD i true=false:=by
    simp only[Array.getD_eq_getD_getElem?] at hb ⊢
    rw[Array.getElem?_eq_getElem (by omega)] at hb ⊢
    simpa using hb
   have:i ∈ Region.ready md ops l:=mem_ready.2 ⟨hb2,ops[i],Array.getElem?_eq_getElem hi,fun e he hbn=>ih e.on (htop i _ (Array.getElem?_eq_getElem hi) e he hbn) (Nat.lt_trans (htop i _ (Array.getElem?_eq_getElem hi) e he hbn) hi)⟩
   rw[hr] at this
   cases this
theorem aDs (Inv:Array Bool->Act->World->Prop) (htop:∀i o,ops[i]? = some o->∀e ∈ o.after,Region.binds md e=true->e.on < i)
 (hstep:∀l a w i,l.size=ops.size->Inv l a w->i ∈ Region.ready md ops l->wpOp P ops Q i (fun a' w'=>Inv (l.setIfInBounds i true) a' w') a w)
 (hend:∀l a w,Inv l a w->(∀i,i < ops.size->l.getD i false=true)->Q .normal a w) :
 ∀(f:Nat) (l:Array Bool) (a:Act) (w:World),l.size=ops.size->open' l<=f->Inv l a w->wpAny P md ops Q f l a w:=by
 intro f
 induction f with
 | zero=>
  intro l a w hl ho hI
  have hr:Region.ready md ops l=[]:=by
   rw[List.eq_nil_iff_forall_not_mem]
   intro i hi
   have h1:=(mem_ready.1 hi).1
   have hlt:i < l.size:=by
    rw[hl]
    obtain⟨_,o,ho,_⟩:=mem_ready.1 hi
    exact(Array.getElem?_eq_some_iff.1 ho).1
   have h2:false ∈ l.toList:=by
    simp only[Array.getD_eq_getD_getElem?,Array.getElem?_eq_getElem hlt,Option.getD_some] at h1
    rw[<-h1];simp
   have h3:0 < (l.toList.filter (fun b=>!b)).length:=List.length_pos_of_mem (List.mem_filter.2 ⟨h2,rfl⟩)
   unfold open' at ho
   omega
  exact⟨hr,hend l a w hI (mB htop l hl hr)⟩
 | succ f ih=>
  intro l a w hl ho hI
  refine⟨fun hr=>hend l a w hI (mB htop l hl hr),fun i hi=>?_⟩
  refine wpOp_mono (fun a' w' h'=>ih _ a' w' (by simpa using hl) ?_ h') (hstep l a w i hl hI hi)
  have h1:=(mem_ready.1 hi).1
  have hlt:i < l.size:=by
   rw[hl]
   obtain⟨_,o,ho,_⟩:=mem_ready.1 hi
   exact(Array.getElem?_eq_some_iff.1 ho).1
  simp only[Array.getD_eq_getD_getElem?,Array.getElem?_eq_getElem hlt,Option.getD_some] at h1
  have:=aBg l.toList i (by simpa using hlt) (by simpa using h1)
  unfold open' at ho ⊢
  simp only[Array.toList_setIfInBounds]
  omega
theorem iG {i:Nat} {o:Oper} {K:Act->World->Prop} {a:Act} {w w':World} {v:Value} (hi:ops[i]? = some o) (hg:o.guard=none) (hr:(execOp a.eval o).run P w=.ok (.value v) w') (h:K (a.put o.dst v) w'):wpOp P ops Q i K a w:=by
 refine wpOp_step hi fun K' hK=>?_
 rw[if_pos (by simp[Region.wanted,hg])]
 unfold Oper.wp
 rw[hr]
 exact hK _ _ h
theorem step_skip {i:Nat} {o:Oper} {K:Act->World->Prop} {a:Act} {w w':World} (hi:ops[i]? = some o) (hg:o.guard=none) (hd:o.dst=none) (hr:(execOp a.eval o).run P w=.ok .skip w') (h:K a w'):wpOp P ops Q i K a w:=by
 refine wpOp_step hi fun K' hK=>?_
 rw[if_pos (by simp[Region.wanted,hg])]
 unfold Oper.wp
 rw[hr]
 simp only[Oper.upon,hd,Act.put]
 exact hK _ _ h
end
def opsOf:Code->Array Oper
 | .seq _ (.seq (.region _ o _) _)=>o
 | _=>#[]
def ropsOf (f:Func):Array Oper:=opsOf (f.body.getD .skip)
def tabK:List (Int × Int):=[(0,1),(0,2),(0,3),(0,4),(0,5),(0,6),(0,7),(0,8),(1,0),(1,1),(1,2),(1,3),(1,4),(1,5),(1,6),(1,7),(1,8)]
def tabR:List (List Nat):=[[0,3,4,5,6,7,8],[0],[],[0,2,9,10,11],[0,2,12,13],[0,2,14],[1,0,2,12],[1,0,2],[],[],[],[17,18],[12,15,16],[15,16,19],[12,15,16],[],[12]]
def kj (j:Nat):Int × Int:=tabK.getD j (0,0)
def rj (j:Nat):List Nat:=tabR.getD j []
def fcv (r:List Nat):List Value:=r.map fun f=>Value.int .i64 ((f:Nat):Int)
theorem mF:(ropsOf Tryz.f18).size=54:=by kernel_rfl
theorem aHo:(List.range 54).all (fun i=>(((ropsOf Tryz.f18)[i]?).map (fun o=>o.after.all fun e=>!Region.binds .any e || decide (e.on < i))).getD true)=true:=by kernel_rfl
theorem aGq:∀i o,(ropsOf Tryz.f18)[i]? = some o->∀e ∈ o.after,Region.binds .any e=true->e.on < i:=by
 intro i o ho e he hb
 have hlt:i < 54:=by
  have:=(Array.getElem?_eq_some_iff.1 ho).1
  rw[mF] at this
  exact this
 have h:=List.all_eq_true.1 aHo i (by simpa using hlt)
 rw[ho] at h
 simp only[Option.map_some,Option.getD_some,Array.all_eq_true_iff_forall_mem] at h
 have:=h e he
 simpa [hb] using this
theorem aHl:∃o,(ropsOf Tryz.f18)[0]? = some o/\o.op=.makeMap 106 none/\o.dst=some 7/\o.guard=none:=⟨_,rfl,rfl,rfl,rfl⟩
theorem aH5:∃o,(ropsOf Tryz.f18)[52]? = some o/\o.op=.move (.tmp 7)/\o.dst=some 42/\o.guard=none/\o.after.any (fun e=>Region.binds .any e && e.on == 0)=true:=⟨_,rfl,rfl,rfl,rfl,by kernel_rfl⟩
theorem aH9:∃o,(ropsOf Tryz.f18)[53]? = some o/\o.op=.assign (.tmp 42)/\o.dst=some 6/\o.guard=none/\o.after.any (fun e=>Region.binds .any e && e.on == 52)=true:=⟨_,rfl,rfl,rfl,rfl,by kernel_rfl⟩
theorem aHf:∀j,j < 17->∃o,(ropsOf Tryz.f18)[3 * j+1]? = some o/\o.op=.build 104 #[(0,.const (.int .i64 (kj j).1)),(1,.const (.int .i64 (kj j).2))]/\o.dst=some (8+2 * j)/\o.guard=none
 | 0,_=>⟨_,rfl,rfl,rfl,rfl⟩
 | 1,_=>⟨_,rfl,rfl,rfl,rfl⟩
 | 2,_=>⟨_,rfl,rfl,rfl,rfl⟩
 | 3,_=>⟨_,rfl,rfl,rfl,rfl⟩
 | 4,_=>⟨_,rfl,rfl,rfl,rfl⟩
 | 5,_=>⟨_,rfl,rfl,rfl,rfl⟩
 | 6,_=>⟨_,rfl,rfl,rfl,rfl⟩
 | 7,_=>⟨_,rfl,rfl,rfl,rfl⟩
 | 8,_=>⟨_,rfl,rfl,rfl,rfl⟩
 | 9,_=>⟨_,rfl,rfl,rfl,rfl⟩
 | 10,_=>⟨_,rfl,rfl,rfl,rfl⟩
 | 11,_=>⟨_,rfl,rfl,rfl,rfl⟩
 | 12,_=>⟨_,rfl,rfl,rfl,rfl⟩
 | 13,_=>⟨_,rfl,rfl,rfl,rfl⟩
 | 14,_=>⟨_,rfl,rfl,rfl,rfl⟩
 | 15,_=>⟨_,rfl,rfl,rfl,rfl⟩
 | 16,_=>⟨_,rfl,rfl,rfl,rfl⟩
 | j+17,h=>absurd h (by omega)
def parts (r:List Nat):Array (Nat × Operand):=((List.range r.length).map fun i=>(i,Operand.const (Value.int .i64 ((r.getD i 0:Nat):Int)))).toArray
theorem aHj:∀j,j < 17->∃o,(ropsOf Tryz.f18)[3 * j+2]? = some o/\o.op=.buildSlice 56 (rj j).length (parts (rj j))/\o.dst=some (9+2 * j)/\o.guard=none
 | 0,_=>⟨_,rfl,rfl,rfl,rfl⟩
 | 1,_=>⟨_,rfl,rfl,rfl,rfl⟩
 | 2,_=>⟨_,rfl,rfl,rfl,rfl⟩
 | 3,_=>⟨_,rfl,rfl,rfl,rfl⟩
 | 4,_=>⟨_,rfl,rfl,rfl,rfl⟩
 | 5,_=>⟨_,rfl,rfl,rfl,rfl⟩
 | 6,_=>⟨_,rfl,rfl,rfl,rfl⟩
 | 7,_=>⟨_,rfl,rfl,rfl,rfl⟩
 | 8,_=>⟨_,rfl,rfl,rfl,rfl⟩
 | 9,_=>⟨_,rfl,rfl,rfl,rfl⟩
 | 10,_=>⟨_,rfl,rfl,rfl,rfl⟩
 | 11,_=>⟨_,rfl,rfl,rfl,rfl⟩
 | 12,_=>⟨_,rfl,rfl,rfl,rfl⟩
 | 13,_=>⟨_,rfl,rfl,rfl,rfl⟩
 | 14,_=>⟨_,rfl,rfl,rfl,rfl⟩
 | 15,_=>⟨_,rfl,rfl,rfl,rfl⟩
 | 16,_=>⟨_,rfl,rfl,rfl,rfl⟩
 | j+17,h=>absurd h (by omega)
theorem aHi:∀j,j < 17->∃o,(ropsOf Tryz.f18)[3 * j+3]? = some o/\o.op=.insert 106 (.tmp 7) (.tmp (8+2 * j)) (.tmp (9+2 * j))/\o.dst=none/\o.guard=none/\o.after.any (fun e=>Region.binds .any e && e.on == 0)=true/\o.after.any (fun e=>Region.binds .any e && e.on == 3 * j+1)=true/\o.after.any (fun e=>Region.binds .any e && e.on == 3 * j+2)=true
 | 0,_=>⟨_,rfl,rfl,rfl,rfl,by kernel_rfl,by kernel_rfl,by kernel_rfl⟩
 | 1,_=>⟨_,rfl,rfl,rfl,rfl,by kernel_rfl,by kernel_rfl,by kernel_rfl⟩
 | 2,_=>⟨_,rfl,rfl,rfl,rfl,by kernel_rfl,by kernel_rfl,by kernel_rfl⟩
 | 3,_=>⟨_,rfl,rfl,rfl,rfl,by kernel_rfl,by kernel_rfl,by kernel_rfl⟩
 | 4,_=>⟨_,rfl,rfl,rfl,rfl,by kernel_rfl,by kernel_rfl,by kernel_rfl⟩
 | 5,_=>⟨_,rfl,rfl,rfl,rfl,by kernel_rfl,by kernel_rfl,by kernel_rfl⟩
 | 6,_=>⟨_,rfl,rfl,rfl,rfl,by kernel_rfl,by kernel_rfl,by kernel_rfl⟩
 | 7,_=>⟨_,rfl,rfl,rfl,rfl,by kernel_rfl,by kernel_rfl,by kernel_rfl⟩
 | 8,_=>⟨_,rfl,rfl,rfl,rfl,by kernel_rfl,by kernel_rfl,by kernel_rfl⟩
 | 9,_=>⟨_,rfl,rfl,rfl,rfl,by kernel_rfl,by kernel_rfl,by kernel_rfl⟩
 | 10,_=>⟨_,rfl,rfl,rfl,rfl,by kernel_rfl,by kernel_rfl,by kernel_rfl⟩
 | 11,_=>⟨_,rfl,rfl,rfl,rfl,by kernel_rfl,by kernel_rfl,by kernel_rfl⟩
 | 12,_=>⟨_,rfl,rfl,rfl,rfl,by kernel_rfl,by kernel_rfl,by kernel_rfl⟩
 | 13,_=>⟨_,rfl,rfl,rfl,rfl,by kernel_rfl,by kernel_rfl,by kernel_rfl⟩
 | 14,_=>⟨_,rfl,rfl,rfl,rfl,by kernel_rfl,by kernel_rfl,by kernel_rfl⟩
 | 15,_=>⟨_,rfl,rfl,rfl,rfl,by kernel_rfl,by kernel_rfl,by kernel_rfl⟩
 | 16,_=>⟨_,rfl,rfl,rfl,rfl,by kernel_rfl,by kernel_rfl,by kernel_rfl⟩
 | j+17,h=>absurd h (by omega)
theorem gJ {ops:Array Oper} {md:Region.Mode} {l:Array Bool} {i n:Nat} {o:Oper} (hi:i ∈ Region.ready md ops l) (ho:ops[i]? = some o) (h:o.after.any (fun e=>Region.binds md e && e.on == n)=true):l.getD n false=true:=by
 obtain⟨_,o',ho',ha⟩:=mem_ready.1 hi
 rw[ho] at ho'
 injection ho' with ho'
 subst ho'
 rw[Array.any_eq_true] at h
 obtain⟨k,hk,he⟩:=h
 simp only[Bool.and_eq_true,beq_iff_eq] at he
 rw[<-he.2]
 exact ha _ (Array.getElem_mem hk) he.1
theorem aEc (p:Int × Int) (x:World):(Instr.build 104 #[(0,.int .i64 p.1),(1,.int .i64 p.2)]).run Tryz.prog x=.ok (mkP p) x:=by
 go_simp
theorem nH (x:World):(Instr.buildSlice 56 0 #[]).run Tryz.prog x=.ok (.slice (some ⟨x.heap.size,0,none⟩) 0 0) (x.alloc (.cells #[] 105)):=by
 go_simp
theorem aE7 (x:World):(Instr.buildSlice 56 1 #[(0,.int .i64 0)]).run Tryz.prog x=.ok (.slice (some ⟨x.heap.size,0,none⟩) 1 1) (x.alloc (.cells #[.int .i64 0] 105)):=by
 go_simp
theorem aFx (x:World):(Instr.buildSlice 56 5 #[(0,.int .i64 0),(1,.int .i64 2),(2,.int .i64 9),(3,.int .i64 10),(4,.int .i64 11)]).run Tryz.prog x=.ok (.slice (some ⟨x.heap.size,0,none⟩) 5 5) (x.alloc (.cells #[.int .i64 0,.int .i64 2,.int .i64 9,.int .i64 10,.int .i64 11] 105)):=by
 go_simp
theorem aGn (x:World):(Instr.buildSlice 56 4 #[(0,.int .i64 0),(1,.int .i64 2),(2,.int .i64 12),(3,.int .i64 13)]).run Tryz.prog x=.ok (.slice (some ⟨x.heap.size,0,none⟩) 4 4) (x.alloc (.cells #[.int .i64 0,.int .i64 2,.int .i64 12,.int .i64 13] 105)):=by
 go_simp
theorem aG4 (x:World):(Instr.buildSlice 56 3 #[(0,.int .i64 0),(1,.int .i64 2),(2,.int .i64 14)]).run Tryz.prog x=.ok (.slice (some ⟨x.heap.size,0,none⟩) 3 3) (x.alloc (.cells #[.int .i64 0,.int .i64 2,.int .i64 14] 105)):=by
 go_simp
theorem aGa (x:World):(Instr.buildSlice 56 7 #[(0,.int .i64 0),(1,.int .i64 3),(2,.int .i64 4),(3,.int .i64 5),(4,.int .i64 6),(5,.int .i64 7),(6,.int .i64 8)]).run Tryz.prog x=.ok (.slice (some ⟨x.heap.size,0,none⟩) 7 7) (x.alloc (.cells #[.int .i64 0,.int .i64 3,.int .i64 4,.int .i64 5,.int .i64 6,.int .i64 7,.int .i64 8] 105)):=by
 go_simp
theorem aGx (x:World):(Instr.buildSlice 56 3 #[(0,.int .i64 1),(1,.int .i64 0),(2,.int .i64 2)]).run Tryz.prog x=.ok (.slice (some ⟨x.heap.size,0,none⟩) 3 3) (x.alloc (.cells #[.int .i64 1,.int .i64 0,.int .i64 2] 105)):=by
 go_simp
theorem aFd (x:World):(Instr.buildSlice 56 4 #[(0,.int .i64 1),(1,.int .i64 0),(2,.int .i64 2),(3,.int .i64 12)]).run Tryz.prog x=.ok (.slice (some ⟨x.heap.size,0,none⟩) 4 4) (x.alloc (.cells #[.int .i64 1,.int .i64 0,.int .i64 2,.int .i64 12] 105)):=by
 go_simp
theorem aGm (x:World):(Instr.buildSlice 56 1 #[(0,.int .i64 12)]).run Tryz.prog x=.ok (.slice (some ⟨x.heap.size,0,none⟩) 1 1) (x.alloc (.cells #[.int .i64 12] 105)):=by
 go_simp
theorem zN (x:World):(Instr.buildSlice 56 3 #[(0,.int .i64 12),(1,.int .i64 15),(2,.int .i64 16)]).run Tryz.prog x=.ok (.slice (some ⟨x.heap.size,0,none⟩) 3 3) (x.alloc (.cells #[.int .i64 12,.int .i64 15,.int .i64 16] 105)):=by
 go_simp
theorem aB3 (x:World):(Instr.buildSlice 56 3 #[(0,.int .i64 15),(1,.int .i64 16),(2,.int .i64 19)]).run Tryz.prog x=.ok (.slice (some ⟨x.heap.size,0,none⟩) 3 3) (x.alloc (.cells #[.int .i64 15,.int .i64 16,.int .i64 19] 105)):=by
 go_simp
theorem aEh (x:World):(Instr.buildSlice 56 2 #[(0,.int .i64 17),(1,.int .i64 18)]).run Tryz.prog x=.ok (.slice (some ⟨x.heap.size,0,none⟩) 2 2) (x.alloc (.cells #[.int .i64 17,.int .i64 18] 105)):=by
 go_simp
theorem aCf:∀j,j < 17->∀(ρ:Operand->Value) (x:World),(∀v,ρ (.const v)=v)->(Instr.buildSlice 56 (rj j).length ((parts (rj j)).map fun(i,y)=>(i,ρ y))).run Tryz.prog x=.ok (.slice (some ⟨x.heap.size,0,none⟩) (rj j).length (rj j).length) (x.alloc (.cells (fcv (rj j)).toArray 105))
 | 0,_=>fun ρ x hρ=>by
  have e:((parts (rj 0)).map fun(i,y)=>(i,ρ y))=#[(0,ρ (.const (.int .i64 0))),(1,ρ (.const (.int .i64 3))),(2,ρ (.const (.int .i64 4))),(3,ρ (.const (.int .i64 5))),(4,ρ (.const (.int .i64 6))),(5,ρ (.const (.int .i64 7))),(6,ρ (.const (.int .i64 8)))]:=by simp[parts,rj,tabR,List.range_succ]
  rw[e]
  try simp only[hρ]
  exact aGa x
 | 1,_=>fun ρ x hρ=>by
  have e:((parts (rj 1)).map fun(i,y)=>(i,ρ y))=#[(0,ρ (.const (.int .i64 0)))]:=by simp[parts,rj,tabR,List.range_succ]
  rw[e]
  try simp only[hρ]
  exact aE7 x
 | 2,_=>fun ρ x hρ=>by
  have e:((parts (rj 2)).map fun(i,y)=>(i,ρ y))=#[]:=by simp[parts,rj,tabR,List.range_succ]
  rw[e]
  try simp only[hρ]
  exact nH x
 | 3,_=>fun ρ x hρ=>by
  have e:((parts (rj 3)).map fun(i,y)=>(i,ρ y))=#[(0,ρ (.const (.int .i64 0))),(1,ρ (.const (.int .i64 2))),(2,ρ (.const (.int .i64 9))),(3,ρ (.const (.int .i64 10))),(4,ρ (.const (.int .i64 11)))]:=by simp[parts,rj,tabR,List.range_succ]
  rw[e]
  try simp only[hρ]
  exact aFx x
 | 4,_=>fun ρ x hρ=>by
  have e:((parts (rj 4)).map fun(i,y)=>(i,ρ y))=#[(0,ρ (.const (.int .i64 0))),(1,ρ (.const (.int .i64 2))),(2,ρ (.const (.int .i64 12))),(3,ρ (.const (.int .i64 13)))]:=by simp[parts,rj,tabR,List.range_succ]
  rw[e]
  try simp only[hρ]
  exact aGn x
 | 5,_=>fun ρ x hρ=>by
  have e:((parts (rj 5)).map fun(i,y)=>(i,ρ y))=#[(0,ρ (.const (.int .i64 0))),(1,ρ (.const (.int .i64 2))),(2,ρ (.const (.int .i64 14)))]:=by simp[parts,rj,tabR,List.range_succ]
  rw[e]
  try simp only[hρ]
  exact aG4 x
 | 6,_=>fun ρ x hρ=>by
  have e:((parts (rj 6)).map fun(i,y)=>(i,ρ y))=#[(0,ρ (.const (.int .i64 1))),(1,ρ (.const (.int .i64 0))),(2,ρ (.const (.int .i64 2))),(3,ρ (.const (.int .i64 12)))]:=by simp[parts,rj,tabR,List.range_succ]
  rw[e]
  try simp only[hρ]
  exact aFd x
 | 7,_=>fun ρ x hρ=>by
  have e:((parts (rj 7)).map fun(i,y)=>(i,ρ y))=#[(0,ρ (.const (.int .i64 1))),(1,ρ (.const (.int .i64 0))),(2,ρ (.const (.int .i64 2)))]:=by simp[parts,rj,tabR,List.range_succ]
  rw[e]
  try simp only[hρ]
  exact aGx x
 | 8,_=>fun ρ x hρ=>by
  have e:((parts (rj 8)).map fun(i,y)=>(i,ρ y))=#[]:=by simp[parts,rj,tabR,List.range_succ]
  rw[e]
  try simp only[hρ]
  exact nH x
 | 9,_=>fun ρ x hρ=>by
  have e:((parts (rj 9)).map fun(i,y)=>(i,ρ y))=#[]:=by simp[parts,rj,tabR,List.range_succ]
  rw[e]
  try simp only[hρ]
  exact nH x
 | 10,_=>fun ρ x hρ=>by
  have e:((parts (rj 10)).map fun(i,y)=>(i,ρ y))=#[]:=by simp[parts,rj,tabR,List.range_succ]
  rw[e]
  try simp only[hρ]
  exact nH x
 | 11,_=>fun ρ x hρ=>by
  have e:((parts (rj 11)).map fun(i,y)=>(i,ρ y))=#[(0,ρ (.const (.int .i64 17))),(1,ρ (.const (.int .i64 18)))]:=by simp[parts,rj,tabR,List.range_succ]
  rw[e]
  try simp only[hρ]
  exact aEh x
 | 12,_=>fun ρ x hρ=>by
  have e:((parts (rj 12)).map fun(i,y)=>(i,ρ y))=#[(0,ρ (.const (.int .i64 12))),(1,ρ (.const (.int .i64 15))),(2,ρ (.const (.int .i64 16)))]:=by simp[parts,rj,tabR,List.range_succ]
  rw[e]
  try simp only[hρ]
  exact zN x
 | 13,_=>fun ρ x hρ=>by
  have e:((parts (rj 13)).map fun(i,y)=>(i,ρ y))=#[(0,ρ (.const (.int .i64 15))),(1,ρ (.const (.int .i64 16))),(2,ρ (.const (.int .i64 19)))]:=by simp[parts,rj,tabR,List.range_succ]
  rw[e]
  try simp only[hρ]
  exact aB3 x
 | 14,_=>fun ρ x hρ=>by
  have e:((parts (rj 14)).map fun(i,y)=>(i,ρ y))=#[(0,ρ (.const (.int .i64 12))),(1,ρ (.const (.int .i64 15))),(2,ρ (.const (.int .i64 16)))]:=by simp[parts,rj,tabR,List.range_succ]
  rw[e]
  try simp only[hρ]
  exact zN x
 | 15,_=>fun ρ x hρ=>by
  have e:((parts (rj 15)).map fun(i,y)=>(i,ρ y))=#[]:=by simp[parts,rj,tabR,List.range_succ]
  rw[e]
  try simp only[hρ]
  exact nH x
 | 16,_=>fun ρ x hρ=>by
  have e:((parts (rj 16)).map fun(i,y)=>(i,ρ y))=#[(0,ρ (.const (.int .i64 12)))]:=by simp[parts,rj,tabR,List.range_succ]
  rw[e]
  try simp only[hρ]
  exact aGm x
 | j+17,h=>absurd h (by omega)
theorem aAd (x:World) (r:List Nat):FRow (x.alloc (.cells (fcv r).toArray 105)) (some ⟨x.heap.size,0,none⟩) r:=by
 intro i hi
 refine⟨x.heap.size,0,rfl,?_⟩
 rw[cell_of_row _ x.heap.size (0+i) (fcv r).toArray 105 (0,0) (heap_alloc_new x _)]
 simp[fcv,List.getD,hi]
theorem sZ {x:World} {g:Nat} {es es':Array MapEntry} {c c':Nat} {a:Option Addr} {r:List Nat} (hg:x.heap[g]? = some (.map es c)) (h:FRow x a r):FRow (setBlock x g (.map es' c')) a r:=by
 intro i hi
 obtain⟨b,off,e,hc⟩:=h i hi
 refine⟨b,off,e,?_⟩
 have hne:b≠g:=by
  rintro rfl
  simp[World.cell?,hg] at hc
 rw[World.cell?_of_block (a:=⟨b,off+i,none⟩) (heap_setBlock_other hg _ hne)]
 exact hc
structure RI (w:World) (way kind:Int) (l:Array Bool) (a:Act) (x:World):Prop where
 size:a.tmps.size=53
 dfr:a.defers=[]
 t0:a.tmps.getD 0 undef=.int .i64 way
 t1:a.tmps.getD 1 undef=.int .i64 kind
 bel:Below w.heap.size w x
 keys:∀j,j < 17->l.getD (3 * j+1) false=true->a.tmps.getD (8+2 * j) undef=mkP (kj j)
 rows:∀j,j < 17->l.getD (3 * j+2) false=true->∃ad,a.tmps.getD (9+2 * j) undef=.slice (some ad) (rj j).length (rj j).length/\FRow x (some ad) (rj j)
 map:l.getD 0 false=true->∃g F n,a.tmps.getD 7 undef=.map (some g)/\w.heap.size<=g/\MapIs x g mkP F n/\(∀j,j < 17->l.getD (3 * j+3) false=true->F (kj j)=some (a.tmps.getD (9+2 * j) undef))/\∀k v,F k=some v->∃j,j < 17/\kj j=k
 ins:∀j,j < 17->l.getD (3 * j+3) false=true->l.getD (3 * j+2) false=true/\l.getD 0 false=true
 mv:l.getD 52 false=true->a.tmps.getD 42 undef=a.tmps.getD 7 undef/\l.getD 0 false=true
 fin:l.getD 53 false=true->a.tmps.getD 6 undef=a.tmps.getD 7 undef/\l.getD 0 false=true
theorem kJ (a:Act) (d k:Nat) (v:Value) (h:d < a.tmps.size):(a.put (some d) v).tmps.getD k undef=if k=d then v else a.tmps.getD k undef:=by
 simp only[Act.put,Array.getD_eq_getD_getElem?,Array.getElem?_setIfInBounds]
 by_cases e:k=d
 ·subst e;simp[h]
 ·simp[e,Ne.symm e]
theorem aGi:∀i j,i < 17->j < 17->kj i=kj j->i=j:=by
 have h:∀i:Fin 17,∀j:Fin 17,kj i.val=kj j.val->i=j:=by decide
 intro i j hi hj e
 exact congrArg Fin.val (h ⟨i,hi⟩ ⟨j,hj⟩ e)
theorem aC9 (w:World) (way kind:Int) (Q:Exit->Act->World->Prop) (l:Array Bool) (a:Act) (x:World) (i:Nat) (hl:l.size=(ropsOf Tryz.f18).size) (h:RI w way kind l a x) (hi:i ∈ Region.ready .any (ropsOf Tryz.f18) l) :
 wpOp Tryz.prog (ropsOf Tryz.f18) Q i (fun a' w'=>RI w way kind (l.setIfInBounds i true) a' w') a x:=by
 rw[mF] at hl
 have hi54:i < 54:=by
  obtain⟨_,o,ho,_⟩:=mem_ready.1 hi
  have:=(Array.getElem?_eq_some_iff.1 ho).1
  rw[mF] at this
  exact this
 have hno:l.getD i false=false:=by
  have h1:=(mem_ready.1 hi).1
  simp only[Array.getD_eq_getD_getElem?] at h1 ⊢
  rw[Array.getElem?_eq_getElem (by omega)] at h1 ⊢
  simpa using h1
 have hs:∀k,(l.setIfInBounds i true).getD k false=if k=i then true else l.getD k false:=fun k=>aAm l i k false (by omega)
 have hsz:=h.size
 have hcase:i=0∨(∃j,j < 17/\i=3 * j+1)∨(∃j,j < 17/\i=3 * j+2)∨(∃j,j < 17/\i=3 * j+3)∨i=52∨i=53:=by
  by_cases h0:i=0
  ·exact .inl h0
  ·by_cases h52:52<=i
   ·have:i=52∨i=53:=by omega
    rcases this with q | q<;>simp[q]
   ·have hm:(i - 1) % 3=0∨(i - 1) % 3=1∨(i - 1) % 3=2:=by omega
    rcases hm with q | q | q
    ·exact .inr (.inl ⟨(i - 1) / 3,by omega,by omega⟩)
    ·exact .inr (.inr (.inl ⟨(i - 1) / 3,by omega,by omega⟩))
    ·exact .inr (.inr (.inr (.inl ⟨(i - 1) / 3,by omega,by omega⟩)))
 rcases hcase with rfl | ⟨j,hj,rfl⟩ | ⟨j,hj,rfl⟩ | ⟨j,hj,rfl⟩ | rfl | rfl
 ·obtain⟨o,ho,hop,hd,hg⟩:=aHl
  refine iG ho hg (v:=.map (some x.heap.size)) (w':=x.alloc (.map #[] 0)) (by simp[execOp,hop,run_makeMap,Result.andThen]) ?_
  rw[hd]
  have hp:∀k,(a.put (some 7) (.map (some x.heap.size))).tmps.getD k undef=if k=7 then .map (some x.heap.size) else a.tmps.getD k undef:=fun k=>kJ a 7 k _ (by omega)
  have hb:=aA (w:=x) (.map #[] 0)
  refine⟨by simp[Act.put,hsz],by simp[Act.put,h.dfr],by rw[hp,if_neg (by decide)];exact h.t0,by rw[hp,if_neg (by decide)];exact h.t1,h.bel.trans (hb.mono h.bel.size),?_,?_,?_,?_,?_,?_⟩
  ·intro j hj hlj
   rw[hs,if_neg (by omega)] at hlj
   rw[hp,if_neg (by omega)]
   exact h.keys j hj hlj
  ·intro j hj hlj
   rw[hs,if_neg (by omega)] at hlj
   obtain⟨ad,e,hf⟩:=h.rows j hj hlj
   exact⟨ad,by rw[hp,if_neg (by omega)];exact e,hf.below hb⟩
  ·intro _
   refine⟨x.heap.size,fun _=>none,0,by rw[hp,if_pos rfl],h.bel.size,MapIs.made x,?_,fun k v e=>by cases e⟩
   intro j hj hlj
   rw[hs,if_neg (by omega)] at hlj
   rw[(h.ins j hj hlj).2] at hno
   cases hno
  ·intro j hj hlj
   rw[hs,if_neg (by omega)] at hlj
   rw[(h.ins j hj hlj).2] at hno
   cases hno
  ·intro hlj
   rw[hs,if_neg (by decide)] at hlj
   rw[(h.mv hlj).2] at hno
   cases hno
  ·intro hlj
   rw[hs,if_neg (by decide)] at hlj
   rw[(h.fin hlj).2] at hno
   cases hno
 ·obtain⟨o,ho,hop,hd,hg⟩:=aHf j hj
  refine iG ho hg (v:=mkP (kj j)) (w':=x) (by simp[execOp,hop,Act.eval,aEc,Result.andThen]) ?_
  rw[hd]
  have hp:∀k,(a.put (some (8+2 * j)) (mkP (kj j))).tmps.getD k undef=if k=8+2 * j then mkP (kj j) else a.tmps.getD k undef:=fun k=>kJ a (8+2 * j) k _ (by omega)
  refine⟨by simp[Act.put,hsz],by simp[Act.put,h.dfr],by rw[hp,if_neg (by omega)];exact h.t0,by rw[hp,if_neg (by omega)];exact h.t1,h.bel,?_,?_,?_,?_,?_,?_⟩
  ·intro j' hj' hlj
   by_cases e:j'=j
   ·subst e;rw[hp,if_pos rfl]
   ·rw[hs,if_neg (by omega)] at hlj
    rw[hp,if_neg (by omega)]
    exact h.keys j' hj' hlj
  ·intro j' hj' hlj
   rw[hs,if_neg (by omega)] at hlj
   obtain⟨ad,e,hf⟩:=h.rows j' hj' hlj
   exact⟨ad,by rw[hp,if_neg (by omega)];exact e,hf⟩
  ·intro hl0
   rw[hs,if_neg (by omega)] at hl0
   obtain⟨g,F,n,e,hg,hm,h1,h2⟩:=h.map hl0
   refine⟨g,F,n,by rw[hp,if_neg (by omega)];exact e,hg,hm,?_,h2⟩
   intro j' hj' hlj
   rw[hs,if_neg (by omega)] at hlj
   rw[hp,if_neg (by omega)]
   exact h1 j' hj' hlj
  ·intro j' hj' hlj
   rw[hs,if_neg (by omega)] at hlj
   rw[hs,hs,if_neg (by omega),if_neg (by omega)]
   exact h.ins j' hj' hlj
  ·intro hlj
   rw[hs,if_neg (by omega)] at hlj
   rw[hp,hp,hs,if_neg (by omega),if_neg (by omega),if_neg (by omega)]
   exact h.mv hlj
  ·intro hlj
   rw[hs,if_neg (by omega)] at hlj
   rw[hp,hp,hs,if_neg (by omega),if_neg (by omega),if_neg (by omega)]
   exact h.fin hlj
 ·obtain⟨o,ho,hop,hd,hg⟩:=aHj j hj
  refine iG ho hg (v:=.slice (some ⟨x.heap.size,0,none⟩) (rj j).length (rj j).length) (w':=x.alloc (.cells (fcv (rj j)).toArray 105)) (by
   have:=aCf j hj a.eval x (fun v=>rfl)
   simp only[execOp,hop,Sem.run_bind,this,Result.andThen]
   rfl) ?_
  rw[hd]
  have hp:∀k,(a.put (some (9+2 * j)) (.slice (some ⟨x.heap.size,0,none⟩) (rj j).length (rj j).length)).tmps.getD k undef=if k=9+2 * j then .slice (some ⟨x.heap.size,0,none⟩) (rj j).length (rj j).length else a.tmps.getD k undef:=fun k=>kJ a (9+2 * j) k _ (by omega)
  have hb:=aA (w:=x) (.cells (fcv (rj j)).toArray 105)
  refine⟨by simp[Act.put,hsz],by simp[Act.put,h.dfr],by rw[hp,if_neg (by omega)];exact h.t0,by rw[hp,if_neg (by omega)];exact h.t1,h.bel.trans (hb.mono h.bel.size),?_,?_,?_,?_,?_,?_⟩
  ·intro j' hj' hlj
   rw[hs,if_neg (by omega)] at hlj
   rw[hp,if_neg (by omega)]
   exact h.keys j' hj' hlj
  ·intro j' hj' hlj
   by_cases e:j'=j
   ·subst e
    exact⟨_,by rw[hp,if_pos rfl],aAd x _⟩
   ·rw[hs,if_neg (by omega)] at hlj
    obtain⟨ad,e,hf⟩:=h.rows j' hj' hlj
    exact⟨ad,by rw[hp,if_neg (by omega)];exact e,hf.below hb⟩
  ·intro hl0
   rw[hs,if_neg (by omega)] at hl0
   obtain⟨g,F,n,e,hg,hm,h1,h2⟩:=h.map hl0
   refine⟨g,F,n,by rw[hp,if_neg (by omega)];exact e,hg,hm.below hb,?_,h2⟩
   intro j' hj' hlj
   rw[hs,if_neg (by omega)] at hlj
   have hne:j'≠j:=by
    rintro rfl
    rw[(h.ins j' hj' hlj).1] at hno
    cases hno
   rw[hp,if_neg (by omega)]
   exact h1 j' hj' hlj
  ·intro j' hj' hlj
   rw[hs,if_neg (by omega)] at hlj
   have:=h.ins j' hj' hlj
   refine⟨?_,by rw[hs,if_neg (by omega)];exact this.2⟩
   rw[hs]
   split
   ·rfl
   ·exact this.1
  ·intro hlj
   rw[hs,if_neg (by omega)] at hlj
   rw[hp,hp,hs,if_neg (by omega),if_neg (by omega),if_neg (by omega)]
   exact h.mv hlj
  ·intro hlj
   rw[hs,if_neg (by omega)] at hlj
   rw[hp,hp,hs,if_neg (by omega),if_neg (by omega),if_neg (by omega)]
   exact h.fin hlj
 ·obtain⟨o,ho,hop,hd,hg,w0',w1',w2'⟩:=aHi j hj
  have l0:=gJ hi ho w0'
  have l1:=gJ hi ho w1'
  have l2:=gJ hi ho w2'
  have hk:=h.keys j hj l1
  obtain⟨ad,hv,hf⟩:=h.rows j hj l2
  obtain⟨g,F,n,e,hgb,hm,h1,h2⟩:=h.map l0
  obtain⟨es,c,hgm,_⟩:=hm
  obtain⟨es',c',hrun,hE,hn⟩:=MapIs.store (w:=x) (b:=g) (n:=n) (f:=F) (mk:=mkP) (h.map l0 |> fun _=>⟨es,c,hgm,by assumption⟩) kbP Tryz.underlying106 (kj j) (a.tmps.getD (9+2 * j) undef)
  have hrun':=hrun x rfl
  refine step_skip ho hg hd (w':=setBlock x g (.map es' c')) (by
   simp only[execOp,hop,Act.eval,e,hk,Sem.run_bind,hrun',Result.andThen]
   rfl) ?_
  have hlt:g < x.heap.size:=(Array.getElem?_eq_some_iff.1 hgm).1
  have hbel:Below w.heap.size w (setBlock x g (.map es' c')):=⟨h.bel.os,h.bel.tape,h.bel.output,by simpa [setBlock] using h.bel.size,fun k hk=>by rw[heap_setBlock_other hgm _ (show k≠g by omega)];exact h.bel.block k hk⟩
  refine⟨hsz,h.dfr,h.t0,h.t1,hbel,?_,?_,?_,?_,?_,?_⟩
  ·intro j' hj' hlj
   rw[hs,if_neg (by omega)] at hlj
   exact h.keys j' hj' hlj
  ·intro j' hj' hlj
   rw[hs,if_neg (by omega)] at hlj
   obtain⟨ad',e',hf'⟩:=h.rows j' hj' hlj
   exact⟨ad',e',sZ hgm hf'⟩
  ·intro _
   refine⟨g,put F (kj j) (a.tmps.getD (9+2 * j) undef),n+1,e,hgb,⟨es',c',heap_setBlock_same hgm _,hE,hn⟩,?_,?_⟩
   ·intro j' hj' hlj
    by_cases ej:j'=j
    ·subst ej;simp[put]
    ·rw[hs,if_neg (by omega)] at hlj
     unfold put
     rw[if_neg (fun q=>ej (aGi j' j hj' hj q))]
     exact h1 j' hj' hlj
   ·intro k v hkv
    unfold put at hkv
    split at hkv
    ·rename_i q;exact⟨j,hj,q.symm⟩
    ·exact h2 k v hkv
  ·intro j' hj' hlj
   by_cases ej:j'=j
   ·subst ej
    rw[hs,hs,if_neg (by omega),if_neg (by omega)]
    exact⟨l2,l0⟩
   ·rw[hs,if_neg (by omega)] at hlj
    rw[hs,hs,if_neg (by omega),if_neg (by omega)]
    exact h.ins j' hj' hlj
  ·intro hlj
   rw[hs,if_neg (by omega)] at hlj
   rw[hs,if_neg (by omega)]
   exact h.mv hlj
  ·intro hlj
   rw[hs,if_neg (by omega)] at hlj
   rw[hs,if_neg (by omega)]
   exact h.fin hlj
 ·obtain⟨o,ho,hop,hd,hg,w0'⟩:=aH5
  have l0:=gJ hi ho w0'
  refine iG ho hg (v:=a.tmps.getD 7 undef) (w':=x) (by simp[execOp,hop,Act.eval,Result.andThen]) ?_
  rw[hd]
  have hp:∀k,(a.put (some 42) (a.tmps.getD 7 undef)).tmps.getD k undef=if k=42 then a.tmps.getD 7 undef else a.tmps.getD k undef:=fun k=>kJ a 42 k _ (by omega)
  refine⟨by simp[Act.put,hsz],by simp[Act.put,h.dfr],by rw[hp,if_neg (by decide)];exact h.t0,by rw[hp,if_neg (by decide)];exact h.t1,h.bel,?_,?_,?_,?_,?_,?_⟩
  ·intro j' hj' hlj
   rw[hs,if_neg (by omega)] at hlj
   rw[hp,if_neg (by omega)]
   exact h.keys j' hj' hlj
  ·intro j' hj' hlj
   rw[hs,if_neg (by omega)] at hlj
   obtain⟨ad,e,hf⟩:=h.rows j' hj' hlj
   exact⟨ad,by rw[hp,if_neg (by omega)];exact e,hf⟩
  ·intro hl0
   obtain⟨g,F,n,e,hg,hm,h1,h2⟩:=h.map l0
   refine⟨g,F,n,by rw[hp,if_neg (by decide)];exact e,hg,hm,?_,h2⟩
   intro j' hj' hlj
   rw[hs,if_neg (by omega)] at hlj
   rw[hp,if_neg (by omega)]
   exact h1 j' hj' hlj
  ·intro j' hj' hlj
   rw[hs,if_neg (by omega)] at hlj
   rw[hs,hs,if_neg (by omega),if_neg (by omega)]
   exact h.ins j' hj' hlj
  ·intro _
   rw[hp,hp,hs,if_pos rfl,if_neg (by decide),if_neg (by decide)]
   exact⟨rfl,l0⟩
  ·intro hlj
   rw[hs,if_neg (by decide)] at hlj
   rw[hp,hp,hs,if_neg (by decide),if_neg (by decide),if_neg (by decide)]
   exact h.fin hlj
 ·obtain⟨o,ho,hop,hd,hg,w0'⟩:=aH9
  have l52:=gJ hi ho w0'
  refine iG ho hg (v:=a.tmps.getD 42 undef) (w':=x) (by simp[execOp,hop,Act.eval,Result.andThen]) ?_
  rw[hd]
  have hp:∀k,(a.put (some 6) (a.tmps.getD 42 undef)).tmps.getD k undef=if k=6 then a.tmps.getD 42 undef else a.tmps.getD k undef:=fun k=>kJ a 6 k _ (by omega)
  refine⟨by simp[Act.put,hsz],by simp[Act.put,h.dfr],by rw[hp,if_neg (by decide)];exact h.t0,by rw[hp,if_neg (by decide)];exact h.t1,h.bel,?_,?_,?_,?_,?_,?_⟩
  ·intro j' hj' hlj
   rw[hs,if_neg (by omega)] at hlj
   rw[hp,if_neg (by omega)]
   exact h.keys j' hj' hlj
  ·intro j' hj' hlj
   rw[hs,if_neg (by omega)] at hlj
   obtain⟨ad,e,hf⟩:=h.rows j' hj' hlj
   exact⟨ad,by rw[hp,if_neg (by omega)];exact e,hf⟩
  ·intro hl0
   obtain⟨g,F,n,e,hg,hm,h1,h2⟩:=h.map (h.mv l52).2
   refine⟨g,F,n,by rw[hp,if_neg (by decide)];exact e,hg,hm,?_,h2⟩
   intro j' hj' hlj
   rw[hs,if_neg (by omega)] at hlj
   rw[hp,if_neg (by omega)]
   exact h1 j' hj' hlj
  ·intro j' hj' hlj
   rw[hs,if_neg (by omega)] at hlj
   rw[hs,hs,if_neg (by omega),if_neg (by omega)]
   exact h.ins j' hj' hlj
  ·intro hlj
   rw[hs,if_neg (by decide)] at hlj
   rw[hp,hp,hs,if_neg (by decide),if_neg (by decide),if_neg (by decide)]
   exact h.mv hlj
  ·intro _
   rw[hp,hp,hs,if_pos rfl,if_neg (by decide),if_neg (by decide)]
   exact⟨(h.mv l52).1,(h.mv l52).2⟩
theorem aGl (n k:Nat):(Array.replicate n false).getD k false=false:=by
 simp only[Array.getD_eq_getD_getElem?,Array.getElem?_replicate]
 split<;>rfl
theorem aHu {α:Type} {cs:Array α} (h:cs.size=53):∃y0 y1 y2 y3 y4 y5 y6 y7 y8 y9 y10 y11 y12 y13 y14 y15 y16 y17 y18 y19 y20 y21 y22 y23 y24 y25 y26 y27 y28 y29 y30 y31 y32 y33 y34 y35 y36 y37 y38 y39 y40 y41 y42 y43 y44 y45 y46 y47 y48 y49 y50 y51 y52,cs=#[y0,y1,y2,y3,y4,y5,y6,y7,y8,y9,y10,y11,y12,y13,y14,y15,y16,y17,y18,y19,y20,y21,y22,y23,y24,y25,y26,y27,y28,y29,y30,y31,y32,y33,y34,y35,y36,y37,y38,y39,y40,y41,y42,y43,y44,y45,y46,y47,y48,y49,y50,y51,y52]:=by
 obtain⟨l⟩:=cs
 match l,h with
 | y0::y1::y2::y3::y4::y5::y6::y7::y8::y9::y10::y11::y12::y13::y14::y15::y16::y17::y18::y19::y20::y21::y22::y23::y24::y25::y26::y27::y28::y29::y30::y31::y32::y33::y34::y35::y36::y37::y38::y39::y40::y41::y42::y43::y44::y45::y46::y47::y48::y49::y50::y51::y52::[],_=>exact⟨y0,y1,y2,y3,y4,y5,y6,y7,y8,y9,y10,y11,y12,y13,y14,y15,y16,y17,y18,y19,y20,y21,y22,y23,y24,y25,y26,y27,y28,y29,y30,y31,y32,y33,y34,y35,y36,y37,y38,y39,y40,y41,y42,y43,y44,y45,y46,y47,y48,y49,y50,y51,y52,rfl⟩
def rowT (way kind:Int):Option (List Nat):=if way=0 then rowQ kind else rowA kind
theorem aE2:∀j,j < 17->0<=(kj j).2/\(kj j).2<=8/\((kj j).1=0->1<=(kj j).2):=by
 have h:∀j:Fin 17,0<=(kj j.val).2/\(kj j.val).2<=8/\((kj j.val).1=0->1<=(kj j.val).2):=by decide
 exact fun j hj=>h ⟨j,hj⟩
theorem yB (way kind:Int) (hw:way=0∨way=1):(∃j,j < 17/\kj j=(way,kind)/\rowT way kind=some (rj j))∨((∀j,j < 17->kj j≠(way,kind))/\rowT way kind=none):=by
 by_cases hk:0<=kind/\kind<=8
 ·have hc:kind=0∨kind=1∨kind=2∨kind=3∨kind=4∨kind=5∨kind=6∨kind=7∨kind=8:=by omega
  rcases hw with rfl | rfl
  ·rcases hc with rfl | rfl | rfl | rfl | rfl | rfl | rfl | rfl | rfl
   ·refine .inr ⟨fun j hj e=>?_,rfl⟩
    have:=(aE2 j hj).2.2 (by rw[e])
    rw[e] at this
    simp at this
   ·exact .inl ⟨0,by decide,rfl,rfl⟩
   ·exact .inl ⟨1,by decide,rfl,rfl⟩
   ·exact .inl ⟨2,by decide,rfl,rfl⟩
   ·exact .inl ⟨3,by decide,rfl,rfl⟩
   ·exact .inl ⟨4,by decide,rfl,rfl⟩
   ·exact .inl ⟨5,by decide,rfl,rfl⟩
   ·exact .inl ⟨6,by decide,rfl,rfl⟩
   ·exact .inl ⟨7,by decide,rfl,rfl⟩
  ·rcases hc with rfl | rfl | rfl | rfl | rfl | rfl | rfl | rfl | rfl
   ·exact .inl ⟨8,by decide,rfl,rfl⟩
   ·exact .inl ⟨9,by decide,rfl,rfl⟩
   ·exact .inl ⟨10,by decide,rfl,rfl⟩
   ·exact .inl ⟨11,by decide,rfl,rfl⟩
   ·exact .inl ⟨12,by decide,rfl,rfl⟩
   ·exact .inl ⟨13,by decide,rfl,rfl⟩
   ·exact .inl ⟨14,by decide,rfl,rfl⟩
   ·exact .inl ⟨15,by decide,rfl,rfl⟩
   ·exact .inl ⟨16,by decide,rfl,rfl⟩
 ·refine .inr ⟨fun j hj e=>hk ?_,?_⟩
  ·have:=aE2 j hj
   rw[e] at this
   exact⟨this.1,this.2.1⟩
  ·unfold rowT rowQ rowA
   rcases hw with rfl | rfl
   ·rw[if_pos rfl]
    repeat rw[if_neg (by omega)]
   ·rw[if_neg (by decide)]
    repeat rw[if_neg (by omega)]
theorem aDo:(Tryz.prog.info? 56).map (fun i=>(i.zero,i.size,i.bytes))=some (some (.slice none 0 0),1,24):=by kernel_rfl
theorem aF8 (w:World):(zeroValue 56).run Tryz.prog w=.ok (.slice none 0 0) w:=by
 obtain⟨i0,hi,hz0,hz1,hz2⟩:=info_parts aDo
 simp[zeroValue,typeInfo,hi,hz0]
def RowP (t:Option (List Nat)) (w:World) (e:Ending) (w':World):Prop:=(∃a c,e=.returned (.tuple #[.slice a (rowOr t).length c,.bool t.isSome])/\FRow w' a (rowOr t))/\Below w.heap.size w w'
theorem kS (way kind:Int) (hw:way=0∨way=1) (w:World):Calls Tryz.prog 18 #[.int .i64 way,.int .i64 kind] w (RowP (rowT way kind) w):=by
 have HF:Hid _:=yB way kind hw
 have HW:Hid (way=0∨way=1):=hw
 clear hw
 generalize rowT way kind=T at *
 go_enter Tryz.func18,Tryz.ntmps18
 go_wp2_with fail
 refine wp_region_any (by kernel_rfl) ?_
 refine aDs (ops:=ropsOf Tryz.f18) (RI w way kind) aGq (fun l a x i hl h hi=>aC9 w way kind _ l a x i hl h hi) ?_ _ _ _ _ (by simp[mF]) ?_ ?_
 ·intro l a x h hall
  rw[mF] at hall
  obtain⟨g,F,n,e7,hg,hm,h1,h2⟩:=h.map (hall 0 (by decide))
  have e6:=(h.fin (hall 53 (by decide))).1
  have hr:=fun j hj=>h.rows j hj (hall (3 * j+2) (by omega))
  have hk:=fun j hj=>h1 j hj (hall (3 * j+3) (by omega))
  have hbel:=h.bel
  have e0:=h.t0
  have e1:=h.t1
  have hsz:=h.size
  have hdf:=h.dfr
  rw[e7] at e6
  have hlook:=MapIs.lookOk hm kbP Tryz.underlying106 aF8 (way,kind)
  have hval:∃a c,(F (way,kind)).getD (.slice none 0 0)=.slice a (rowOr T).length c/\(F (way,kind)).isSome=T.isSome/\FRow x a (rowOr T):=by
   rcases HF.out with⟨j,hj,ek,et⟩ | ⟨hn,et⟩
   ·obtain⟨ad,ev,hf⟩:=hr j hj
    have:=hk j hj
    rw[ek,ev] at this
    rw[this,et]
    exact⟨some ad,(rj j).length,rfl,rfl,hf⟩
   ·have:F (way,kind)=none:=by
     cases hF:F (way,kind) with
     | none=>rfl
     | some v=>
      obtain⟨j,hj,e⟩:=h2 _ _ hF
      exact absurd e (hn j hj)
    rw[this,et]
    exact⟨none,0,rfl,rfl,fun i hi=>by simp[rowOr] at hi⟩
  obtain⟨a',c',v1,v2,hfr⟩:=hval
  rw[v1,v2] at hlook
  clear h1 h2 hr hk h hm hall HF v1 v2
  obtain⟨tm,df⟩:=a
  simp only at hsz hdf e0 e1 e6 e7
  obtain⟨y0,y1,y2,y3,y4,y5,y6,y7,y8,y9,y10,y11,y12,y13,y14,y15,y16,y17,y18,y19,y20,y21,y22,y23,y24,y25,y26,y27,y28,y29,y30,y31,y32,y33,y34,y35,y36,y37,y38,y39,y40,y41,y42,y43,y44,y45,y46,y47,y48,y49,y50,y51,y52,rfl⟩:=aHu hsz
  have f0:y0=.int .i64 way:=e0
  have f1:y1=.int .i64 kind:=e1
  have f6:y6=.map (some g):=e6
  subst f0 f1 f6 hdf
  clear e0 e1 e6 e7 hsz
  have HFR:Hid (FRow x a' (rowOr T)):=hfr
  have HBL:Hid (Below w.heap.size w x):=hbel
  clear hfr hbel
  obtain⟨n',HN⟩:∃n',Hid ((rowOr T).length=n'):=⟨_,rfl⟩
  obtain⟨b',HB'⟩:∃b',Hid (T.isSome=b'):=⟨_,rfl⟩
  rw[HN.out,HB'.out] at hlook
  go_wp2_with fail
  go_ret2
  exact⟨⟨a',c',by rw[HN.out,HB'.out];rfl,HFR.out⟩,HBL.out⟩
 ·show open' (Array.replicate 54 false)<=54
  decide
 ·refine⟨rfl,rfl,rfl,rfl,⟨rfl,rfl,rfl,Nat.le_refl _,fun _ _=>rfl⟩,?_,?_,?_,?_,?_,?_⟩
  all_goals
   intros
   rename_i hq
   rw[aGl] at hq
   cases hq
end
def rqc (k i:Int) (b:Bd) (c:Bool) (ra:Option Addr) (rc:Nat):Array Value:=#[.int .i64 k,.int .i64 i,.string (b 0).t,.int .i64 (b 2).n,.int .i64 (b 3).n,.int .i64 (b 4).n,.int .i64 (b 5).n,.int .i64 (b 6).n,.bool c,.int .i64 (b 8).n,.int .i64 (b 9).n,.int .i64 (b 10).n,.slice ra (b 11).rs.length rc,.int .i64 (b 12).n,.int .i64 (b 13).n,.int .i64 (b 14).n,.string (b 1).t]
def rsc (k i d:Int) (b:Bd) (p:Pt):Array Value:=#[.int .i64 k,.int .i64 i,.int .i64 d,.int .i64 (b 12).n,.int .i64 (b 15).n,.int .i64 (b 16).n,.slice p.na (b 17).nm.length p.nc,.slice p.ca (b 18).ct.length p.cc,.slice p.ba p.bs.length p.bc]
def zbd:Array Value:=(List.replicate 20 (Value.int .i64 0)++(List.replicate 20 (Value.string ⟨#[]⟩)++[Value.slice none 0 0,Value.slice none 0 0,Value.slice none 0 0,Value.slice none 0 0])).toArray
structure BB (w:World) (t:TypeId) (rcs cs:Array Value) (x:World):Prop where
 r:x.heap[w.heap.size]? = some (.cells rcs t (0,0))
 b:x.heap[w.heap.size+1]? = some (.cells cs 63 (0,0))
 sz:cs.size=44
 bel:Below w.heap.size w x
theorem BB.new (w:World) (t:TypeId) (rcs cs:Array Value) (h:cs.size=44):BB w t rcs cs ((w.alloc (.cells rcs t)).alloc (.cells cs 63)):=by
 refine⟨?_,?_,h,(aA _).trans ((aA _).mono (by simp))⟩
 ·rw[(aA (w:=w.alloc (.cells rcs t)) (.cells cs 63)).block w.heap.size (by simp)]
  exact heap_alloc_new w _
 ·have q:=heap_alloc_new (w.alloc (.cells rcs t)) (.cells cs 63)
  rw[show(w.alloc (.cells rcs t)).heap.size=w.heap.size+1 by simp] at q
  exact q
theorem BB.put {w x:World} {t:TypeId} {rcs cs:Array Value} (h:BB w t rcs cs x) (i:Nat) (v:Value):BB w t rcs (cs.setIfInBounds i v) (x.setCell ⟨w.heap.size+1,i,none⟩ v):=by
 refine⟨?_,?_,by simpa using h.sz,h.bel.setCell (p:=⟨w.heap.size+1,i,none⟩) (by simp) _⟩
 ·rw[heap_setCell_other x ⟨w.heap.size+1,i,none⟩ w.heap.size v (by simp)]
  exact h.r
 ·rw[aH h.b]
theorem dQ {w x:World} {t:TypeId} {rcs cs:Array Value} {ops:Array Oper} {rest:List Oper} {o:Oper} {a:Act} {Q:Exit->Act->World->Prop} (hg:o.guard=none) (ty:TypeId) (p y:Operand) (ho:o.op=.store ty p y) (HB:BB w t rcs cs x) (i:Nat) (v:Value)
 (hp:a.eval p=.pointer (some ⟨w.heap.size+1,i,none⟩)) (hy:a.eval y=v) (hi:i < 44)
 (hst:∀u,x.cell? ⟨w.heap.size+1,i,none⟩=some u->x.frozen? ⟨w.heap.size+1,i,none⟩=false->(Instr.storeAt ty (.pointer (some ⟨w.heap.size+1,i,none⟩)) v).run Tryz.prog x=.ok () (x.setCell ⟨w.heap.size+1,i,none⟩ v))
 (h:∀x',BB w t rcs (cs.setIfInBounds i v) x'->wpList Tryz.prog ops Q rest (a.put o.dst undef) x'):wpList Tryz.prog ops Q (o::rest) a x:=by
 refine wpList_plain hg fun K hK=>?_
 have hc:x.cell? ⟨w.heap.size+1,i,none⟩=some (cs[i]'(by rw[HB.sz];exact hi)):=by
  rw[(aB HB.b i).1,Array.getElem?_eq_getElem (by rw[HB.sz];exact hi)]
 have hr:=hst _ hc (aB HB.b i).2
 unfold Oper.wp execOp
 simp only[ho,hp,hy,Sem.run_bind,Sem.run_pure,Result.andThen_ok,hr]
 exact hK _ _ (h _ (HB.put i v))
theorem st3 (B i:Nat) (n:Int) (x:World) (u:Value) (hc:x.cell? ⟨B,i,none⟩=some u) (hf:x.frozen? ⟨B,i,none⟩=false):(Instr.storeAt 3 (.pointer (some ⟨B,i,none⟩)) (.int .i64 n)).run Tryz.prog x=.ok () (x.setCell ⟨B,i,none⟩ (.int .i64 n)):=by
 go_simp
theorem st9 (B i:Nat) (s:ByteArray) (x:World) (u:Value) (hc:x.cell? ⟨B,i,none⟩=some u) (hf:x.frozen? ⟨B,i,none⟩=false):(Instr.storeAt 9 (.pointer (some ⟨B,i,none⟩)) (.string s)).run Tryz.prog x=.ok () (x.setCell ⟨B,i,none⟩ (.string s)):=by
 go_simp
theorem aIb (B i:Nat) (a:Option Addr) (n c:Nat) (x:World) (u:Value) (hc:x.cell? ⟨B,i,none⟩=some u) (hf:x.frozen? ⟨B,i,none⟩=false):(Instr.storeAt 26 (.pointer (some ⟨B,i,none⟩)) (.slice a n c)).run Tryz.prog x=.ok () (x.setCell ⟨B,i,none⟩ (.slice a n c)):=by
 go_simp
theorem aIi (B i:Nat) (a:Option Addr) (n c:Nat) (x:World) (u:Value) (hc:x.cell? ⟨B,i,none⟩=some u) (hf:x.frozen? ⟨B,i,none⟩=false):(Instr.storeAt 34 (.pointer (some ⟨B,i,none⟩)) (.slice a n c)).run Tryz.prog x=.ok () (x.setCell ⟨B,i,none⟩ (.slice a n c)):=by
 go_simp
theorem aIg (B i:Nat) (a:Option Addr) (n c:Nat) (x:World) (u:Value) (hc:x.cell? ⟨B,i,none⟩=some u) (hf:x.frozen? ⟨B,i,none⟩=false):(Instr.storeAt 35 (.pointer (some ⟨B,i,none⟩)) (.slice a n c)).run Tryz.prog x=.ok () (x.setCell ⟨B,i,none⟩ (.slice a n c)):=by
 go_simp
theorem aIc (B i:Nat) (a:Option Addr) (n c:Nat) (x:World) (u:Value) (hc:x.cell? ⟨B,i,none⟩=some u) (hf:x.frozen? ⟨B,i,none⟩=false):(Instr.storeAt 36 (.pointer (some ⟨B,i,none⟩)) (.slice a n c)).run Tryz.prog x=.ok () (x.setCell ⟨B,i,none⟩ (.slice a n c)):=by
 go_simp
theorem tN {w x:World} {t:TypeId} {rcs cs:Array Value} {ops:Array Oper} {rest:List Oper} {o:Oper} {a:Act} {Q:Exit->Act->World->Prop} (hg:o.guard=none) (p y:Operand) (ho:o.op=.store 3 p y) (HB:BB w t rcs cs x) (i:Nat) (n:Int)
 (hp:a.eval p=.pointer (some ⟨w.heap.size+1,i,none⟩)) (hy:a.eval y=.int .i64 n) (hi:i < 44)
 (h:∀x',BB w t rcs (cs.setIfInBounds i (.int .i64 n)) x'->wpList Tryz.prog ops Q rest (a.put o.dst undef) x'):wpList Tryz.prog ops Q (o::rest) a x:=
 dQ hg 3 p y ho HB i _ hp hy hi (fun u hc hf=>st3 _ _ _ _ u hc hf) h
theorem uV {w x:World} {t:TypeId} {rcs cs:Array Value} {ops:Array Oper} {rest:List Oper} {o:Oper} {a:Act} {Q:Exit->Act->World->Prop} (hg:o.guard=none) (p y:Operand) (ho:o.op=.store 9 p y) (HB:BB w t rcs cs x) (i:Nat) (s:ByteArray)
 (hp:a.eval p=.pointer (some ⟨w.heap.size+1,i,none⟩)) (hy:a.eval y=.string s) (hi:i < 44)
 (h:∀x',BB w t rcs (cs.setIfInBounds i (.string s)) x'->wpList Tryz.prog ops Q rest (a.put o.dst undef) x'):wpList Tryz.prog ops Q (o::rest) a x:=
 dQ hg 9 p y ho HB i _ hp hy hi (fun u hc hf=>st9 _ _ _ _ u hc hf) h
theorem rN {w x:World} {t:TypeId} {rcs cs:Array Value} {ops:Array Oper} {rest:List Oper} {o:Oper} {a:Act} {Q:Exit->Act->World->Prop} (hg:o.guard=none) (p y:Operand) (ho:o.op=.store 26 p y) (HB:BB w t rcs cs x) (i:Nat) (ad:Option Addr) (n c:Nat)
 (hp:a.eval p=.pointer (some ⟨w.heap.size+1,i,none⟩)) (hy:a.eval y=.slice ad n c) (hi:i < 44)
 (h:∀x',BB w t rcs (cs.setIfInBounds i (.slice ad n c)) x'->wpList Tryz.prog ops Q rest (a.put o.dst undef) x'):wpList Tryz.prog ops Q (o::rest) a x:=
 dQ hg 26 p y ho HB i _ hp hy hi (fun u hc hf=>aIb _ _ _ _ _ _ u hc hf) h
theorem qN {w x:World} {t:TypeId} {rcs cs:Array Value} {ops:Array Oper} {rest:List Oper} {o:Oper} {a:Act} {Q:Exit->Act->World->Prop} (hg:o.guard=none) (p y:Operand) (ho:o.op=.store 34 p y) (HB:BB w t rcs cs x) (i:Nat) (ad:Option Addr) (n c:Nat)
 (hp:a.eval p=.pointer (some ⟨w.heap.size+1,i,none⟩)) (hy:a.eval y=.slice ad n c) (hi:i < 44)
 (h:∀x',BB w t rcs (cs.setIfInBounds i (.slice ad n c)) x'->wpList Tryz.prog ops Q rest (a.put o.dst undef) x'):wpList Tryz.prog ops Q (o::rest) a x:=
 dQ hg 34 p y ho HB i _ hp hy hi (fun u hc hf=>aIi _ _ _ _ _ _ u hc hf) h
theorem qA {w x:World} {t:TypeId} {rcs cs:Array Value} {ops:Array Oper} {rest:List Oper} {o:Oper} {a:Act} {Q:Exit->Act->World->Prop} (hg:o.guard=none) (p y:Operand) (ho:o.op=.store 35 p y) (HB:BB w t rcs cs x) (i:Nat) (ad:Option Addr) (n c:Nat)
 (hp:a.eval p=.pointer (some ⟨w.heap.size+1,i,none⟩)) (hy:a.eval y=.slice ad n c) (hi:i < 44)
 (h:∀x',BB w t rcs (cs.setIfInBounds i (.slice ad n c)) x'->wpList Tryz.prog ops Q rest (a.put o.dst undef) x'):wpList Tryz.prog ops Q (o::rest) a x:=
 dQ hg 35 p y ho HB i _ hp hy hi (fun u hc hf=>aIg _ _ _ _ _ _ u hc hf) h
theorem qE {w x:World} {t:TypeId} {rcs cs:Array Value} {ops:Array Oper} {rest:List Oper} {o:Oper} {a:Act} {Q:Exit->Act->World->Prop} (hg:o.guard=none) (p y:Operand) (ho:o.op=.store 36 p y) (HB:BB w t rcs cs x) (i:Nat) (ad:Option Addr) (n c:Nat)
 (hp:a.eval p=.pointer (some ⟨w.heap.size+1,i,none⟩)) (hy:a.eval y=.slice ad n c) (hi:i < 44)
 (h:∀x',BB w t rcs (cs.setIfInBounds i (.slice ad n c)) x'->wpList Tryz.prog ops Q rest (a.put o.dst undef) x'):wpList Tryz.prog ops Q (o::rest) a x:=
 dQ hg 36 p y ho HB i _ hp hy hi (fun u hc hf=>aIc _ _ _ _ _ _ u hc hf) h
theorem dH {x:World} {g:Nat} {k i:Int} {b:Bd} {c:Bool} {ra:Option Addr} {rc:Nat} (h:x.heap[g]? = some (.cells (rqc k i b c ra rc) 28 (0,0))):x.cell? ⟨g,0,none⟩=some (.int .i64 k)/\x.cell? ⟨g,1,none⟩=some (.int .i64 i)/\x.cell? ⟨g,2,none⟩=some (.string (b 0).t)/\x.cell? ⟨g,3,none⟩=some (.int .i64 (b 2).n)/\x.cell? ⟨g,4,none⟩=some (.int .i64 (b 3).n)/\x.cell? ⟨g,5,none⟩=some (.int .i64 (b 4).n)/\x.cell? ⟨g,6,none⟩=some (.int .i64 (b 5).n)/\x.cell? ⟨g,7,none⟩=some (.int .i64 (b 6).n)/\x.cell? ⟨g,8,none⟩=some (.bool c)/\x.cell? ⟨g,9,none⟩=some (.int .i64 (b 8).n)/\x.cell? ⟨g,10,none⟩=some (.int .i64 (b 9).n)/\x.cell? ⟨g,11,none⟩=some (.int .i64 (b 10).n)/\x.cell? ⟨g,12,none⟩=some (.slice ra (b 11).rs.length rc)/\x.cell? ⟨g,13,none⟩=some (.int .i64 (b 12).n)/\x.cell? ⟨g,14,none⟩=some (.int .i64 (b 13).n)/\x.cell? ⟨g,15,none⟩=some (.int .i64 (b 14).n)/\x.cell? ⟨g,16,none⟩=some (.string (b 1).t)/\g < x.heap.size:=
 ⟨(aB h 0).1,(aB h 1).1,(aB h 2).1,(aB h 3).1,(aB h 4).1,(aB h 5).1,(aB h 6).1,(aB h 7).1,(aB h 8).1,(aB h 9).1,(aB h 10).1,(aB h 11).1,(aB h 12).1,(aB h 13).1,(aB h 14).1,(aB h 15).1,(aB h 16).1,(Array.getElem?_eq_some_iff.1 h).1⟩
def ptR (ra:Option Addr) (rc:Nat):Pt:=⟨ra,rc,none,0,none,0,none,0,[]⟩
def bit (c:Bool):Int:=if c then 1 else 0
structure RqB (b:Bd) (c:Bool):Prop where
 v:VB b
 c7:(b 7).n=bit c
 z15:b 15=fz
 z16:b 16=fz
 z17:b 17=fz
 z18:b 18=fz
 z19:b 19=fz
theorem VB.parts {b:Bd} (h:VB b):(b 0).n=0/\(b 1).n=0/\(b 11).n=0/\(b 17).n=0/\(b 18).n=0/\(b 19).n=0/\∀f,2<=f->(b f).t=⟨#[]⟩:=by
 have h0:b 0=vt (b 0).t:=h.1 0 (by decide)
 have h1:b 1=vt (b 1).t:=h.1 1 (by decide)
 have h11:b 11=vr' (b 11).rs:=(h.1 11 (by decide)).1
 have h17:b 17=vm (b 17).nm:=h.1 17 (by decide)
 have h18:b 18=vc (b 18).ct:=(h.1 18 (by decide)).1
 have h19:b 19=vb (b 19).bs:=(h.1 19 (by decide)).1
 refine⟨by rw[h0];rfl,by rw[h1];rfl,by rw[h11];rfl,by rw[h17];rfl,by rw[h18];rfl,by rw[h19];rfl,fun f hf=>?_⟩
 by_cases h20:f < 20
 ·have hv:=h.1 f h20
  rcases dJ f with e | e | e | e | e | e | e
  ·rw[e] at hv;have q:b f=vn (b f).n:=hv.1;rw[q];rfl
  ·rw[e] at hv;have q:b f=vn (b f).n:=hv.1;rw[q];rfl
  ·unfold kd at e;grind
  ·rw[e] at hv;have q:b f=vr' (b f).rs:=hv.1;rw[q];rfl
  ·rw[e] at hv;have q:b f=vm (b f).nm:=hv;rw[q];rfl
  ·rw[e] at hv;have q:b f=vc (b f).ct:=hv.1;rw[q];rfl
  ·rw[e] at hv;have q:b f=vb (b f).bs:=hv.1;rw[q];rfl
 ·rw[h.2 f (by omega)];rfl
theorem oV (b:Bd) (p:Pt):bdc b p=([Value.int .i64 (b 0).n,Value.int .i64 (b 1).n,Value.int .i64 (b 2).n,Value.int .i64 (b 3).n,Value.int .i64 (b 4).n,Value.int .i64 (b 5).n,Value.int .i64 (b 6).n,Value.int .i64 (b 7).n,Value.int .i64 (b 8).n,Value.int .i64 (b 9).n,Value.int .i64 (b 10).n,Value.int .i64 (b 11).n,Value.int .i64 (b 12).n,Value.int .i64 (b 13).n,Value.int .i64 (b 14).n,Value.int .i64 (b 15).n,Value.int .i64 (b 16).n,Value.int .i64 (b 17).n,Value.int .i64 (b 18).n,Value.int .i64 (b 19).n]++([Value.string (b 0).t,Value.string (b 1).t,Value.string (b 2).t,Value.string (b 3).t,Value.string (b 4).t,Value.string (b 5).t,Value.string (b 6).t,Value.string (b 7).t,Value.string (b 8).t,Value.string (b 9).t,Value.string (b 10).t,Value.string (b 11).t,Value.string (b 12).t,Value.string (b 13).t,Value.string (b 14).t,Value.string (b 15).t,Value.string (b 16).t,Value.string (b 17).t,Value.string (b 18).t,Value.string (b 19).t]++[Value.slice p.ra (b 11).rs.length p.rc,Value.slice p.na (b 17).nm.length p.nc,Value.slice p.ca (b 18).ct.length p.cc,Value.slice p.ba p.bs.length p.bc])).toArray:=rfl
theorem aA2 (t0 t1:ByteArray) (n2 n3 n4 n5 n6 n8 n9 n10 n12 n13 n14:Int) (ra:Option Addr) (L rc:Nat):(((((((((((((((zbd).setIfInBounds 20 (.string t0)).setIfInBounds 21 (.string t1)).setIfInBounds 2 (.int .i64 n2)).setIfInBounds 3 (.int .i64 n3)).setIfInBounds 4 (.int .i64 n4)).setIfInBounds 5 (.int .i64 n5)).setIfInBounds 6 (.int .i64 n6)).setIfInBounds 7 (.int .i64 1)).setIfInBounds 8 (.int .i64 n8)).setIfInBounds 9 (.int .i64 n9)).setIfInBounds 10 (.int .i64 n10)).setIfInBounds 12 (.int .i64 n12)).setIfInBounds 13 (.int .i64 n13)).setIfInBounds 14 (.int .i64 n14)).setIfInBounds 40 (.slice ra L rc)=([Value.int .i64 0,Value.int .i64 0,Value.int .i64 n2,Value.int .i64 n3,Value.int .i64 n4,Value.int .i64 n5,Value.int .i64 n6,Value.int .i64 1,Value.int .i64 n8,Value.int .i64 n9,Value.int .i64 n10,Value.int .i64 0,Value.int .i64 n12,Value.int .i64 n13,Value.int .i64 n14,Value.int .i64 0,Value.int .i64 0,Value.int .i64 0,Value.int .i64 0,Value.int .i64 0]++([Value.string t0,Value.string t1,Value.string ⟨#[]⟩,Value.string ⟨#[]⟩,Value.string ⟨#[]⟩,Value.string ⟨#[]⟩,Value.string ⟨#[]⟩,Value.string ⟨#[]⟩,Value.string ⟨#[]⟩,Value.string ⟨#[]⟩,Value.string ⟨#[]⟩,Value.string ⟨#[]⟩,Value.string ⟨#[]⟩,Value.string ⟨#[]⟩,Value.string ⟨#[]⟩,Value.string ⟨#[]⟩,Value.string ⟨#[]⟩,Value.string ⟨#[]⟩,Value.string ⟨#[]⟩,Value.string ⟨#[]⟩]++[Value.slice ra L rc,Value.slice none ([]:List ByteArray).length 0,Value.slice none ([]:List Int).length 0,Value.slice none ([]:List Bs).length 0])).toArray:=by
 kernel_rfl
theorem aBm (b:Bd) (ra:Option Addr) (rc:Nat) (h:RqB b true):(((((((((((((((zbd).setIfInBounds 20 (.string (b 0).t)).setIfInBounds 21 (.string (b 1).t)).setIfInBounds 2 (.int .i64 (b 2).n)).setIfInBounds 3 (.int .i64 (b 3).n)).setIfInBounds 4 (.int .i64 (b 4).n)).setIfInBounds 5 (.int .i64 (b 5).n)).setIfInBounds 6 (.int .i64 (b 6).n)).setIfInBounds 7 (.int .i64 1)).setIfInBounds 8 (.int .i64 (b 8).n)).setIfInBounds 9 (.int .i64 (b 9).n)).setIfInBounds 10 (.int .i64 (b 10).n)).setIfInBounds 12 (.int .i64 (b 12).n)).setIfInBounds 13 (.int .i64 (b 13).n)).setIfInBounds 14 (.int .i64 (b 14).n)).setIfInBounds 40 (.slice ra (b 11).rs.length rc)=bdc b (ptR ra rc):=by
 obtain⟨p0,p1,p11,p17,p18,p19,pt⟩:=h.v.parts
 have p15:(b 15).n=0:=by rw[h.z15];rfl
 have p16:(b 16).n=0:=by rw[h.z16];rfl
 have q17:(b 17).nm=[]:=by rw[h.z17];rfl
 have q18:(b 18).ct=[]:=by rw[h.z18];rfl
 have p7:(b 7).n=1:=h.c7
 rw[oV,p0,p1,p7,p11,p15,p16,p17,p18,p19,q17,q18,pt 2 (by omega),pt 3 (by omega),pt 4 (by omega),pt 5 (by omega),pt 6 (by omega),pt 7 (by omega),pt 8 (by omega),pt 9 (by omega),pt 10 (by omega),pt 11 (by omega),pt 12 (by omega),pt 13 (by omega),pt 14 (by omega),pt 15 (by omega),pt 16 (by omega),pt 17 (by omega),pt 18 (by omega),pt 19 (by omega)]
 exact aA2 _ _ _ _ _ _ _ _ _ _ _ _ _ _ _ _
theorem vI (t0 t1:ByteArray) (n2 n3 n4 n5 n6 n8 n9 n10 n12 n13 n14:Int) (ra:Option Addr) (L rc:Nat):((((((((((((((zbd).setIfInBounds 20 (.string t0)).setIfInBounds 21 (.string t1)).setIfInBounds 2 (.int .i64 n2)).setIfInBounds 3 (.int .i64 n3)).setIfInBounds 4 (.int .i64 n4)).setIfInBounds 5 (.int .i64 n5)).setIfInBounds 6 (.int .i64 n6)).setIfInBounds 8 (.int .i64 n8)).setIfInBounds 9 (.int .i64 n9)).setIfInBounds 10 (.int .i64 n10)).setIfInBounds 12 (.int .i64 n12)).setIfInBounds 13 (.int .i64 n13)).setIfInBounds 14 (.int .i64 n14)).setIfInBounds 40 (.slice ra L rc)=([Value.int .i64 0,Value.int .i64 0,Value.int .i64 n2,Value.int .i64 n3,Value.int .i64 n4,Value.int .i64 n5,Value.int .i64 n6,Value.int .i64 0,Value.int .i64 n8,Value.int .i64 n9,Value.int .i64 n10,Value.int .i64 0,Value.int .i64 n12,Value.int .i64 n13,Value.int .i64 n14,Value.int .i64 0,Value.int .i64 0,Value.int .i64 0,Value.int .i64 0,Value.int .i64 0]++([Value.string t0,Value.string t1,Value.string ⟨#[]⟩,Value.string ⟨#[]⟩,Value.string ⟨#[]⟩,Value.string ⟨#[]⟩,Value.string ⟨#[]⟩,Value.string ⟨#[]⟩,Value.string ⟨#[]⟩,Value.string ⟨#[]⟩,Value.string ⟨#[]⟩,Value.string ⟨#[]⟩,Value.string ⟨#[]⟩,Value.string ⟨#[]⟩,Value.string ⟨#[]⟩,Value.string ⟨#[]⟩,Value.string ⟨#[]⟩,Value.string ⟨#[]⟩,Value.string ⟨#[]⟩,Value.string ⟨#[]⟩]++[Value.slice ra L rc,Value.slice none ([]:List ByteArray).length 0,Value.slice none ([]:List Int).length 0,Value.slice none ([]:List Bs).length 0])).toArray:=by
 kernel_rfl
theorem xS (b:Bd) (ra:Option Addr) (rc:Nat) (h:RqB b false):((((((((((((((zbd).setIfInBounds 20 (.string (b 0).t)).setIfInBounds 21 (.string (b 1).t)).setIfInBounds 2 (.int .i64 (b 2).n)).setIfInBounds 3 (.int .i64 (b 3).n)).setIfInBounds 4 (.int .i64 (b 4).n)).setIfInBounds 5 (.int .i64 (b 5).n)).setIfInBounds 6 (.int .i64 (b 6).n)).setIfInBounds 8 (.int .i64 (b 8).n)).setIfInBounds 9 (.int .i64 (b 9).n)).setIfInBounds 10 (.int .i64 (b 10).n)).setIfInBounds 12 (.int .i64 (b 12).n)).setIfInBounds 13 (.int .i64 (b 13).n)).setIfInBounds 14 (.int .i64 (b 14).n)).setIfInBounds 40 (.slice ra (b 11).rs.length rc)=bdc b (ptR ra rc):=by
 obtain⟨p0,p1,p11,p17,p18,p19,pt⟩:=h.v.parts
 have p15:(b 15).n=0:=by rw[h.z15];rfl
 have p16:(b 16).n=0:=by rw[h.z16];rfl
 have q17:(b 17).nm=[]:=by rw[h.z17];rfl
 have q18:(b 18).ct=[]:=by rw[h.z18];rfl
 have p7:(b 7).n=0:=h.c7
 rw[oV,p0,p1,p7,p11,p15,p16,p17,p18,p19,q17,q18,pt 2 (by omega),pt 3 (by omega),pt 4 (by omega),pt 5 (by omega),pt 6 (by omega),pt 7 (by omega),pt 8 (by omega),pt 9 (by omega),pt 10 (by omega),pt 11 (by omega),pt 12 (by omega),pt 13 (by omega),pt 14 (by omega),pt 15 (by omega),pt 16 (by omega),pt 17 (by omega),pt 18 (by omega),pt 19 (by omega)]
 exact vI _ _ _ _ _ _ _ _ _ _ _ _ _ _ _ _
theorem fF {b:Bd} {p:Pt}:(bdc b p).all (·.oneCell')=true:=by
 rw[oV]
 simp[Value.oneCell']
theorem wW (k i:Int) (b:Bd) (c:Bool) (ra:Option Addr) (rc:Nat) (h:RqB b c) (w:World) :
 Calls Tryz.prog 37 #[.agg (rqc k i b c ra rc)] w fun e w'=>e=.returned (.agg (bdc b (ptR ra rc)))/\Below w.heap.size w w':=by
 cases c
 ·have HQ:Hid (((((((((((((((zbd).setIfInBounds 20 (.string (b 0).t)).setIfInBounds 21 (.string (b 1).t)).setIfInBounds 2 (.int .i64 (b 2).n)).setIfInBounds 3 (.int .i64 (b 3).n)).setIfInBounds 4 (.int .i64 (b 4).n)).setIfInBounds 5 (.int .i64 (b 5).n)).setIfInBounds 6 (.int .i64 (b 6).n)).setIfInBounds 8 (.int .i64 (b 8).n)).setIfInBounds 9 (.int .i64 (b 9).n)).setIfInBounds 10 (.int .i64 (b 10).n)).setIfInBounds 12 (.int .i64 (b 12).n)).setIfInBounds 13 (.int .i64 (b 13).n)).setIfInBounds 14 (.int .i64 (b 14).n)).setIfInBounds 40 (.slice ra (b 11).rs.length rc)=bdc b (ptR ra rc)):=xS b ra rc h
  have HZ:Hid ((bdc b (ptR ra rc)).size=44):=cR _ _
  have HONE:Hid ((bdc b (ptR ra rc)).all (·.oneCell')=true):=fF
  have HB:Hid (BB w 28 (rqc k i b false ra rc) zbd ((w.alloc (.cells (rqc k i b false ra rc) 28)).alloc (.cells (List.toArray (Value.int .i64 0::Value.int .i64 0::Value.int .i64 0::Value.int .i64 0::Value.int .i64 0::Value.int .i64 0::Value.int .i64 0::Value.int .i64 0::Value.int .i64 0::Value.int .i64 0::Value.int .i64 0::Value.int .i64 0::Value.int .i64 0::Value.int .i64 0::Value.int .i64 0::Value.int .i64 0::Value.int .i64 0::Value.int .i64 0::Value.int .i64 0::Value.int .i64 0::Value.string ⟨#[]⟩::Value.string ⟨#[]⟩::Value.string ⟨#[]⟩::Value.string ⟨#[]⟩::Value.string ⟨#[]⟩::Value.string ⟨#[]⟩::Value.string ⟨#[]⟩::Value.string ⟨#[]⟩::Value.string ⟨#[]⟩::Value.string ⟨#[]⟩::Value.string ⟨#[]⟩::Value.string ⟨#[]⟩::Value.string ⟨#[]⟩::Value.string ⟨#[]⟩::Value.string ⟨#[]⟩::Value.string ⟨#[]⟩::Value.string ⟨#[]⟩::Value.string ⟨#[]⟩::Value.string ⟨#[]⟩::Value.string ⟨#[]⟩::Value.slice none 0 0::Value.slice none 0 0::Value.slice none 0 0::Value.slice none 0 0::[])) 63))):=BB.new w 28 _ _ rfl
  obtain⟨c0,c1,c2,c3,c4,c5,c6,c7,c8,c9,c10,c11,c12,c13,c14,c15,c16,c17⟩:=dH HB.out.r
  clear h
  generalize bdc b (ptR ra rc)=CS at *
  go_enter Tryz.func37,Tryz.ntmps37
  go_wp2_with (first
   | (refine tN rfl _ _ rfl HB.out _ _ rfl rfl (by decide) ?_;intro x' hx';clear HB c0 c1 c2 c3 c4 c5 c6 c7 c8 c9 c10 c11 c12 c13 c14 c15 c16 c17;have HB:Hid (BB w 28 (rqc k i b false ra rc) _ x'):=hx';clear hx';obtain⟨c0,c1,c2,c3,c4,c5,c6,c7,c8,c9,c10,c11,c12,c13,c14,c15,c16,c17⟩:=dH HB.out.r)
   | (refine uV rfl _ _ rfl HB.out _ _ rfl rfl (by decide) ?_;intro x' hx';clear HB c0 c1 c2 c3 c4 c5 c6 c7 c8 c9 c10 c11 c12 c13 c14 c15 c16 c17;have HB:Hid (BB w 28 (rqc k i b false ra rc) _ x'):=hx';clear hx';obtain⟨c0,c1,c2,c3,c4,c5,c6,c7,c8,c9,c10,c11,c12,c13,c14,c15,c16,c17⟩:=dH HB.out.r)
   | (refine rN rfl _ _ rfl HB.out _ _ _ _ rfl rfl (by decide) ?_;intro x' hx';clear HB c0 c1 c2 c3 c4 c5 c6 c7 c8 c9 c10 c11 c12 c13 c14 c15 c16 c17;have HB:Hid (BB w 28 (rqc k i b false ra rc) _ x'):=hx';clear hx';obtain⟨c0,c1,c2,c3,c4,c5,c6,c7,c8,c9,c10,c11,c12,c13,c14,c15,c16,c17⟩:=dH HB.out.r)
   | (refine qN rfl _ _ rfl HB.out _ _ _ _ rfl rfl (by decide) ?_;intro x' hx';clear HB c0 c1 c2 c3 c4 c5 c6 c7 c8 c9 c10 c11 c12 c13 c14 c15 c16 c17;have HB:Hid (BB w 28 (rqc k i b false ra rc) _ x'):=hx';clear hx';obtain⟨c0,c1,c2,c3,c4,c5,c6,c7,c8,c9,c10,c11,c12,c13,c14,c15,c16,c17⟩:=dH HB.out.r)
   | (refine qA rfl _ _ rfl HB.out _ _ _ _ rfl rfl (by decide) ?_;intro x' hx';clear HB c0 c1 c2 c3 c4 c5 c6 c7 c8 c9 c10 c11 c12 c13 c14 c15 c16 c17;have HB:Hid (BB w 28 (rqc k i b false ra rc) _ x'):=hx';clear hx';obtain⟨c0,c1,c2,c3,c4,c5,c6,c7,c8,c9,c10,c11,c12,c13,c14,c15,c16,c17⟩:=dH HB.out.r)
   | (refine qE rfl _ _ rfl HB.out _ _ _ _ rfl rfl (by decide) ?_;intro x' hx';clear HB c0 c1 c2 c3 c4 c5 c6 c7 c8 c9 c10 c11 c12 c13 c14 c15 c16 c17;have HB:Hid (BB w 28 (rqc k i b false ra rc) _ x'):=hx';clear hx';obtain⟨c0,c1,c2,c3,c4,c5,c6,c7,c8,c9,c10,c11,c12,c13,c14,c15,c16,c17⟩:=dH HB.out.r)
   | (refine wpList_load_row rfl 63 _ rfl (w.heap.size+1) rfl 63 (CS) (0,0) _ (by have q:=HB.out.b;rw[HQ.out] at q;exact q) Tryz.underlying63 rfl (by rw[HZ.out];exact Tryz.info63) ?_;clear c0 c1 c2 c3 c4 c5 c6 c7 c8 c9 c10 c11 c12 c13 c14 c15 c16 c17)
   | (refine wpList_store_row rfl 63 _ _ rfl (w.heap.size+1) (CS) rfl rfl 63 (CS) (by have q:=HB.out.b;rw[HQ.out] at q;exact q) (by rw[HZ.out];exact Tryz.info63) rfl HONE.out ?_))
  refine bodyPost_ret (results_cell_row rfl _ _ (w.heap.size+1) 63 (CS) (0,0) _ rfl (setRow_heap _ _ _ _ _ _ (by have q:=HB.out.b;rw[HQ.out] at q;exact q)) Tryz.underlying63 rfl (by rw[HZ.out];exact Tryz.info63)) rfl ?_
  exact⟨rfl,below_setRow HB.out.bel (by simp) _⟩
 ·have HQ:Hid ((((((((((((((((zbd).setIfInBounds 20 (.string (b 0).t)).setIfInBounds 21 (.string (b 1).t)).setIfInBounds 2 (.int .i64 (b 2).n)).setIfInBounds 3 (.int .i64 (b 3).n)).setIfInBounds 4 (.int .i64 (b 4).n)).setIfInBounds 5 (.int .i64 (b 5).n)).setIfInBounds 6 (.int .i64 (b 6).n)).setIfInBounds 7 (.int .i64 1)).setIfInBounds 8 (.int .i64 (b 8).n)).setIfInBounds 9 (.int .i64 (b 9).n)).setIfInBounds 10 (.int .i64 (b 10).n)).setIfInBounds 12 (.int .i64 (b 12).n)).setIfInBounds 13 (.int .i64 (b 13).n)).setIfInBounds 14 (.int .i64 (b 14).n)).setIfInBounds 40 (.slice ra (b 11).rs.length rc)=bdc b (ptR ra rc)):=aBm b ra rc h
  have HZ:Hid ((bdc b (ptR ra rc)).size=44):=cR _ _
  have HONE:Hid ((bdc b (ptR ra rc)).all (·.oneCell')=true):=fF
  have HB:Hid (BB w 28 (rqc k i b true ra rc) zbd ((w.alloc (.cells (rqc k i b true ra rc) 28)).alloc (.cells (List.toArray (Value.int .i64 0::Value.int .i64 0::Value.int .i64 0::Value.int .i64 0::Value.int .i64 0::Value.int .i64 0::Value.int .i64 0::Value.int .i64 0::Value.int .i64 0::Value.int .i64 0::Value.int .i64 0::Value.int .i64 0::Value.int .i64 0::Value.int .i64 0::Value.int .i64 0::Value.int .i64 0::Value.int .i64 0::Value.int .i64 0::Value.int .i64 0::Value.int .i64 0::Value.string ⟨#[]⟩::Value.string ⟨#[]⟩::Value.string ⟨#[]⟩::Value.string ⟨#[]⟩::Value.string ⟨#[]⟩::Value.string ⟨#[]⟩::Value.string ⟨#[]⟩::Value.string ⟨#[]⟩::Value.string ⟨#[]⟩::Value.string ⟨#[]⟩::Value.string ⟨#[]⟩::Value.string ⟨#[]⟩::Value.string ⟨#[]⟩::Value.string ⟨#[]⟩::Value.string ⟨#[]⟩::Value.string ⟨#[]⟩::Value.string ⟨#[]⟩::Value.string ⟨#[]⟩::Value.string ⟨#[]⟩::Value.string ⟨#[]⟩::Value.slice none 0 0::Value.slice none 0 0::Value.slice none 0 0::Value.slice none 0 0::[])) 63))):=BB.new w 28 _ _ rfl
  obtain⟨c0,c1,c2,c3,c4,c5,c6,c7,c8,c9,c10,c11,c12,c13,c14,c15,c16,c17⟩:=dH HB.out.r
  clear h
  generalize bdc b (ptR ra rc)=CS at *
  go_enter Tryz.func37,Tryz.ntmps37
  go_wp2_with (first
   | (refine tN rfl _ _ rfl HB.out _ _ rfl rfl (by decide) ?_;intro x' hx';clear HB c0 c1 c2 c3 c4 c5 c6 c7 c8 c9 c10 c11 c12 c13 c14 c15 c16 c17;have HB:Hid (BB w 28 (rqc k i b true ra rc) _ x'):=hx';clear hx';obtain⟨c0,c1,c2,c3,c4,c5,c6,c7,c8,c9,c10,c11,c12,c13,c14,c15,c16,c17⟩:=dH HB.out.r)
   | (refine uV rfl _ _ rfl HB.out _ _ rfl rfl (by decide) ?_;intro x' hx';clear HB c0 c1 c2 c3 c4 c5 c6 c7 c8 c9 c10 c11 c12 c13 c14 c15 c16 c17;have HB:Hid (BB w 28 (rqc k i b true ra rc) _ x'):=hx';clear hx';obtain⟨c0,c1,c2,c3,c4,c5,c6,c7,c8,c9,c10,c11,c12,c13,c14,c15,c16,c17⟩:=dH HB.out.r)
   | (refine rN rfl _ _ rfl HB.out _ _ _ _ rfl rfl (by decide) ?_;intro x' hx';clear HB c0 c1 c2 c3 c4 c5 c6 c7 c8 c9 c10 c11 c12 c13 c14 c15 c16 c17;have HB:Hid (BB w 28 (rqc k i b true ra rc) _ x'):=hx';clear hx';obtain⟨c0,c1,c2,c3,c4,c5,c6,c7,c8,c9,c10,c11,c12,c13,c14,c15,c16,c17⟩:=dH HB.out.r)
   | (refine qN rfl _ _ rfl HB.out _ _ _ _ rfl rfl (by decide) ?_;intro x' hx';clear HB c0 c1 c2 c3 c4 c5 c6 c7 c8 c9 c10 c11 c12 c13 c14 c15 c16 c17;have HB:Hid (BB w 28 (rqc k i b true ra rc) _ x'):=hx';clear hx';obtain⟨c0,c1,c2,c3,c4,c5,c6,c7,c8,c9,c10,c11,c12,c13,c14,c15,c16,c17⟩:=dH HB.out.r)
   | (refine qA rfl _ _ rfl HB.out _ _ _ _ rfl rfl (by decide) ?_;intro x' hx';clear HB c0 c1 c2 c3 c4 c5 c6 c7 c8 c9 c10 c11 c12 c13 c14 c15 c16 c17;have HB:Hid (BB w 28 (rqc k i b true ra rc) _ x'):=hx';clear hx';obtain⟨c0,c1,c2,c3,c4,c5,c6,c7,c8,c9,c10,c11,c12,c13,c14,c15,c16,c17⟩:=dH HB.out.r)
   | (refine qE rfl _ _ rfl HB.out _ _ _ _ rfl rfl (by decide) ?_;intro x' hx';clear HB c0 c1 c2 c3 c4 c5 c6 c7 c8 c9 c10 c11 c12 c13 c14 c15 c16 c17;have HB:Hid (BB w 28 (rqc k i b true ra rc) _ x'):=hx';clear hx';obtain⟨c0,c1,c2,c3,c4,c5,c6,c7,c8,c9,c10,c11,c12,c13,c14,c15,c16,c17⟩:=dH HB.out.r)
   | (refine wpList_load_row rfl 63 _ rfl (w.heap.size+1) rfl 63 (CS) (0,0) _ (by have q:=HB.out.b;rw[HQ.out] at q;exact q) Tryz.underlying63 rfl (by rw[HZ.out];exact Tryz.info63) ?_;clear c0 c1 c2 c3 c4 c5 c6 c7 c8 c9 c10 c11 c12 c13 c14 c15 c16 c17)
   | (refine wpList_store_row rfl 63 _ _ rfl (w.heap.size+1) (CS) rfl rfl 63 (CS) (by have q:=HB.out.b;rw[HQ.out] at q;exact q) (by rw[HZ.out];exact Tryz.info63) rfl HONE.out ?_))
  refine bodyPost_ret (results_cell_row rfl _ _ (w.heap.size+1) 63 (CS) (0,0) _ rfl (setRow_heap _ _ _ _ _ _ (by have q:=HB.out.b;rw[HQ.out] at q;exact q)) Tryz.underlying63 rfl (by rw[HZ.out];exact Tryz.info63)) rfl ?_
  exact⟨rfl,below_setRow HB.out.bel (by simp) _⟩
def ptz:Pt:=⟨none,0,none,0,none,0,none,0,[]⟩
theorem aHx:bdc bdz ptz=(List.toArray (Value.int .i64 0::Value.int .i64 0::Value.int .i64 0::Value.int .i64 0::Value.int .i64 0::Value.int .i64 0::Value.int .i64 0::Value.int .i64 0::Value.int .i64 0::Value.int .i64 0::Value.int .i64 0::Value.int .i64 0::Value.int .i64 0::Value.int .i64 0::Value.int .i64 0::Value.int .i64 0::Value.int .i64 0::Value.int .i64 0::Value.int .i64 0::Value.int .i64 0::Value.string ⟨#[]⟩::Value.string ⟨#[]⟩::Value.string ⟨#[]⟩::Value.string ⟨#[]⟩::Value.string ⟨#[]⟩::Value.string ⟨#[]⟩::Value.string ⟨#[]⟩::Value.string ⟨#[]⟩::Value.string ⟨#[]⟩::Value.string ⟨#[]⟩::Value.string ⟨#[]⟩::Value.string ⟨#[]⟩::Value.string ⟨#[]⟩::Value.string ⟨#[]⟩::Value.string ⟨#[]⟩::Value.string ⟨#[]⟩::Value.string ⟨#[]⟩::Value.string ⟨#[]⟩::Value.string ⟨#[]⟩::Value.string ⟨#[]⟩::Value.slice none 0 0::Value.slice none 0 0::Value.slice none 0 0::Value.slice none 0 0::[])):=by rfl
theorem BdX.new (w:World):BdX (w.alloc (.cells (List.toArray (Value.int .i64 0::Value.int .i64 0::Value.int .i64 0::Value.int .i64 0::Value.int .i64 0::Value.int .i64 0::Value.int .i64 0::Value.int .i64 0::Value.int .i64 0::Value.int .i64 0::Value.int .i64 0::Value.int .i64 0::Value.int .i64 0::Value.int .i64 0::Value.int .i64 0::Value.int .i64 0::Value.int .i64 0::Value.int .i64 0::Value.int .i64 0::Value.int .i64 0::Value.string ⟨#[]⟩::Value.string ⟨#[]⟩::Value.string ⟨#[]⟩::Value.string ⟨#[]⟩::Value.string ⟨#[]⟩::Value.string ⟨#[]⟩::Value.string ⟨#[]⟩::Value.string ⟨#[]⟩::Value.string ⟨#[]⟩::Value.string ⟨#[]⟩::Value.string ⟨#[]⟩::Value.string ⟨#[]⟩::Value.string ⟨#[]⟩::Value.string ⟨#[]⟩::Value.string ⟨#[]⟩::Value.string ⟨#[]⟩::Value.string ⟨#[]⟩::Value.string ⟨#[]⟩::Value.string ⟨#[]⟩::Value.string ⟨#[]⟩::Value.slice none 0 0::Value.slice none 0 0::Value.slice none 0 0::Value.slice none 0 0::[])) 63)) w.heap.size bdz ptz:=by
 refine⟨by rw[aHx];exact heap_alloc_new w _,?_,?_,?_,⟨?_,?_⟩,rfl,fun _=>rfl,?_,?_,?_,?_⟩
 ·intro i hi;simp[bdz,fz] at hi
 ·intro i hi;simp[bdz,fz] at hi
 ·intro i hi;simp[bdz,fz] at hi
 ·intro i hi;simp[ptz] at hi
 ·intro i hi;simp[ptz] at hi
 all_goals(intro g hg;simp[ptz] at hg)
theorem aAe:∀(l:List Nat) (f:Nat) (b:Bd) (s:Ls),gFs (l++[f]) b s=(setB (gFs l b s).1 f (gK (kd f) (gFs l b s).2).1,(gK (kd f) (gFs l b s).2).2):=by
 intro l
 induction l with
 | nil=>intro f b s;rfl
 | cons x r ih=>intro f b s;simp only[List.cons_append,gFs];rw[ih]
theorem mI (r:List Nat) (b:Bd) (s:Ls) (k:Nat) (hk:k < r.length):gFs (r.take (k+1)) b s=(setB (gFs (r.take k) b s).1 (r.getD k 0) (gK (kd (r.getD k 0)) (gFs (r.take k) b s).2).1,(gK (kd (r.getD k 0)) (gFs (r.take k) b s).2).2):=by
 rw[<-aAe,List.take_add_one]
 congr 2
 simp[List.getD,hk]
theorem pN:∀(l:List Nat) (b:Bd) (s:Ls) (g:Nat),g ∉ l->(gFs l b s).1 g=b g:=by
 intro l
 induction l with
 | nil=>intro b s g _;rfl
 | cons x r ih=>
  intro b s g hg
  simp only[List.mem_cons,not_or] at hg
  simp only[gFs]
  rw[ih _ _ g hg.2]
  simp[setB,hg.1]
theorem jH {r:List Nat} (h:r.Nodup) {k:Nat} (hk:k < r.length):r.getD k 0 ∉ r.take k:=by
 intro hm
 obtain⟨i,hi,e⟩:=List.getElem_of_mem hm
 rw[List.length_take] at hi
 rw[List.getElem_take] at e
 rw[show r.getD k 0=r[k] by simp[List.getD,hk]] at e
 exact(List.pairwise_iff_getElem.1 h) i k (by omega) hk (by omega) e
theorem aC1 {w0 w:World} {st:Ls} {a:Option Addr} {r:List Nat} (h:FRow w a r) (hr:RdR w0 w st) {i:Nat} (hi:i < r.length) {b off:Nat} (e:a=some ⟨b,off,none⟩):b≠w0.heap.size/\b < w.heap.size:=by
 obtain⟨b',off',e',c⟩:=h i hi
 rw[e] at e'
 simp only[Option.some.injEq,Addr.mk.injEq,and_true] at e'
 obtain⟨rfl,rfl⟩:=e'
 refine⟨?_,World.block_lt_of_cell? _ _ c⟩
 rintro rfl
 obtain⟨a2,cap,hx,_⟩:=hr.box
 rw[(aB hx _).1] at c
 have hm:=List.mem_of_getElem? (by rw[<-Array.getElem?_toList] at c;exact c)
 simp at hm
theorem FRow.keepX {w0 w w':World} {st:Ls} {a:Option Addr} {r:List Nat} (h:FRow w a r) (hr:RdR w0 w st) (k:KeepX w0.heap.size w.heap.size w w'):FRow w' a r:=by
 intro i hi
 obtain⟨b,off,e,c⟩:=h i hi
 obtain⟨n1,n2⟩:=aC1 h hr hi e
 exact⟨b,off,e,(World.cell?_of_block (a:=⟨b,off+i,none⟩) (k.blk b n1 (by omega) n2)).trans c⟩
def FsP (w0 w:World) (b:Bd) (st:Ls) (e:Ending) (w':World):Prop:=∃p X,w.heap.size<=X/\e=.returned (.agg (bdc b p))/\BdX w' X b p/\RdR w0 w' st/\KeepB w0.heap.size w w'
theorem lP (w0 w:World) (st:Ls) (a:Option Addr) (cap:Nat) (r:List Nat) (ht:Tab w0) (hlen:r.length<=7) (hf:∀f,f ∈ r->f < 20) (hnd:r.Nodup) (hr:FRow w a r) (h:RdR w0 w st) :
 Calls Tryz.prog 19 #[(.pointer (some ⟨w0.heap.size,0,none⟩)),.slice a r.length cap] w (FsP w0 w (gFs r bdz st).1 (gFs r bdz st).2):=by
 have hz:w0.heap.size < w.heap.size:=by obtain⟨a,cap,hx,_⟩:=h.box;exact(Array.getElem?_eq_some_iff.1 hx).1
 obtain⟨S,HS⟩:∃S:Nat->Ls,Hid (∀k,S k=(gFs (r.take k) bdz st).2):=⟨_,fun _=>rfl⟩
 obtain⟨B,HB⟩:∃B:Nat->Bd,Hid (∀k,B k=(gFs (r.take k) bdz st).1):=⟨_,fun _=>rfl⟩
 have HS0:Hid (st=S 0/\bdz=B 0):=⟨by rw[HS.out];rfl,by rw[HB.out];rfl⟩
 have HSN:Hid (S r.length=(gFs r bdz st).2/\B r.length=(gFs r bdz st).1):=⟨by rw[HS.out,List.take_length],by rw[HB.out,List.take_length]⟩
 have HT:Hid (∀k x p,k < r.length->RdR w0 x (S k)->BdX x w.heap.size (B k) p->Calls Tryz.prog 39 #[(.pointer (some ⟨w0.heap.size,0,none⟩)),.pointer (some ⟨w.heap.size,0,none⟩),.int .i64 ((r.getD k 0:Nat):Int)] x (TkP w0 x w.heap.size (B (k+1)) (S (k+1)))):=fun k x p hk q1 q2=>by
  rw[HB.out (k+1),HS.out (k+1),mI r bdz st k hk,<-HB.out k,<-HS.out k]
  refine take_any w0 x (S k) w.heap.size (B k) p _ (hf _ ?_) ht ?_ hz q1 q2
  ·rw[show r.getD k 0=r[k] by simp[List.getD,hk]];exact List.getElem_mem hk
  ·rw[HB.out,pN _ _ _ _ (jH hnd hk)];rfl
 have HR0:Hid (RdR w0 (w.alloc (.cells (List.toArray (Value.int .i64 0::Value.int .i64 0::Value.int .i64 0::Value.int .i64 0::Value.int .i64 0::Value.int .i64 0::Value.int .i64 0::Value.int .i64 0::Value.int .i64 0::Value.int .i64 0::Value.int .i64 0::Value.int .i64 0::Value.int .i64 0::Value.int .i64 0::Value.int .i64 0::Value.int .i64 0::Value.int .i64 0::Value.int .i64 0::Value.int .i64 0::Value.int .i64 0::Value.string ⟨#[]⟩::Value.string ⟨#[]⟩::Value.string ⟨#[]⟩::Value.string ⟨#[]⟩::Value.string ⟨#[]⟩::Value.string ⟨#[]⟩::Value.string ⟨#[]⟩::Value.string ⟨#[]⟩::Value.string ⟨#[]⟩::Value.string ⟨#[]⟩::Value.string ⟨#[]⟩::Value.string ⟨#[]⟩::Value.string ⟨#[]⟩::Value.string ⟨#[]⟩::Value.string ⟨#[]⟩::Value.string ⟨#[]⟩::Value.string ⟨#[]⟩::Value.string ⟨#[]⟩::Value.string ⟨#[]⟩::Value.string ⟨#[]⟩::Value.slice none 0 0::Value.slice none 0 0::Value.slice none 0 0::Value.slice none 0 0::[])) 63)) st):=h.below (aA _)
 have HX0:Hid (BdX (w.alloc (.cells (List.toArray (Value.int .i64 0::Value.int .i64 0::Value.int .i64 0::Value.int .i64 0::Value.int .i64 0::Value.int .i64 0::Value.int .i64 0::Value.int .i64 0::Value.int .i64 0::Value.int .i64 0::Value.int .i64 0::Value.int .i64 0::Value.int .i64 0::Value.int .i64 0::Value.int .i64 0::Value.int .i64 0::Value.int .i64 0::Value.int .i64 0::Value.int .i64 0::Value.int .i64 0::Value.string ⟨#[]⟩::Value.string ⟨#[]⟩::Value.string ⟨#[]⟩::Value.string ⟨#[]⟩::Value.string ⟨#[]⟩::Value.string ⟨#[]⟩::Value.string ⟨#[]⟩::Value.string ⟨#[]⟩::Value.string ⟨#[]⟩::Value.string ⟨#[]⟩::Value.string ⟨#[]⟩::Value.string ⟨#[]⟩::Value.string ⟨#[]⟩::Value.string ⟨#[]⟩::Value.string ⟨#[]⟩::Value.string ⟨#[]⟩::Value.string ⟨#[]⟩::Value.string ⟨#[]⟩::Value.string ⟨#[]⟩::Value.string ⟨#[]⟩::Value.slice none 0 0::Value.slice none 0 0::Value.slice none 0 0::Value.slice none 0 0::[])) 63)) w.heap.size bdz ptz):=BdX.new w
 have HK0:Hid (KeepX w0.heap.size w.heap.size w (w.alloc (.cells (List.toArray (Value.int .i64 0::Value.int .i64 0::Value.int .i64 0::Value.int .i64 0::Value.int .i64 0::Value.int .i64 0::Value.int .i64 0::Value.int .i64 0::Value.int .i64 0::Value.int .i64 0::Value.int .i64 0::Value.int .i64 0::Value.int .i64 0::Value.int .i64 0::Value.int .i64 0::Value.int .i64 0::Value.int .i64 0::Value.int .i64 0::Value.int .i64 0::Value.int .i64 0::Value.string ⟨#[]⟩::Value.string ⟨#[]⟩::Value.string ⟨#[]⟩::Value.string ⟨#[]⟩::Value.string ⟨#[]⟩::Value.string ⟨#[]⟩::Value.string ⟨#[]⟩::Value.string ⟨#[]⟩::Value.string ⟨#[]⟩::Value.string ⟨#[]⟩::Value.string ⟨#[]⟩::Value.string ⟨#[]⟩::Value.string ⟨#[]⟩::Value.string ⟨#[]⟩::Value.string ⟨#[]⟩::Value.string ⟨#[]⟩::Value.string ⟨#[]⟩::Value.string ⟨#[]⟩::Value.string ⟨#[]⟩::Value.string ⟨#[]⟩::Value.slice none 0 0::Value.slice none 0 0::Value.slice none 0 0::Value.slice none 0 0::[])) 63))):=KeepX.of (KeepB.of_below (aA _))
 have HRW:Hid (RdR w0 w st):=h
 have HFR:Hid (FRow w a r):=hr
 have hlI:(r.length:Int)<=7:=by omega
 generalize (gFs r bdz st).1=bE at *
 generalize (gFs r bdz st).2=sE at *
 clear h hr hf hnd HS HB ht
 go_enter Tryz.func19,Tryz.ntmps19
 go_wp2_with fail
 go_loopw [9] (fun i wr=>∃k:Nat,k<=r.length/\i=.int .i64 k/\RdR w0 wr (S k)/\(∃p,BdX wr w.heap.size (B k) p)/\KeepX w0.heap.size w.heap.size w wr) (fun i _=>r.length - (intOf i).toNat)
 case atStart=>exact⟨0,by omega,rfl,by rw[<-HS0.out.1];exact HR0.out,⟨ptz,by rw[<-HS0.out.2];exact HX0.out⟩,HK0.out⟩
 case round=>
  obtain⟨k,hk,rfl,hw1,⟨p,hx1⟩,hk1⟩:=hrel
  by_cases hlt:k < r.length
  ·have hltI:(k:Int) < (r.length:Int):=by omega
   obtain⟨b,off,rfl,z0⟩:=(FRow.keepX HFR.out HRW.out hk1) k hlt
   have HC:Hid _:=HT.out k wr p hlt hw1 hx1
   have HK1:Hid (KeepX w0.heap.size w.heap.size w wr):=hk1
   clear hw1 hx1 HT hk1
   generalize r.getD k 0=f at *
   go_wp2_with (first
    | (go_at_call 39;refine Calls.mono HC.out ?_;rintro e w2 ⟨rfl,hx2,hw2,hk2⟩;clear HC))
   exact⟨⟨k+1,by omega,by go_num,hw2,hx2,HK1.out.trans hk2⟩,by simp[intOf];omega⟩
  ·obtain rfl:k=r.length:=by omega
   have HX1:Hid (BdX wr w.heap.size (B r.length) p):=hx1
   have HZ:Hid ((bdc (B r.length) p).size=44):=cR _ _
   have HONE:Hid ((bdc (B r.length) p).all (·.oneCell')=true):=fF
   have HBX:Hid (wr.heap[w.heap.size]? = some (.cells (bdc (B r.length) p) 63 (0,0))):=hx1.box
   obtain⟨CS,HCS⟩:∃CS,Hid (bdc (B r.length) p=CS):=⟨_,rfl⟩
   rw[HCS.out] at HZ HONE HBX
   have HW1:Hid (RdR w0 wr (S r.length)):=hw1
   have HK1:Hid (KeepX w0.heap.size w.heap.size w wr):=hk1
   clear hx1 hw1 hk1
   go_wp2_with (first
    | (refine wpList_load_row rfl 63 _ rfl w.heap.size rfl 63 CS (0,0) _ HBX.out Tryz.underlying63 rfl (by rw[HZ.out];exact Tryz.info63) ?_)
    | (refine wpList_store_row rfl 63 _ _ rfl w.heap.size CS rfl rfl 63 CS HBX.out (by rw[HZ.out];exact Tryz.info63) rfl HONE.out ?_))
   refine bodyPost_ret (results_cell_row rfl _ _ w.heap.size 63 CS (0,0) _ rfl (setRow_heap _ _ _ _ _ _ HBX.out) Tryz.underlying63 rfl (by rw[HZ.out];exact Tryz.info63)) rfl ?_
   rw[setRow_self _ _ _ _ _ HBX.out]
   rw[<-HSN.out.1,<-HSN.out.2]
   exact⟨p,w.heap.size,Nat.le_refl _,by rw[HCS.out],HX1.out,HW1.out,HK1.out.size,fun x n1 n2=>HK1.out.blk x n1 (by omega) n2⟩
end Go.Proofs.YtaooidckmepdeaaGreatDoor
