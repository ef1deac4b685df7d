/- Ka Nw Kb Wi Cs Hd Bx Be Kc Ro Fh Oa Bw Kd Km Sp Dc -/
import Derived.Test.YtaooidckmepdeaaGreatDoorSkb
import Derived.Lib.AppendStr
import Derived.WalkKit
import Derived.Laws.BitsAllLaws
import Derived.Laws.Rows
import Derived.Laws.Tables
import Derived.Laws.ResultCell
import Derived.Laws.AppendOwnNone
import Derived.WalkSpells
import Derived.Deep.Slices
import Derived.ChangeSlices
import Derived.Deep.MidRow
namespace Go.Proofs.YtaooidckmepdeaaGreatDoor
set_option linter.unusedSimpArgs false
set_option linter.unusedVariables false
set_option maxRecDepth 100000
set_option maxHeartbeats 6400000
open Go.RowKit
def NotB (o:Obj):Prop:=∀cs fr,o≠.cells cs 5 fr
theorem aHp {cs:Array Value} {t:TypeId} {fr:Nat × Nat} (h:t≠5):NotB (.cells cs t fr):=by
 intro cs' fr' e
 injection e with _ e2 _
 exact h e2
structure KeepT (B:Nat) (w w':World):Prop where
 size:w.heap.size<=w'.heap.size
 blk:∀x o,x≠B->w.heap[x]? = some o->NotB o->w'.heap[x]? = some o
theorem KeepT.refl (B:Nat) (w:World):KeepT B w w:=⟨Nat.le_refl _,fun _ _ _ h _=>h⟩
theorem KeepT.trans {B:Nat} {w w1 w2:World} (h:KeepT B w w1) (k:KeepT B w1 w2):KeepT B w w2:=
 ⟨Nat.le_trans h.size k.size,fun x o hx ho hn=>k.blk x o hx (h.blk x o hx ho hn) hn⟩
theorem KeepT.of_below {B:Nat} {w w':World} (h:Below w.heap.size w w'):KeepT B w w':=
 ⟨h.size,fun x o _ ho _=>(h.block x (Array.getElem?_eq_some_iff.1 ho).1).trans ho⟩
theorem KeepT.grown {B M:Nat} {w w':World} {v:Value} {n:Nat} {xs:List Value} (own:w.ownsRow M 5 1 v n xs) (g:w.grownBy w' v.ownBlock):KeepT B w w':=by
 refine⟨g.size,fun x o _ ho hn=>(g.block x (Array.getElem?_eq_some_iff.1 ho).1 (fun e=>?_)).trans ho⟩
 rcases own.2 with⟨rfl,_⟩ | ⟨b,cap,cur,rfl,_,hb,_⟩
 ·cases e
 ·simp only[Value.ownBlock,Option.some.injEq] at e
  subst e
  rw[hb] at ho
  injection ho with ho
  exact hn _ _ ho.symm
theorem KeepT.setCell (B off:Nat) (w:World) (v:Value):KeepT B w (w.setCell ⟨B,off,none⟩ v):=
 ⟨by simp[World.setCell],fun x o hx ho _=>(heap_setCell_other w ⟨B,off,none⟩ x v hx).trans ho⟩
theorem KeepT.drewN {B:Nat} {w w':World} (h:KeepT B w w') (n:Nat):KeepT B w (w'.drewN n):=⟨h.size,h.blk⟩
structure WrS (w0 w:World) (st:Ls) (N:Nat):Prop where
 ex:∃v l,w.heap[w0.heap.size]? = some (.cells #[v,.bool st.isNone] 90 (0,0))/\w.ownsRow w0.heap.size 5 1 v l.length (cv l)/\Byt l/\l.length<=N/\∀L,st=some L->l=L
 bel:Below w0.heap.size w0 w
theorem bY {M:Nat} {w w':World} {e:TypeId} {s:Nat} {v:Value} {n:Nat} {xs:List Value} (h:w.ownsRow M e s v n xs) (hb:Below w.heap.size w w'):w'.ownsRow M e s v n xs:=by
 refine World.ownsRow.kept (row:=none) h ⟨hb.os,hb.tape,hb.output,hb.size,fun k hk _=>hb.block k hk⟩ ?_
 cases v.ownBlock with
 | none=>exact .inl rfl
 | some g=>exact .inr (by simp)
theorem WrS.below {w0 w w':World} {st:Ls} {N:Nat} (h:WrS w0 w st N) (hb:Below w.heap.size w w'):WrS w0 w' st N:=by
 obtain⟨v,l,hx,ho,r⟩:=h.ex
 exact⟨⟨v,l,(hb.block _ (Array.getElem?_eq_some_iff.1 hx).1).trans hx,bY ho hb,r⟩,h.bel.trans (hb.mono h.bel.size)⟩
theorem WrS.mono {w0 w:World} {st:Ls} {N M:Nat} (h:WrS w0 w st N) (hm:N<=M):WrS w0 w st M:=by
 obtain⟨v,l,hx,ho,hb,hl,hs⟩:=h.ex
 exact⟨⟨v,l,hx,ho,hb,Nat.le_trans hl hm,hs⟩,h.bel⟩
theorem aB {w:World} {B:Nat} {cs:Array Value} {t:TypeId} (h:w.heap[B]? = some (.cells cs t (0,0))) (i:Nat):w.cell? ⟨B,i,none⟩=cs[i]?/\w.frozen? ⟨B,i,none⟩=false:=
 ⟨cell_of_row _ B i cs t (0,0) h,by simp[World.frozen?,h]⟩
theorem cE {w:World} {M:Nat} {v:Value} {l:List Nat} (h:w.ownsRow M 5 1 v l.length (cv l)):∃a c,v=.slice a l.length c:=by
 rcases h.2 with⟨rfl,h0⟩ | ⟨g,cap,cur,rfl,_⟩
 ·exact⟨none,0,by rw[h0]⟩
 ·exact⟨_,_,rfl⟩
theorem dL {w:World} {M B:Nat} {v:Value} {n:Nat} {xs:List Value} {cs:Array Value} {t:TypeId} (h:w.ownsRow M 5 1 v n xs) (hx:w.heap[B]? = some (.cells cs t (0,0))) (ht:t≠5):∀k,v.ownBlock=some k->k≠B:=by
 rcases h.2 with⟨rfl,_⟩ | ⟨g,cap,cur,rfl,_,hg,_⟩
 ·intro k e;cases e
 ·rintro k e rfl
  simp[Value.ownBlock] at e
  subst e
  rw[hg] at hx
  simp at hx
  exact ht hx.2.symm
theorem eX {w:World} {M B off:Nat} {v u:Value} {n:Nat} {xs:List Value} (h:w.ownsRow M 5 1 v n xs) (hk:∀k,v.ownBlock=some k->k≠B):(w.setCell ⟨B,off,none⟩ u).ownsRow M 5 1 v n xs:=by
 refine⟨h.1,?_⟩
 rcases h.2 with hn | ⟨g,cap,cur,rfl,hb,hg,rest⟩
 ·exact .inl hn
 ·exact .inr ⟨g,cap,cur,rfl,hb,(heap_setCell_other w ⟨B,off,none⟩ g u (hk g rfl)).trans hg,rest⟩
theorem WrS.setBad {w0 w:World} {st:Ls} {N:Nat} (h:WrS w0 w st N) (st':Ls) (bad:Bool) (hb:bad=st'.isNone) (hst:∀L,st'=some L->st=some L):WrS w0 (w.setCell ⟨w0.heap.size,1,none⟩ (.bool bad)) st' N/\KeepT w0.heap.size w (w.setCell ⟨w0.heap.size,1,none⟩ (.bool bad)):=by
 obtain⟨v,l,hx,ho,hbt,hl,hs⟩:=h.ex
 subst hb
 refine⟨⟨⟨v,l,?_,eX ho (dL ho hx (by decide)),hbt,hl,fun L e=>hs L (hst L e)⟩,h.bel.setCell (p:=⟨w0.heap.size,1,none⟩) (Nat.le_refl _) _⟩,KeepT.setCell _ _ _ _⟩
 rw[aH hx]
 rfl
theorem WrS.app {w0 w w1:World} {st:Ls} {N M:Nat} {v v':Value} {l m:List Nat} (hx:w.heap[w0.heap.size]? = some (.cells #[v,.bool st.isNone] 90 (0,0))) (ho:w.ownsRow w0.heap.size 5 1 v l.length (cv l)) (hbt:Byt l) (hl:l.length<=N) (hs:∀L,st=some L->l=L)
 (bel:Below w0.heap.size w0 w) (ho':w1.ownsRow w0.heap.size 5 1 v' (l++m).length (cv (l++m))) (g:w.grownBy w1 v.ownBlock) (hm:Byt m) (hM:N+m.length<=M):WrS w0 (w1.setCell ⟨w0.heap.size,0,none⟩ v') (oa st (some m)) M/\KeepT w0.heap.size w (w1.setCell ⟨w0.heap.size,0,none⟩ v'):=by
 have hx1:w1.heap[w0.heap.size]? = some (.cells #[v,.bool st.isNone] 90 (0,0)):=(g.block _ (Array.getElem?_eq_some_iff.1 hx).1 (fun e=>dL ho hx (by decide) _ e.symm rfl)).trans hx
 have b1:Below w0.heap.size w0 w1:=bel.grown g bel.size (fun k hk=>(ho.lt k hk).1)
 refine⟨⟨⟨v',l++m,?_,eX ho' (dL ho' hx1 (by decide)),hbt.app hm,by rw[List.length_append];omega,?_⟩,b1.setCell (p:=⟨w0.heap.size,0,none⟩) (Nat.le_refl _) _⟩,(KeepT.grown ho g).trans (KeepT.setCell _ _ _ _)⟩
 ·rw[aH hx1]
  cases st<;>rfl
 ·intro L e
  obtain⟨x,y,e1,e2,rfl⟩:=cB e
  rw[hs x e1]
  injection e2 with e2
  rw[e2]
theorem dF {w:World} {ops:Array Oper} {rest:List Oper} {o:Oper} {a:Act} {Q:Exit->Act->World->Prop} (hw:Region.wanted o (yielded ops a.tmps)=true) (s x:Operand)
 (ho:o.op=.call {callee:=.builtin .append,args:=#[s,x],argTypes:=#[22,22]}) (B:Nat)
 (v:Value) (l:List Nat) (hs:a.eval s=v) (hown:w.ownsRow B 5 1 v l.length (cv l)) (hBs:B<=w.heap.size)
 (a':Option Addr) (n cap:Nat) (m:List Nat) (hx:a.eval x=.slice a' n cap) (hn:n=m.length) (hr:Row w a' m) (hc:a'=none->cap=0) (h63:l.length+m.length<=1000000000000)
 (h:∀v' w',w'.ownsRow B 5 1 v' (l++m).length (cv (l++m))->w.grownBy w' v.ownBlock->wpList Tryz.prog ops Q rest (a.put o.dst v') w'):wpList Tryz.prog ops Q (o::rest) a w:=by
 obtain⟨i0,hi,hz0,hz1,hz2⟩:=info_parts Tryz.info5
 subst hn
 refine BigFrame.wpList_want hw fun K hK=>?_
 cases a' with
 | none=>
  obtain rfl:=nF hr
  obtain rfl:=hc rfl
  have hrun:=run_append_owned_none (P:=Tryz.prog) (w:=w) B 22 o.type 5 i0 1 Tryz.underlying22 hi v l.length (cv l) hown
  have h0:wpList Tryz.prog ops Q rest (a.put o.dst v) w:=h v w (by simpa using hown) (World.grownBy.refl _ _)
  unfold Oper.wp
  simp[execOp,ho,resolve,invoke,builtin,hs,hx,hrun,Result.andThen]
  exact hK _ _ h0
 | some ad=>
  refine wp_append_own w s x 22 ho B 5 i0 (.int .u8 0) 1 1 Tryz.underlying22 hi hz0 hz1 hz2 rfl (by decide) v l.length (cv l) hs hown ad m.length cap (cv m) hx (by rw[aQ];omega) (iB hr) (eF _) (by unfold maxLen;omega) (by omega) hBs ?_
  intro v' w' h2 h3 _
  exact hK _ _ (h v' w' (by rw[List.length_append,dR];exact h2) h3)
theorem sb_cv (t:ByteArray):Lib.strCells t=cv (sb t):=by
 unfold Lib.strCells cv sb
 simp
theorem kB {w:World} {ops:Array Oper} {rest:List Oper} {o:Oper} {a:Act} {Q:Exit->Act->World->Prop} (hw:Region.wanted o (yielded ops a.tmps)=true) (s x:Operand)
 (ho:o.op=.call {callee:=.builtin .append,args:=#[s,x],argTypes:=#[22,9]}) (B:Nat)
 (v:Value) (l:List Nat) (hs:a.eval s=v) (hown:w.ownsRow B 5 1 v l.length (cv l)) (hBs:B<=w.heap.size)
 (t:ByteArray) (hx:a.eval x=.string t) (h63:l.length+t.size<=1000000000000)
 (h:∀v' w',w'.ownsRow B 5 1 v' (l++sb t).length (cv (l++sb t))->w.grownBy w' v.ownBlock->wpList Tryz.prog ops Q rest (a.put o.dst v') w'):wpList Tryz.prog ops Q (o::rest) a w:=by
 obtain⟨i0,hi,hz0,hz1,hz2⟩:=info_parts Tryz.info5
 refine BigFrame.wpList_want hw fun K hK=>?_
 obtain⟨v',w',hr,h2,h3,h4⟩:=Lib.run_append_own_string (P:=Tryz.prog) w B 22 9 o.type 5 i0 Tryz.underlying22 Tryz.underlying9 hi hz0 hz1 hz2 v l.length (cv l) hown t (by unfold maxLen;omega) (by omega) hBs
 rw[sb_cv] at h2
 unfold Oper.wp execOp
 simp only[ho,resolve,invoke,builtin,Sem.run_bind,Sem.run_pure,Result.andThen_ok,List.map_toArray,List.map_cons,List.map_nil,hs,hx,hr]
 exact hK _ _ (h v' w' (by rw[List.length_append,dR,dO];exact h2) h3)
def WP (w0 w:World) (st:Ls) (N:Nat) (e:Ending) (w':World):Prop:=e=.returned (.tuple #[])/\WrS w0 w' st N/\KeepT w0.heap.size w w'
theorem aCk {n V:Nat} {l:List Nat} (h:l.length=n):putL l 0 n true V=lay n V:=by
 have:=pF [] l [] n V h
 simpa using this
theorem uF (n V:Nat):Byt (lay n V):=pC n V
theorem uX (m:Nat):madeCells (Value.int .u8 0).cells (m * 1)=(cv (List.replicate m 0)).toArray:=by
 unfold madeCells
 apply Array.ext
 ·simp[cv]
 ·intro i h1 h2
  simp[Value.cells,cv,Nat.mod_one]
theorem yU (n:Nat) (Z:Int) (hZ:Z=n) (h:n<=1000000) (w:World):(Instr.makeSlice 22 (.int .i64 Z) (.int .i64 Z)).run Tryz.prog w=.ok (.slice (some ⟨w.heap.size,0,none⟩) n n) (w.alloc (.cells (cv (List.replicate n 0)).toArray 5)):=by
 subst hZ
 obtain⟨i0,hi,hz0,hz1,hz2⟩:=info_parts Tryz.info5
 have hr:=run_make (P:=Tryz.prog) w 22 5 i0 (.int .u8 0) Tryz.underlying22 hi hz0 .i64 .i64 (n:Int) (n:Int) (by omega) (by omega) (by rw[hz2];omega) (by omega)
 rw[hz1,Int.toNat_natCast,uX] at hr
 exact hr
theorem aAs (n V:Nat) (Z:Int) (hZ:Z=n) (h1:1<=n) (h8:n<=8) (hV:V<=18446744073709551615) (w:World) :
 Calls Tryz.prog 68 #[.slice (some ⟨w.heap.size,0,none⟩) n n,.int .i64 0,.int .i64 Z,.bool true,.int .u64 V] (w.alloc (.cells (cv (List.replicate n 0)).toArray 5)) fun e w'=>
  (∃g,e=.returned (.tuple #[.slice (some ⟨g,0,none⟩) n n,.bool true])/\Row w' (some ⟨g,0,none⟩) (lay n V))/\Below w.heap.size w w':=by
 subst hZ
 have hl:(List.replicate n 0).length=n:=List.length_replicate
 have h:=uQ (some ⟨w.heap.size,0,none⟩) n (List.replicate n 0) 0 n true V (w.alloc (.cells (cv (List.replicate n 0)).toArray 5)) (kP w _ (cG (fun x hx=>by have:=List.eq_of_mem_replicate hx;omega))) (by rw[hl];omega) h1 h8 (by rw[hl];omega) hV
 rw[hl,aCk hl] at h
 refine h.mono ?_
 rintro e w' ⟨⟨g,rfl,ho⟩,hb⟩
 exact⟨⟨g,rfl,ho.row (uF n V).getD⟩,(aA _).trans (hb.mono (by simp))⟩
theorem qK (w0 w:World) (st:Ls) (N n V:Nat) (Z:Int) (hZ:Z=n) (h:WrS w0 w st N) (hn:n=1∨n=2∨n=4∨n=8) (hV:V<=18446744073709551615) (hN:N<=900000000000) :
 Calls Tryz.prog 45 #[.pointer (some ⟨w0.heap.size,0,none⟩),.int .i64 Z,.int .u64 V] w (WP w0 w (oa st (some (lay n V))) (N+8)):=by
 have HP:Hid _:=aAs n V Z hZ (by omega) (by omega) hV w
 have HL:Hid ((lay n V).length=n):=aP n V
 have HB:Hid (Byt (lay n V)):=uF n V
 have HW:Hid (WrS w0 w st N):=h
 clear h
 generalize lay n V=m at *
 have km:=yU n Z hZ (by omega)
 have hn8:n<=8:=by omega
 clear hn hZ
 go_enter Tryz.func45,Tryz.ntmps45
 go_wp2_with (first
  | (go_at_call 68;refine Calls.mono HP.out ?_;rintro e w1 ⟨⟨g,rfl,hr⟩,hb⟩;have hW1:=HW.out.below hb;obtain⟨⟨v,l,hx,ho,hbt,hl,hs⟩,bel⟩:=hW1;have HO:Hid (w1.ownsRow w0.heap.size 5 1 v l.length (cv l)):=ho;have HR:Hid (Row w1 (some ⟨g,0,none⟩) m):=hr;have HX:Hid (w1.heap[w0.heap.size]? = some (.cells #[v,.bool st.isNone] 90 (0,0))):=hx;have HS:Hid (∀L,st=some L->l=L):=hs;have HBL:Hid (Below w0.heap.size w0 w1):=bel;have HBW:Hid (Below w.heap.size w w1):=hb;obtain⟨a,c,rfl⟩:=cE ho;have c0:=(aB hx 0).1;have c1:=(aB hx 1).1;have f0:=(aB hx 0).2;simp only[List.getElem?_toArray,List.getElem?_cons_zero,List.getElem?_cons_succ] at c0 c1;clear hr ho hx hs bel hb)
  | (at_builtin;refine dF (by rfl) _ _ rfl w0.heap.size _ l rfl HO.out (HBL.out.size) (some ⟨g,0,none⟩) _ _ m rfl HL.out.symm HR.out (fun q=>by cases q) (by rw[HL.out];omega) ?_;intro v' w2 ho2 hg2;obtain⟨a2,c2,rfl⟩:=cE ho2;have hfin:=WrS.app HX.out HO.out hbt hl HS.out HBL.out ho2 hg2 HB.out (Nat.le_trans (Nat.add_le_add_left (by rw[HL.out];omega) _) (Nat.le_refl (N+8)));have HF:Hid _:=hfin;have f2:w2.frozen? ⟨w0.heap.size,0,none⟩=false:=(by have q:=(hg2.block w0.heap.size (Array.getElem?_eq_some_iff.1 HX.out).1 (fun e=>dL HO.out HX.out (by decide) _ e.symm rfl)).trans HX.out;exact(aB q 0).2);have d2:∃u,w2.cell? ⟨w0.heap.size,0,none⟩=some u:=(by have q:=(hg2.block w0.heap.size (Array.getElem?_eq_some_iff.1 HX.out).1 (fun e=>dL HO.out HX.out (by decide) _ e.symm rfl)).trans HX.out;exact⟨_,(aB q 0).1⟩);obtain⟨u2,d2⟩:=d2;clear ho2 hg2 hfin))
 go_end0
 have q:=HF.out
 rw[List.length_append] at q
 exact⟨rfl,q.1,(KeepT.of_below HBW.out).trans q.2⟩
theorem oI (n:Nat):(0:Int) < 2 ^ n:=Int.pow_pos (by decide)
theorem p64 (n:Nat) (h:n<=64):(2:Int) ^ (64 - n) * 2 ^ n=18446744073709551616:=by
 rw[<-Int.pow_add,show 64 - n+n=64 by omega];rfl
theorem yR (n:Nat) (h:1<=n):(2:Int) ^ n=2 * 2 ^ (n - 1):=by
 obtain⟨m,rfl⟩:∃m,n=m+1:=⟨n - 1,by omega⟩
 simp[Int.pow_succ];omega
theorem aIl (m n:Nat) (h:m<=n):(2:Int) ^ m<=2 ^ n:=by
 have:=Nat.pow_le_pow_right (n:=2) (by decide) h
 exact_mod_cast this
theorem xH (u:Int) (n:Nat) (h:n<=64):u * 2 ^ (64 - n) % 18446744073709551616=u % 2 ^ n * 2 ^ (64 - n):=by
 rw[<-p64 n h,Int.mul_comm u,Int.mul_emod_mul_of_pos _ _ (oI _),Int.mul_comm]
def widen (u:Int) (n:Nat) (s:Bool):Int:=
 if s then (if u % 2 ^ n < 2 ^ (n - 1) then u % 2 ^ n else u % 2 ^ n - 2 ^ n) else wrap64 (u % 2 ^ n)
theorem tH (u:Int) (n:Nat):0<=u % 2 ^ n/\u % 2 ^ n < 2 ^ n:=⟨Int.emod_nonneg _ (by have:=oI n;omega),Int.emod_lt_of_pos _ (oI n)⟩
theorem wQ (u:Int) (n:Nat) (h1:1<=n) (h:n<=64):wrap64 (IntKind.u64.wrap (u * 2 ^ (64 - n))) / 2 ^ (64 - n)=widen u n true:=by
 rw[IntKind.wrap_u64,xH u n h]
 have hS:=oI (64 - n)
 have hp:=p64 n h
 have hs:=yR n h1
 obtain⟨b0,b1⟩:=tH u n
 unfold widen
 simp only[if_true]
 generalize u % 2 ^ n=r at *
 rw[hs] at hp b1 ⊢
 generalize (2:Int) ^ (64 - n)=S at *
 generalize (2:Int) ^ (n - 1)=H at *
 have hHS:H * S=9223372036854775808:=by
  have:S * (2 * H)=2 * (H * S):=by rw[Int.mul_left_comm,Int.mul_comm S H]
  omega
 by_cases hr:r < H
 ·rw[if_pos hr]
  have h2:r * S < H * S:=Int.mul_lt_mul_of_pos_right hr hS
  have h3:0<=r * S:=Int.mul_nonneg b0 (by omega)
  rw[w64 _ (by omega) (by omega)]
  exact Int.mul_ediv_cancel r (by omega)
 ·rw[if_neg hr]
  have h2:H * S<=r * S:=Int.mul_le_mul_of_nonneg_right (by omega) (by omega)
  have h3:r * S < 2 * H * S:=Int.mul_lt_mul_of_pos_right b1 hS
  have h4:2 * H * S=18446744073709551616:=by rw[Int.mul_assoc];omega
  have h5:wrap64 (r * S)=(r - 2 * H) * S:=by rw[Int.sub_mul];unfold wrap64;omega
  rw[h5]
  exact Int.mul_ediv_cancel _ (by omega)
theorem hG (u:Int) (n:Nat) (h:n<=64):IntKind.u64.wrap (u * 2 ^ (64 - n)) / 2 ^ (64 - n)=u % 2 ^ n:=by
 rw[IntKind.wrap_u64,xH u n h]
 exact Int.mul_ediv_cancel _ (by have:=oI (64 - n);omega)
theorem wK (u:Int) (n:Nat) (h:n<=64):wrap64 (IntKind.u64.wrap (u * 2 ^ (64 - n)) / 2 ^ (64 - n))=widen u n false:=by
 rw[hG u n h];simp[widen]
def fitsIn (v:Int) (n:Nat) (s:Bool):Bool:=if s then decide (-2 ^ (n - 1)<=v/\v < 2 ^ (n - 1)) else decide (0<=v/\v < 2 ^ n)
theorem aA3 (n:Nat) (h:n<=64):(2:Int) ^ n<=18446744073709551616:=by have:=aIl n 64 h;simpa using this
theorem pL (v:Int) (n:Nat) (s:Bool) (h1:1<=n) (h:n<=64) (v0:-9223372036854775808<=v) (v1:v<=9223372036854775807) (hs:s=false->0<=v) :
 (widen (v % 2 ^ n) n s=v)↔fitsIn v n s=true:=by
 have hsu:=yR n h1
 have hp:=oI (n - 1)
 have h64:=aA3 n h
 obtain⟨b0,b1⟩:=tH v n
 unfold widen fitsIn
 rw[Int.emod_emod_of_dvd _ (Int.dvd_refl _)]
 have hq:=Int.emod_add_mul_ediv v (2 ^ n)
 cases s
 ·simp only[Bool.false_eq_true,if_false,decide_eq_true_eq]
  have:=hs rfl
  constructor
  ·intro e
   refine⟨this,?_⟩
   by_cases h2:v % 2 ^ n<=9223372036854775807
   ·rw[w64 _ (by omega) h2] at e;omega
   ·exfalso
    unfold wrap64 at e
    omega
  ·intro e
   rw[Int.emod_eq_of_lt e.1 e.2]
   exact w64 _ (by omega) (by omega)
 ·simp only[if_true,decide_eq_true_eq]
  rw[hsu] at hq b0 b1 ⊢
  generalize v % (2 * 2 ^ (n - 1))=r at *
  generalize v / (2 * 2 ^ (n - 1))=q at *
  generalize (2:Int) ^ (n - 1)=H at *
  constructor
  ·intro e;split at e<;>omega
  ·rintro⟨e0,e1⟩
   have hq1:q=0∨q = -1:=by
    have c1:q < 1:=by
     apply Int.lt_of_not_ge;intro hc
     have:2 * H * 1<=2 * H * q:=Int.mul_le_mul_of_nonneg_left hc (by omega)
     omega
    have c2:-2 < q:=by
     apply Int.lt_of_not_ge;intro hc
     have:2 * H * q<=2 * H * (-2):=Int.mul_le_mul_of_nonneg_left hc (by omega)
     omega
    omega
   rcases hq1 with rfl | rfl
   ·rw[if_pos (by omega)];omega
   ·rw[if_neg (by omega)];omega
theorem oM {k:IntKind} {a b:Int} {c d:Bool} (h:a=b) (h2:c=d):Ending.returned (.tuple #[.int k a,.bool c])=.returned (.tuple #[.int k b,.bool d]):=by rw[h,h2]
theorem eO (v:Int) (w:World) (h1:1<=v) (h2:v<=64):Calls Tryz.prog 66 #[.int .i64 v] w fun e w'=>e=.returned (.bool true)/\w'=w:=by
 go_enter Tryz.func66,Tryz.ntmps66
 go_wp2
 go_ret
 simp[h1,h2]
theorem rB (v:Int) (w:World) (h:v < 1∨64 < v):Calls Tryz.prog 66 #[.int .i64 v] w fun e w'=>e=.returned (.bool false)/\w'=w:=by
 rcases h with h | h
 ·go_enter Tryz.func66,Tryz.ntmps66
  go_wp2
  go_ret
  simp[show ¬1<=v by omega]
 ·have h1:1<=v:=by omega
  go_enter Tryz.func66,Tryz.ntmps66
  go_wp2
  go_ret
  simp[h1]
  omega
def widenI (u n:Int) (s:Bool):Int:=if n < 1∨64 < n then 0 else widen u n.toNat s
theorem iR (u n:Int) (s:Bool) (w:World) (h0:0<=u) (h1:u<=18446744073709551615) :
 Calls Tryz.prog 67 #[.int .u64 u,.int .i64 n,.bool s] w fun e w'=>e=.returned (.int .i64 (widenI u n s))/\w'=w:=by
 by_cases hn:n < 1∨64 < n
 ·go_enter Tryz.func67,Tryz.ntmps67
  go_wp2_with (go_at_call 66;refine(rB _ _ hn).mono ?_;rintro e w' ⟨rfl,rfl⟩)
  go_ret
  exact⟨cN (by simp[widenI,hn]),rfl⟩
 ·obtain⟨m,rfl⟩:=Int.eq_ofNat_of_zero_le (show 0<=n by omega)
  have hm0:1<=(m:Int):=by omega
  have hm1:(m:Int)<=64:=by omega
  have e2:widenI u m s=widen u m s:=by simp[widenI];omega
  have HE:Hid (widenI u m s=widen u m s):=e2
  clear e2 hn
  cases s
  ·go_enter Tryz.func67,Tryz.ntmps67
   go_wp2_with (go_at_call 66;refine(eO _ _ hm0 hm1).mono ?_;rintro e w' ⟨rfl,rfl⟩)
   go_ret
   refine⟨cN ?_,rfl⟩
   rw[HE.out,<-wK u m (by omega)]
  ·go_enter Tryz.func67,Tryz.ntmps67
   go_wp2_with (go_at_call 66;refine(eO _ _ hm0 hm1).mono ?_;rintro e w' ⟨rfl,rfl⟩)
   go_ret
   refine⟨cN ?_,rfl⟩
   rw[HE.out,<-wQ u m (by omega) (by omega)]
def narrowB (v n:Int) (s:Bool):Bool:=decide (1<=n/\n<=64) && fitsIn v n.toNat s
def narrowV (v n:Int) (s:Bool):Int:=if narrowB v n s then v % 2 ^ n.toNat else 0
theorem kM (v n:Int) (s:Bool) (hn:n < 1∨64 < n):narrowB v n s=false:=by
 simp[narrowB];intro a b;omega
theorem tD (v n:Int) (s:Bool) (w:World) (h0:-9223372036854775808<=v) (h1:v<=9223372036854775807) :
 Calls Tryz.prog 44 #[.int .i64 v,.int .i64 n,.bool s] w fun e w'=>e=.returned (.tuple #[.int .u64 (narrowV v n s),.bool (narrowB v n s)])/\w'=w:=by
 by_cases hn:n < 1∨64 < n
 ·go_enter Tryz.func44,Tryz.ntmps44
  go_wp2_with (go_at_call 66;refine(rB _ _ hn).mono ?_;rintro e w' ⟨rfl,rfl⟩)
  go_ret2
  exact⟨oM (by simp[narrowV,kM v n s hn]) (by rw[kM v n s hn]),rfl⟩
 ·obtain⟨m,rfl⟩:=Int.eq_ofNat_of_zero_le (show 0<=n by omega)
  have hm0:1<=(m:Int):=by omega
  have hm1:(m:Int)<=64:=by omega
  have HB:Hid (narrowB v m s=fitsIn v m s):=by
   show _=_
   simp[narrowB];intros;omega
  have HV:Hid (IntKind.u64.wrap (IntKind.u64.wrap v * 2 ^ (64 - m)) / 2 ^ (64 - m)=v % 2 ^ m):=by
   show _=_
   rw[hG _ m (by omega),IntKind.wrap_u64]
   exact Int.emod_emod_of_dvd _ ⟨_,by rw[Int.mul_comm];exact(p64 m (by omega)).symm⟩
  have HM:=tH v m
  have H64:=aA3 m (by omega)
  clear hn
  by_cases hv:v < 0/\s=false
  ·obtain⟨hv0,rfl⟩:=hv
   go_enter Tryz.func44,Tryz.ntmps44
   go_wp2_with (go_at_call 66;refine(eO _ _ hm0 hm1).mono ?_;rintro e w' ⟨rfl,rfl⟩)
   go_ret2
   have e:narrowB v m false=false:=by rw[HB.out];simp[fitsIn];omega
   exact⟨oM (by simp[narrowV,e]) e.symm,rfl⟩
  ·have HW:Hid ((widen (v % 2 ^ m) m s=v)↔fitsIn v m s=true):=pL v m s (by omega) (by omega) h0 h1 (by intro e;by_cases h:v < 0<;>simp_all)
   have HI:Hid (widenI (v % 2 ^ m) m s=widen (v % 2 ^ m) m s):=by show _=_;simp[widenI];omega
   by_cases hf:fitsIn v m s=true
   ·have e:narrowB v m s=true:=by rw[HB.out];exact hf
    have hwd:widenI (v % 2 ^ m) m s=v:=by rw[HI.out];exact HW.out.2 hf
    have HE:Hid (narrowB v m s=true):=e
    clear hf e
    by_cases hv0:v < 0
    ·have hs:s=true:=by cases s<;>simp_all
     subst hs
     go_enter Tryz.func44,Tryz.ntmps44
     go_wp2_with (first | (go_at_call 66;refine(eO _ _ hm0 hm1).mono ?_;rintro e w' ⟨rfl,rfl⟩) | (go_at_call 67;rw[HV.out];refine(iR _ _ _ _ (by omega) (by omega)).mono ?_;rintro e w' ⟨rfl,rfl⟩;rw[hwd]))
     go_ret2
     exact⟨oM (by simp[narrowV,HE.out]) HE.out.symm,rfl⟩
    ·clear hv
     have HV2:Hid (IntKind.u64.wrap (v * 2 ^ (64 - m)) / 2 ^ (64 - m)=v % 2 ^ m):=hG v m (by omega)
     go_enter Tryz.func44,Tryz.ntmps44
     go_wp2_with (first | (go_at_call 66;refine(eO _ _ hm0 hm1).mono ?_;rintro e w' ⟨rfl,rfl⟩) | (go_at_call 67;rw[HV2.out];refine(iR _ _ _ _ (by omega) (by omega)).mono ?_;rintro e w' ⟨rfl,rfl⟩;rw[hwd]))
     go_ret2
     exact⟨oM (by simp[narrowV,HE.out]) HE.out.symm,rfl⟩
   ·have e:narrowB v m s=false:=by rw[HB.out];simpa using hf
    have hwd:(widenI (v % 2 ^ m) m s != v)=true:=by rw[HI.out,bne_iff_ne];exact fun c=>hf (HW.out.1 c)
    have HE:Hid (narrowB v m s=false):=e
    clear hf e
    by_cases hv0:v < 0
    ·have hs:s=true:=by cases s<;>simp_all
     subst hs
     go_enter Tryz.func44,Tryz.ntmps44
     go_wp2_with (first | (go_at_call 66;refine(eO _ _ hm0 hm1).mono ?_;rintro e w' ⟨rfl,rfl⟩) | (go_at_call 67;rw[HV.out];refine(iR _ _ _ _ (by omega) (by omega)).mono ?_;rintro e w' ⟨rfl,rfl⟩))
     go_ret2
     exact⟨oM (by simp[narrowV,HE.out]) HE.out.symm,rfl⟩
    ·clear hv
     have HV2:Hid (IntKind.u64.wrap (v * 2 ^ (64 - m)) / 2 ^ (64 - m)=v % 2 ^ m):=hG v m (by omega)
     go_enter Tryz.func44,Tryz.ntmps44
     go_wp2_with (first | (go_at_call 66;refine(eO _ _ hm0 hm1).mono ?_;rintro e w' ⟨rfl,rfl⟩) | (go_at_call 67;rw[HV2.out];refine(iR _ _ _ _ (by omega) (by omega)).mono ?_;rintro e w' ⟨rfl,rfl⟩))
     go_ret2
     exact⟨oM (by simp[narrowV,HE.out]) HE.out.symm,rfl⟩
def narOk (n:Nat) (v:Int):Bool:=decide (0<=v/\v < ((256 ^ n:Nat):Int))
def narV (n:Nat) (v:Int):Nat:=if narOk n v=true then v.toNat else 0
theorem aBy (n:Nat) (v:Int) (hn:n=1∨n=2∨n=4):narV n v<=18446744073709551615:=by
 unfold narV narOk
 split
 ·rename_i h
  simp only[decide_eq_true_eq] at h
  rcases hn with rfl | rfl | rfl<;>omega
 ·omega
theorem xI (n:Nat) (v:Int):eNat n v=if narOk n v=true then some (lay n (narV n v)) else none:=by
 unfold eNat narV narOk
 by_cases h:0<=v/\v < ((256 ^ n:Nat):Int)
 ·rw[if_pos h,decide_eq_true h];rfl
 ·rw[if_neg h,decide_eq_false h];rfl
theorem yX (n:Nat) (v:Int) (hn:n=1∨n=2∨n=4) (Z:Int) (hZ:Z=8 * (n:Int)):narrowB v Z false=narOk n v/\narrowV v Z false=((narV n v:Nat):Int):=by
 have h1:narrowB v Z false=narOk n v:=by
  rcases hn with rfl | rfl | rfl<;>subst hZ<;>simp[narrowB,narOk,fitsIn]
 refine⟨h1,?_⟩
 unfold narrowV narV
 rw[h1]
 split
 ·rename_i h
  simp only[narOk,decide_eq_true_eq] at h
  rcases hn with rfl | rfl | rfl<;>subst hZ<;>simp<;>omega
 ·rfl
theorem xZ (n:Nat) (v:Int) (hn:n=1∨n=2∨n=4) (Z:Int) (hZ:Z=8 * (n:Int)) (hv:In64 v) (w:World) :
 Calls Tryz.prog 44 #[.int .i64 v,.int .i64 Z,.bool false] w fun e w'=>e=.returned (.tuple #[.int .u64 ((narV n v:Nat):Int),.bool (narOk n v)])/\w'=w:=by
 have:=tD v Z false w hv.1 hv.2
 rw[(yX n v hn Z hZ).1,(yX n v hn Z hZ).2] at this
 exact this
theorem WrS.open {w0 w:World} {st:Ls} {N:Nat} (h:WrS w0 w st N):∃a n c,w.cell? ⟨w0.heap.size,0,none⟩=some (.slice a n c)/\w.cell? ⟨w0.heap.size,1,none⟩=some (.bool st.isNone)/\w.frozen? ⟨w0.heap.size,0,none⟩=false/\w.frozen? ⟨w0.heap.size,1,none⟩=false/\w0.heap.size < w.heap.size:=by
 obtain⟨v,l,hx,ho,_⟩:=h.ex
 obtain⟨a,c,rfl⟩:=cE ho
 exact⟨a,l.length,c,(aB hx 0).1,(aB hx 1).1,(aB hx 0).2,(aB hx 1).2,(Array.getElem?_eq_some_iff.1 hx).1⟩
theorem uM (w0 w:World) (st st1:Ls) (N n V:Nat) (Z K v:Int) (bad ok:Bool) (hb:bad=st.isNone) (h1:(bad || !ok)=st1.isNone) (hst:∀L,st1=some L->st=some L) (hK:IntKind.i64.wrap (8 * Z)=K) (h:WrS w0 w st N)
 (HN:Hid (∀x,Calls Tryz.prog 44 #[.int .i64 v,.int .i64 K,.bool false] x fun e w'=>e=.returned (.tuple #[.int .u64 (V:Int),.bool ok])/\w'=x))
 (HP:Hid (∀x,WrS w0 x st1 N->Calls Tryz.prog 45 #[.pointer (some ⟨w0.heap.size,0,none⟩),.int .i64 Z,.int .u64 (V:Int)] x (WP w0 x (oa st1 (some (lay n V))) (N+8)))) :
 Calls Tryz.prog 30 #[.pointer (some ⟨w0.heap.size,0,none⟩),.int .i64 Z,.int .i64 v] w (WP w0 w (oa st1 (some (lay n V))) (N+8)):=by
 obtain⟨a,m,c,c0,c1,f0,f1,hz⟩:=h.open
 rw[<-hb] at c1
 have HS:Hid _:=h.setBad st1 (bad || !ok) h1 hst
 clear h h1 hst hb
 generalize oa st1 (some (lay n V))=st2 at *
 cases bad<;>cases ok
 all_goals
  simp only[Bool.not_true,Bool.not_false,Bool.or_true,Bool.or_false,Bool.true_or,Bool.false_or] at HS
  go_enter Tryz.func30,Tryz.ntmps30
  go_wp2_with (first
   | (go_at_call 44;refine(HN.out _).mono ?_;rintro e w1 ⟨rfl,rfl⟩)
   | (go_at_call 45;refine(HP.out _ HS.out.1).mono ?_;rintro e w2 ⟨rfl,hw2,hk2⟩))
  go_end0
  exact⟨rfl,hw2,HS.out.2.trans hk2⟩
theorem eH (w0 w:World) (st:Ls) (N n:Nat) (Z v:Int) (hZ:Z=n) (hn:n=1∨n=2∨n=4) (hv:In64 v) (hN:N<=900000000000) (h:WrS w0 w st N) :
 Calls Tryz.prog 30 #[.pointer (some ⟨w0.heap.size,0,none⟩),.int .i64 Z,.int .i64 v] w (WP w0 w (oa st (eNat n v)) (N+8)):=by
 have hK:IntKind.i64.wrap (8 * Z)=8 * (n:Int):=by rw[IntKind.wrap_i64];omega
 have HN:Hid (∀x,Calls Tryz.prog 44 #[.int .i64 v,.int .i64 (8 * (n:Int)),.bool false] x fun e w'=>e=.returned (.tuple #[.int .u64 ((narV n v:Nat):Int),.bool (narOk n v)])/\w'=x):=fun x=>xZ n v hn _ rfl hv x
 have HP:Hid (∀st1 x,WrS w0 x st1 N->Calls Tryz.prog 45 #[.pointer (some ⟨w0.heap.size,0,none⟩),.int .i64 Z,.int .u64 ((narV n v:Nat):Int)] x (WP w0 x (oa st1 (some (lay n (narV n v)))) (N+8))):=fun st1 x hx=>qK w0 x st1 N n (narV n v) Z hZ hx (by omega) (aBy n v hn) hN
 rw[xI]
 cases hok:narOk n v with
 | true=>
  rw[hok] at HN
  simp only[if_true]
  exact uM w0 w st st N n _ Z _ v st.isNone true rfl (by simp) (fun _ e=>e) hK h HN (fun x hx=>HP.out st x hx)
 | false=>
  rw[hok] at HN
  simp only[Bool.false_eq_true,if_false,iZ]
  exact uM w0 w st none N n _ Z _ v st.isNone false rfl (by simp) (fun _ e=>by cases e) hK h HN (fun x hx=>HP.out none x hx)
theorem iT (w0 w:World) (st:Ls) (N:Nat) (s:ByteArray) (hs:s.size<=9223372036854775807) (hN:N<=800000000000) (h:WrS w0 w st N) :
 Calls Tryz.prog 72 #[.pointer (some ⟨w0.heap.size,0,none⟩),.string s] w (WP w0 w (oa st (eText s)) (N+65600)):=by
 have HP:Hid _:=eH w0 w st N 2 2 (s.size:Int) rfl (by omega) ⟨by omega,by omega⟩ (by omega) h
 by_cases hl:s.size<=65535
 ·have e1:eNat 2 (s.size:Int)=some (lay 2 s.size):=by unfold eNat;rw[if_pos ⟨by omega,by omega⟩,Int.toNat_natCast]
  have e2:oa st (eText s)=oa (oa st (some (lay 2 s.size))) (some (sb s)):=by unfold eText;rw[if_pos hl,eB];rfl
  rw[e1] at HP
  rw[e2]
  generalize oa st (some (lay 2 s.size))=st1 at *
  have HLS:Hid ((sb s).length=s.size):=dO s
  have hlI:(s.size:Int)<=65535:=by omega
  cases st1 with
  | none=>
   rw[fV]
   go_enter Tryz.func72,Tryz.ntmps72
   go_wp2_with (go_at_call 30;refine Calls.mono HP.out ?_;rintro e w1 ⟨rfl,hw1,hk1⟩;obtain⟨a,m,c,c0,c1,f0,f1,hz⟩:=hw1.open;simp only[Option.isNone_none] at c1)
   go_end0
   exact⟨rfl,hw1.mono (by omega),hk1⟩
  | some L1=>
   go_enter Tryz.func72,Tryz.ntmps72
   go_wp2_with (first
    | (go_at_call 30;refine Calls.mono HP.out ?_;rintro e w1 ⟨rfl,hw1,hk1⟩;obtain⟨⟨v,l,hx,ho,hbt,hl2,hs2⟩,bel⟩:=hw1;have HO:Hid (w1.ownsRow w0.heap.size 5 1 v l.length (cv l)):=ho;have HX:Hid (w1.heap[w0.heap.size]? = some (.cells #[v,.bool (some L1:Ls).isNone] 90 (0,0))):=hx;have HS:Hid (∀L,some L1=some L->l=L):=hs2;have HBL:Hid (Below w0.heap.size w0 w1):=bel;obtain⟨a,c,rfl⟩:=cE ho;have c0:=(aB hx 0).1;have c1:=(aB hx 1).1;have f0:=(aB hx 0).2;simp only[List.getElem?_toArray,List.getElem?_cons_zero,List.getElem?_cons_succ,Option.isNone_some] at c0 c1;clear ho hx hs2 bel)
    | (at_builtin;refine kB (by rfl) _ _ rfl w0.heap.size _ l rfl HO.out (HBL.out.size) s rfl (by omega) ?_;intro v' w2 ho2 hg2;obtain⟨a2,c2,rfl⟩:=cE ho2;have HF:Hid _:=WrS.app (M:=N+65600) HX.out HO.out hbt hl2 HS.out HBL.out ho2 hg2 (aF3 s) (by rw[HLS.out];omega);have hq2:Hid _:=(hg2.block w0.heap.size (Array.getElem?_eq_some_iff.1 HX.out).1 (fun e=>dL HO.out HX.out (by decide) _ e.symm rfl)).trans HX.out;have f2:=(aB hq2.out 0).2;have d2:=(aB hq2.out 0).1;simp only[List.getElem?_toArray,List.getElem?_cons_zero] at d2;clear ho2 hg2))
   go_end0
   have q:=HF.out
   rw[List.length_append] at q
   exact⟨rfl,q.1,hk1.trans q.2⟩
 ·have e1:eNat 2 (s.size:Int)=none:=by unfold eNat;rw[if_neg (by omega)]
  have e2:eText s=none:=by unfold eText;rw[if_neg hl]
  rw[e1,iZ] at HP
  rw[e2,iZ]
  have hsI:(s.size:Int)<=9223372036854775807:=by omega
  go_enter Tryz.func72,Tryz.ntmps72
  go_wp2_with (go_at_call 30;refine Calls.mono HP.out ?_;rintro e w1 ⟨rfl,hw1,hk1⟩;obtain⟨a,m,c,c0,c1,f0,f1,hz⟩:=hw1.open;simp only[Option.isNone_none] at c1)
  go_end0
  exact⟨rfl,hw1.mono (by omega),hk1⟩
def av (h:List Nat):Value:=.agg (cv h).toArray
theorem cA (h:List Nat) (at' size:Nat) (w:World) (hl:h.length=48) (hb:∀i,h.getD i 0 < 256) (h1:1<=size) (h2:size<=8) (h3:at'+size<=48) :
 Calls Tryz.prog 96 #[av h,.int .i64 at',.int .i64 size] w fun e w'=>e=.returned (.int .i64 (wrap64 (getV h at' size true)))/\Below w.heap.size w w':=by
 have HG:Hid (∀w',Row w' (some ⟨w.heap.size,0,none⟩) h->Calls Tryz.prog 52 #[.slice (some ⟨w.heap.size,0,none⟩) 48 48,.int .i64 at',.int .i64 size,.bool true] w' fun e w2=>e=.returned (.tuple #[.int .u64 (getV h at' size true:Nat),.bool true])/\w2=w'):=by
  intro w' hr
  have:=uP (some ⟨w.heap.size,0,none⟩) 48 h at' size true w' hr (by rw[hl];unfold maxLen;omega) h1 h2 (by omega)
  rw[hl] at this
  exact this
 have HR:Hid (Row (w.alloc (.cells (cv h).toArray 171)) (some ⟨w.heap.size,0,none⟩) h):=by
  intro i hi
  refine⟨w.heap.size,0,rfl,?_,hb i⟩
  rw[cell_of_row _ w.heap.size (0+i) (cv h).toArray 171 (0,0) (heap_alloc_new w _)]
  simpa using iC h i hi
 generalize getV h at' size true=V at *
 simp only[av]
 generalize (cv h).toArray=cs at *
 go_enter Tryz.func96,Tryz.ntmps96
 go_wp2_with (go_at_call 52;refine(HG.out _ HR.out).mono ?_;rintro e w1 ⟨rfl,hw⟩;subst w1)
 go_ret
 exact⟨rfl,aA _⟩
theorem Tryz.info171:(Tryz.prog.info? 171).map (·.size)=some 48:=by kernel_rfl
theorem bS {m:List Nat} (h:(cv m).length=48):(cv m).toArray.size=48:=by simpa using h
theorem cH (m:List Nat):(cv m).toArray.all (·.oneCell')=true:=by
 rw[Array.all_eq_true']
 intro x hx
 exact eF m x (by simpa using hx)
theorem gD {a b:Nat} (h:a < 4294967296) (h2:b < 4294967296):a ^^^ b < 4294967296:=Nat.xor_lt_two_pow (n:=32) h h2
theorem tS (a b:Nat) (h:a < 4294967296) (h2:b < 4294967296):bits .xor .u32 (a:Int) (b:Int)=((a ^^^ b:Nat):Int):=u32_xor_nat a b h h2
theorem drop_cons (l:List Nat) (k:Nat) (h:k < l.length):l.drop k=l.getD k 0::l.drop (k+1):=by
 rw[List.drop_eq_getElem_cons h];simp[List.getD,h]
theorem rV (c:Nat) (l:List Nat) (k:Nat) (h:k < l.length):P.reg c (l.drop k)=P.reg (P.stp c (l.getD k 0)) (l.drop (k+1)):=by
 rw[drop_cons l k h];rfl
theorem kN (c:Nat) (h:c < 4294967296):bits .xor .u32 IntKind.u32.max (c:Int)=((P.ones ^^^ c:Nat):Int):=tS 4294967295 c (by decide) h
theorem Row.bd {w:World} {a:Option Addr} {l:List Nat} (h:Row w a l):∀x,x ∈ l->x < 256:=by
 intro x hx
 obtain⟨i,hi,rfl⟩:=List.getElem_of_mem hx
 obtain⟨_,_,_,_,hl⟩:=h i hi
 simpa [List.getD,hi] using hl
theorem aH0 (c:Nat) (l:List Nat) (hc:c < 4294967296) (hl:∀x,x ∈ l->x < 256):P.more c l < 4294967296:=
 gD (by decide) (P.reg_lt l _ (gD (by decide) hc) hl)
def Tab (w:World):Prop:=∀i,i < 16->w.cell? ⟨0,i,none⟩=some (.int .u32 ((P.shN 4 i:Nat):Int))
theorem Tab.below {w w':World} (h:Tab w) (hb:Below w.heap.size w w'):Tab w':=by
 intro i hi
 rw[hb.cell (World.block_lt_of_cell? _ _ (h i hi))];exact h i hi
theorem Tab.drewN {w:World} (h:Tab w) (n:Nat):Tab (w.drewN n):=h
theorem nib (c:Nat):c / 16 ^^^ P.shN 4 (c % 16)=P.shN 4 c:=by
 have h1:c=2 ^ 4 * (c / 16) ^^^ c % 16:=by
  have hy:c % 16 < 2 ^ 4:=Nat.mod_lt _ (by decide)
  have:=Nat.two_pow_add_eq_or_of_lt hy (c / 16)
  have h0:2 ^ 4 * (c / 16)+c % 16=c:=Nat.div_add_mod c 16
  rw[this] at h0
  apply Nat.eq_of_testBit_eq
  intro i
  have e:=congrArg (·.testBit i) h0
  simp only[Nat.testBit_or] at e
  rw[<-e,Nat.testBit_xor,Nat.testBit_two_pow_mul]
  by_cases hi:4<=i
  ·have:(c % 16).testBit i=false:=Nat.testBit_lt_two_pow (Nat.lt_of_lt_of_le hy (Nat.pow_le_pow_right (n:=2) (by decide) hi))
   simp[this]
  ·simp[hi]
 conv=>rhs;rw[h1,P.shN_xor,P.shN_pow]
theorem aEz (c:Nat) (h:c < 4294967296):bits .and .u32 (c:Int) 15=((c % 16:Nat):Int):=by
 have:=u32_and_nat c 15 h (by decide)
 rw[nat_mask4] at this
 exact this
theorem aHd (c:Nat) (h:c < 4294967296):bits .xor .u32 ((c:Int) / 16) ((P.shN 4 (c % 16):Nat):Int)=((P.shN 4 c:Nat):Int):=by
 have:=tS (c / 16) (P.shN 4 (c % 16)) (by omega) (P.shN_lt _ _ (by omega))
 rw[nib] at this
 exact this
theorem qB (c:Nat) (a:Option Addr) (cap:Nat) (l:List Nat) (w:World) (ht:Tab w) (hc:c < 4294967296) (hr:Row w a l) (hl:l.length<=maxLen) :
 Calls Tryz.prog 103 #[.int .u32 c,.slice a l.length cap] w fun e w'=>e=.returned (.int .u32 ((P.more c l:Nat):Int))/\w'=w:=by
 unfold maxLen at hl
 obtain⟨out,HO⟩:∃out,Hid (P.reg (P.ones ^^^ c) l=out):=⟨_,rfl⟩
 have HM:Hid (P.more c l=P.ones ^^^ out):=by show _=_;rw[P.more,HO.out]
 rw[HM.out]
 have ho:=kN c hc
 have hol:P.ones ^^^ c < 4294967296:=gD (by decide) hc
 generalize P.ones ^^^ c=d at *
 clear HM
 go_enter Tryz.func103,Tryz.ntmps103
 go_wp2
 go_loop [0,11] (fun v i=>∃(k C:Nat),k<=l.length/\v=.int .u32 C/\i=.int .i64 k/\C < 4294967296/\P.reg C (l.drop k)=out) (fun _ i=>l.length - (intOf i).toNat)
 case atStart=>exact⟨0,d,by omega,rfl,rfl,hol,by simpa using HO.out⟩
 case round=>
  obtain⟨k,C,hk,rfl,rfl,hC,hs⟩:=hrel
  by_cases hlt:k < l.length
  ·obtain⟨b,off,rfl,hcell,hx⟩:=hr k hlt
   rw[rV C l k hlt] at hs
   have hS:=P.stp_lt C _ hC hx
   have HS:Hid (P.reg (P.stp C (l.getD k 0)) (l.drop (k+1))=out):=hs
   have hltI:(k:Int) < (l.length:Int):=by omega
   clear hs hr
   generalize l.getD k 0=x at *
   have hX:=tS C x hC (by omega)
   have hXl:=gD hC (show x < 4294967296 by omega)
   have HE:Hid (P.stp C x=P.shN 4 (P.shN 4 (C ^^^ x))):=by show _=_;rw[<-P.shN_add];rfl
   generalize C ^^^ x=y at *
   have hY:=aHd y hXl
   have hYl:=P.shN_lt 4 y hXl
   have hY2:=aEz y hXl
   have hYc:=ht (y % 16) (by omega)
   have hYm:y % 16 < 16:=by omega
   rw[HE.out] at HS hS
   generalize P.shN 4 (y % 16)=t1 at *
   generalize P.shN 4 y=z at *
   generalize y % 16=y16 at *
   have hZ:=aHd z hYl
   have hZ2:=aEz z hYl
   have hZc:=ht (z % 16) (by omega)
   have hZm:z % 16 < 16:=by omega
   generalize P.shN 4 (z % 16)=t2 at *
   generalize P.shN 4 z=D at *
   generalize z % 16=z16 at *
   clear ht HE
   go_wp2
   exact⟨⟨k+1,D,by omega,by go_num,by go_num,hS,HS.out⟩,by simp[intOf];omega⟩
  ·obtain rfl:k=l.length:=by omega
   have HN:Hid (C=out):=by show _=_;rw[<-hs,List.drop_length];rfl
   have h2:=kN C hC
   clear hs hr
   go_wp2
   go_ret
   exact⟨cN (by rw[HN.out]),rfl⟩
theorem sum_any (a:Option Addr) (cap:Nat) (l:List Nat) (w:World) (ht:Tab w) (hr:Row w a l) (hl:l.length<=maxLen) :
 Calls Tryz.prog 97 #[.slice a l.length cap] w fun e w'=>e=.returned (.int .u32 ((P.sum l:Nat):Int))/\w'=w:=by
 go_enter Tryz.func97,Tryz.ntmps97
 go_wp2_with (go_at_call 103;refine(qB 0 _ _ _ _ ht (by decide) hr hl).mono ?_;rintro e w' ⟨rfl,rfl⟩)
 go_ret
 exact⟨rfl,rfl⟩
def hd (b l s p q n c f:Nat):List Nat:=lay 8 b++(lay 4 l++(lay 4 s++(lay 8 p++(lay 8 q++(lay 4 n++(lay 4 c++lay 8 f))))))
theorem fQ {w w':World} {base e size n:Nat} {v:Value} {xs:List Value} (h:w.ownsRow base e size v n xs) (hb:Below w.heap.size w w'):w'.ownsRow base e size v n xs:=by
 refine⟨h.1,?_⟩
 rcases h.2 with q | ⟨g,cap,cur,e1,hB,hg,r⟩
 ·exact .inl q
 ·exact .inr ⟨g,cap,cur,e1,hB,(hb.block g (Array.getElem?_eq_some_iff.1 hg).1).trans hg,r⟩
theorem oJ (rs:List Rc) (first:Int) (k:Nat) (h:k < rs.length):bodyL (rs.take (k+1)) first=bodyL (rs.take k) first++encL (rs.getD k rz) first:=by
 rw[List.take_succ_eq_append_getElem h,mT,eP,mA,List.append_nil]
 simp[List.getD,h]
def Enc (f:Nat) (r:Rc) (first:Int):Prop:=∀w,Calls Tryz.prog f #[.agg r.cells,.int .i64 first] w fun e w'=>∃a c,e=.returned (.tuple #[.slice a (encL r first).length c,.int .i64 0])/\Row w' a (encL r first)/\(a=none->c=0)/\Below w.heap.size w w'
def bcells (b:Ba) (a:Option Addr) (cap:Nat):Array Value:=#[.int .i64 b.base,.int .i64 b.span,.int .i64 b.prod,.int .i64 b.seq,.slice a b.rs.length cap]
structure BxS (w:World) (cs:Array Value) (x:World):Prop where
 box:x.heap[w.heap.size]? = some (.cells cs 88 (0,0))
 bel:Below w.heap.size w x
theorem BxS.new (w:World) (cs:Array Value):BxS w cs (w.alloc (.cells cs 88)):=⟨heap_alloc_new w _,aA _⟩
theorem BxS.below {w x y:World} {cs:Array Value} (h:BxS w cs x) (hb:Below x.heap.size x y):BxS w cs y:=
 ⟨(hb.block _ (Array.getElem?_eq_some_iff.1 h.box).1).trans h.box,h.bel.trans (hb.mono h.bel.size)⟩
theorem BxS.cells {w x:World} {b:Ba} {a:Option Addr} {cap:Nat} (h:BxS w (bcells b a cap) x) :
 x.cell? ⟨w.heap.size,0,none⟩=some (.int .i64 b.base)/\x.cell? ⟨w.heap.size,1,none⟩=some (.int .i64 b.span)/\x.cell? ⟨w.heap.size,2,none⟩=some (.int .i64 b.prod)/\x.cell? ⟨w.heap.size,3,none⟩=some (.int .i64 b.seq)/\x.cell? ⟨w.heap.size,4,none⟩=some (.slice a b.rs.length cap)/\w.heap.size < x.heap.size:=by
 have hc:∀j,x.cell? ⟨w.heap.size,j,none⟩=(bcells b a cap)[j]?:=fun j=>cell_of_row _ w.heap.size j _ 88 (0,0) h.box
 exact⟨by rw[hc];rfl,by rw[hc];rfl,by rw[hc];rfl,by rw[hc];rfl,by rw[hc];rfl,(Array.getElem?_eq_some_iff.1 h.box).1⟩
structure EncS (w:World) (cs:Array Value) (H:Nat) (h:List Nat) (ra:Option Addr) (L:List Nat) (x:World):Prop where
 bx:BxS w cs x
 arr:x.heap[H]? = some (.cells (cv h).toArray 171 (0,0))
 row:Row x ra L
 tab:Tab x
 lt:w.heap.size < H
 rlt:∀i,i < L.length->∃ad,ra=some ad/\ad.block < H
theorem EncS.below {w x y:World} {cs:Array Value} {H:Nat} {h L:List Nat} {ra:Option Addr} (s:EncS w cs H h ra L x) (hb:Below x.heap.size x y):EncS w cs H h ra L y:=
 ⟨s.bx.below hb,(hb.block _ (Array.getElem?_eq_some_iff.1 s.arr).1).trans s.arr,s.row.below hb,s.tab.below hb,s.lt,s.rlt⟩
theorem EncS.store {w x:World} {cs:Array Value} {H:Nat} {h L:List Nat} {ra:Option Addr} (s:EncS w cs H h ra L x) (h':List Nat):EncS w cs H h' ra L (x.setRow H (cv h').toArray):=by
 have ho:∀k,k≠H->(x.setRow H (cv h').toArray).heap[k]? = x.heap[k]?:=fun k hk=>setRow_other x H k _ hk
 have hlt:=s.lt
 have hcell:∀b o,b < H->(x.setRow H (cv h').toArray).cell? ⟨b,o,none⟩=x.cell? ⟨b,o,none⟩:=fun b o hb=>(below_setRow (Below.refl H x) (Nat.le_refl H) _).cell hb
 refine⟨⟨by rw[ho _ (by omega)];exact s.bx.box,below_setRow s.bx.bel (by omega) _⟩,setRow_heap _ _ _ _ _ _ s.arr,?_,?_,hlt,s.rlt⟩
 ·intro i hi
  obtain⟨b,off,e,hc,hl⟩:=s.row i hi
  obtain⟨ad,e2,hb⟩:=s.rlt i hi
  rw[e] at e2
  injection e2 with e2
  subst e2
  exact⟨b,off,e,by rw[hcell _ _ hb];exact hc,hl⟩
 ·intro i hi
  rw[hcell 0 i (by omega)]
  exact s.tab i hi
theorem EncS.new {w x:World} {cs:Array Value} {h L:List Nat} {ra:Option Addr} (hb:BxS w cs x) (hr:Row x ra L) (ht:Tab x):EncS w cs x.heap.size h ra L (x.alloc (.cells (cv h).toArray 171)):=by
 refine⟨hb.below (aA _),heap_alloc_new x _,hr.below (aA _),ht.below (aA _),(Array.getElem?_eq_some_iff.1 hb.box).1,?_⟩
 intro i hi
 obtain⟨b,off,rfl,hc,_⟩:=hr i hi
 exact⟨⟨b,off,none⟩,rfl,by have:=World.block_lt_of_cell? _ _ hc;exact this⟩
def BEnc (f:Nat) (b:Ba) (a:Option Addr) (cap:Nat):Prop:=∀w,Tab w->RRow w a b.rs->Calls Tryz.prog f #[bav b a cap] w fun e w'=>∃v,e=.returned (.tuple #[v,.int .i64 (chkB b)])/\w'.ownsRow w.heap.size 5 1 v (encBR b).length (cv (encBR b))/\Below w.heap.size w w'
theorem KeepT.box {B x:Nat} {w w':World} {cs:Array Value} {t:TypeId} (k:KeepT B w w') (h:w.heap[x]? = some (.cells cs t (0,0))) (hx:x≠B) (ht:t≠5):w'.heap[x]? = some (.cells cs t (0,0)):=k.blk x _ hx h (aHp ht)
theorem jY (s:ByteArray):s.toList.isEmpty=decide (s.size=0):=by
 have h:s.toList=s.data.toList:=ByteArray.toList_eq s
 rw[h]
 obtain⟨⟨l⟩⟩:=s
 cases l<;>simp[ByteArray.size]
theorem Tryz.info84z:(Tryz.prog.info? 84).map (fun i=>(i.zero,i.size))=some (some (.agg rz.cells),6):=by kernel_rfl
theorem Tryz.info84b:(Tryz.prog.info? 84).map (fun i=>i.bytes)=some 64:=by kernel_rfl
def rcv (rs:List Rc):List Value:=(rs.map fun r=>r.cells.toList).flatten
theorem iX (r:Rc):r.cells.toList.length=6:=rfl
theorem qU (r:Rc) (rs:List Rc):rcv (r::rs)=r.cells.toList++rcv rs:=rfl
theorem lU (a b:List Rc):rcv (a++b)=rcv a++rcv b:=by simp[rcv]
theorem pW (rs:List Rc):(rcv rs).length=rs.length * 6:=by
 induction rs with
 | nil=>rfl
 | cons r t ih=>rw[qU,List.length_append,iX,ih,List.length_cons];omega
theorem uH (rs:List Rc) (i j:Nat) (hi:i < rs.length) (hj:j < 6):(rcv rs)[i * 6+j]? = (rs.getD i rz).cells[j]?:=by
 induction rs generalizing i with
 | nil=>simp at hi
 | cons r t ih=>
  rw[qU]
  cases i with
  | zero=>
   rw[List.getElem?_append_left (by rw[iX];omega)]
   simp
  | succ i=>
   rw[List.getElem?_append_right (by rw[iX];omega),iX,show(i+1) * 6+j - 6=i * 6+j by omega,ih i (by simpa using hi)]
   rfl
theorem uN (rs:List Rc):∀u,u ∈ rcv rs->u.oneCell'=true:=by
 intro u hu
 simp only[rcv,List.mem_flatten,List.mem_map] at hu
 obtain⟨l,⟨r,_,rfl⟩,hu⟩:=hu
 simp only[Rc.cells,List.mem_cons,List.not_mem_nil,or_false] at hu
 rcases hu with rfl | rfl | rfl | rfl | rfl | rfl<;>rfl
theorem nR {w:World} {ad:Addr} {rs:List Rc} (h:RRow w (some ad) rs):∀j u,(rcv rs)[j]? = some u->w.cell? (ad.add j)=some u:=by
 intro j u hj
 have hjl:j < rs.length * 6:=by
  have:=(List.getElem?_eq_some_iff.1 hj).1
  rwa [pW] at this
 obtain⟨b,off,e,z0,z1,z2,z3,z4,z5⟩:=h (j / 6) (by omega)
 injection e with e
 subst e
 have hd:j=j / 6 * 6+j % 6:=by omega
 have hm:j % 6 < 6:=Nat.mod_lt _ (by decide)
 rw[hd,uH rs (j / 6) (j % 6) (by omega) hm] at hj
 rw[Addr.add_lit,hd,<-Nat.add_assoc]
 generalize j / 6=i at *
 generalize j % 6=k at *
 match k,hm with
 | 0,_=>rw[Nat.add_zero,z0];exact hj
 | 1,_=>rw[z1];exact hj
 | 2,_=>rw[z2];exact hj
 | 3,_=>rw[z3];exact hj
 | 4,_=>rw[z4];exact hj
 | 5,_=>rw[z5];exact hj
theorem wB {w:World} {rs:List Rc} (h:RRow w none rs):rs=[]:=by
 match rs,h with
 | [],_=>rfl
 | c::r,h=>
  obtain⟨_,_,e,_⟩:=h 0 (by simp)
  cases e
theorem fH {w:World} {B:Nat} {v:Value} {rs:List Rc} (h:w.ownsRow B 84 6 v rs.length (rcv rs)):∃a c,v=.slice a rs.length c/\RRow w a rs/\(a=none->c=0)/\rs.length<=c/\c<=maxLen:=by
 rcases h.2 with⟨rfl,h0⟩ | ⟨g,cap,cur,rfl,hB,hg,hle,hm,_,_⟩
 ·exact⟨none,0,by rw[h0],by rw[List.eq_nil_of_length_eq_zero h0];exact RRow.nil _ _,fun _=>rfl,by omega,by unfold maxLen;omega⟩
 ·refine⟨_,cap,rfl,?_,(fun c=>by cases c),hle,hm⟩
  intro i hi
  have hc:=fun j hj u hu=>h.cells (g:=g) rfl (i * 6+j) u ((uH rs i j hi hj).trans hu)
  refine⟨g,0,rfl,?_,?_,?_,?_,?_,?_⟩
  ·have:=hc 0 (by decide) (.bool (rs.getD i rz).hk) rfl
   simpa only[Addr.add_lit,Nat.zero_add,Nat.add_zero] using this
  ·have:=hc 1 (by decide) (.string (rs.getD i rz).k) rfl
   simpa only[Addr.add_lit,Nat.zero_add,Nat.add_zero] using this
  ·have:=hc 2 (by decide) (.bool (rs.getD i rz).hv) rfl
   simpa only[Addr.add_lit,Nat.zero_add,Nat.add_zero] using this
  ·have:=hc 3 (by decide) (.string (rs.getD i rz).v) rfl
   simpa only[Addr.add_lit,Nat.zero_add,Nat.add_zero] using this
  ·have:=hc 4 (by decide) (.int .i64 (rs.getD i rz).t) rfl
   simpa only[Addr.add_lit,Nat.zero_add,Nat.add_zero] using this
  ·have:=hc 5 (by decide) (.int .i64 (rs.getD i rz).o) rfl
   simpa only[Addr.add_lit,Nat.zero_add,Nat.add_zero] using this
theorem jE {w:World} {ops:Array Oper} {rest:List Oper} {o:Oper} {a:Act} {Q:Exit->Act->World->Prop} (hw:Region.wanted o (yielded ops a.tmps)=true) (s x:Operand)
 (ho:o.op=.call {callee:=.builtin .append,args:=#[s,x],argTypes:=#[26,26]}) (B:Nat) (w0:World)
 (v:Value) (n:Nat) (xs:List Value) (hs:a.eval s=v) (hown:w.ownsRow B 84 6 v n xs) (hB:Below B w0 w) (hBs:B<=w.heap.size)
 (a':Option Addr) (cap:Nat) (rs:List Rc) (hx:a.eval x=.slice a' rs.length cap) (hr:RRow w a' rs) (hn:a'=none->cap=0) (h63:n+rs.length<=100000)
 (h:∀v' w',w'.ownsRow B 84 6 v' (n+rs.length) (xs++rcv rs)->Below B w0 w'->wpList Tryz.prog ops Q rest (a.put o.dst v') w'):wpList Tryz.prog ops Q (o::rest) a w:=by
 have hi0:=Tryz.info84z
 have hb0:=Tryz.info84b
 obtain⟨i0,hi⟩:∃i0,Tryz.prog.info? 84=some i0:=by
  cases e:Tryz.prog.info? 84 with
  | none=>rw[e] at hi0;cases hi0
  | some i=>exact⟨i,rfl⟩
 rw[hi] at hi0 hb0
 simp only[Option.map_some,Option.some.injEq,Prod.mk.injEq] at hi0 hb0
 cases a' with
 | none=>
  obtain rfl:=wB hr
  obtain rfl:=hn rfl
  refine BigFrame.wpList_want hw fun K hK=>?_
  have hrun:=run_append_owned_none (P:=Tryz.prog) (w:=w) B 26 o.type 84 i0 6 Tryz.underlying26 hi v n xs hown
  have h0:wpList Tryz.prog ops Q rest (a.put o.dst v) w:=h v w (by simpa [rcv] using hown) hB
  unfold Oper.wp
  simp[execOp,ho,resolve,invoke,builtin,hs,hx,hrun,Result.andThen]
  exact hK _ _ h0
 | some ad=>
  refine BigFrame.wpList_want hw fun K hK=>?_
  refine wp_append_own w s x 26 ho B 84 i0 (.agg rz.cells) 6 64 Tryz.underlying26 hi hi0.1 hi0.2 hb0 rfl (by decide) v n xs hs hown ad rs.length cap (rcv rs) hx (pW rs) (nR hr) (uN _) (by unfold maxLen;omega) (by omega) hBs ?_
  intro v' w' h2 h3 _
  exact hK _ _ (h v' w' h2 (hB.grown h3 hBs (fun k hk=>(hown.lt k hk).1)))
theorem mG {w:World} {o:Oper} {a:Act} {K:Act->World->Prop} {Q:Exit->Act->World->Prop} (s x:Operand)
 (ho:o.op=.call {callee:=.builtin .append,args:=#[s,x],argTypes:=#[26,26]}) (B:Nat) (w0:World)
 (v:Value) (n:Nat) (xs:List Value) (hs:a.eval s=v) (hown:w.ownsRow B 84 6 v n xs) (hB:Below B w0 w) (hBs:B<=w.heap.size)
 (ad:Addr) (cap:Nat) (rs:List Rc) (hx:a.eval x=.slice (some ad) rs.length cap) (hr:RRow w (some ad) rs) (h63:n+rs.length<=100000)
 (h:∀v' w',w'.ownsRow B 84 6 v' (n+rs.length) (xs++rcv rs)->Below B w0 w'->w.grownBy w' v.ownBlock->K (a.put o.dst v') w'):o.wp Tryz.prog a w K Q:=by
 have hi0:=Tryz.info84z
 have hb0:=Tryz.info84b
 obtain⟨i0,hi⟩:∃i0,Tryz.prog.info? 84=some i0:=by
  cases e:Tryz.prog.info? 84 with
  | none=>rw[e] at hi0;cases hi0
  | some i=>exact⟨i,rfl⟩
 rw[hi] at hi0 hb0
 simp only[Option.map_some,Option.some.injEq,Prod.mk.injEq] at hi0 hb0
 refine wp_append_own w s x 26 ho B 84 i0 (.agg rz.cells) 6 64 Tryz.underlying26 hi hi0.1 hi0.2 hb0 rfl (by decide) v n xs hs hown ad rs.length cap (rcv rs) hx (pW rs) (nR hr) (uN _) (by unfold maxLen;omega) (by omega) hBs ?_
 intro v' w' h2 h3 _
 exact h v' w' h2 (hB.grown h3 hBs (fun k hk=>(hown.lt k hk).1)) h3
def bz:Ba:=⟨0,0,0,0,[]⟩
theorem Tryz.info88:(Tryz.prog.info? 88).map (·.size)=some 5:=by kernel_rfl
theorem aO (c0 c1 c2 c3:Int) (a:Option Addr) (n c:Nat):(#[.int .i64 c0,.int .i64 c1,.int .i64 c2,.int .i64 c3,.slice a n c]:Array Value).all (·.oneCell')=true:=by simp[Value.oneCell']
theorem aJ {w:World} {R b o:Nat} {cs:Array Value} (h:b≠R):(w.setRow R cs).cell? ⟨b,o,none⟩=w.cell? ⟨b,o,none⟩:=by
 unfold World.cell?
 rw[setRow_other w R b cs h]
theorem RRow.keep {w:World} {g R:Nat} {rs:List Rc} {cs:Array Value} (h:RRow w (some ⟨g,0,none⟩) rs) (hg:g≠R):RRow (w.setRow R cs) (some ⟨g,0,none⟩) rs:=by
 intro i hi
 obtain⟨b,off,e,h0,h1,h2,h3,h4,h5⟩:=h i hi
 have hbM:b≠R:=by
  simp only[Option.some.injEq,Addr.mk.injEq,and_true] at e
  omega
 exact⟨b,off,e,(aJ hbM).trans h0,(aJ hbM).trans h1,(aJ hbM).trans h2,(aJ hbM).trans h3,(aJ hbM).trans h4,(aJ hbM).trans h5⟩
section
open Go.RowKit Go.ChangeShapes Go.WideShapes Go.ChangeAt
def BaOk (w:World) (b:Ba) (a:Option Addr) (cap:Nat):Prop:=RRow w a b.rs/\In64B b/\b.rs.length<=maxLen/\(a=none->cap=0)/\((Lit.int .i64 b.base).wf=true/\(Lit.int .i64 b.span).wf=true)
end
section
open Go.RowKit Go.ChangeShapes Go.WideShapes Go.ChangeAt
structure Bs where
 b:Ba
 a:Option Addr
 cap:Nat
def bsz:Bs:=⟨⟨0,0,0,0,[]⟩,none,0⟩
def BCells (w:World) (a:Option Addr) (ss:List Bs):Prop:=
 ∀i,i < ss.length->∃g off,a=some ⟨g,off,none⟩/\w.cell? ⟨g,off+i * 5,none⟩=some (.int .i64 (ss.getD i bsz).b.base)/\w.cell? ⟨g,off+i * 5+1,none⟩=some (.int .i64 (ss.getD i bsz).b.span)/\w.cell? ⟨g,off+i * 5+2,none⟩=some (.int .i64 (ss.getD i bsz).b.prod)/\w.cell? ⟨g,off+i * 5+3,none⟩=some (.int .i64 (ss.getD i bsz).b.seq)/\w.cell? ⟨g,off+i * 5+4,none⟩=some (.slice (ss.getD i bsz).a (ss.getD i bsz).b.rs.length (ss.getD i bsz).cap)
def AllB (w:World) (ss:List Bs):Prop:=∀i,i < ss.length->BaOk w (ss.getD i bsz).b (ss.getD i bsz).a (ss.getD i bsz).cap
def BRow (w:World) (a:Option Addr) (ss:List Bs):Prop:=BCells w a ss/\AllB w ss
theorem BCells.below {w w':World} {a:Option Addr} {ss:List Bs} (h:BCells w a ss) (hb:Below w.heap.size w w'):BCells w' a ss:=by
 intro i hi
 obtain⟨b,off,e,h0,h1,h2,h3,h4⟩:=h i hi
 exact⟨b,off,e,(hb.cell (World.block_lt_of_cell? _ _ h0)).trans h0,(hb.cell (World.block_lt_of_cell? _ _ h1)).trans h1,(hb.cell (World.block_lt_of_cell? _ _ h2)).trans h2,(hb.cell (World.block_lt_of_cell? _ _ h3)).trans h3,(hb.cell (World.block_lt_of_cell? _ _ h4)).trans h4⟩
theorem BaOk.below {w w':World} {b:Ba} {a:Option Addr} {cap:Nat} (h:BaOk w b a cap) (hb:Below w.heap.size w w'):BaOk w' b a cap:=⟨h.1.below hb,h.2⟩
theorem AllB.below {w w':World} {ss:List Bs} (h:AllB w ss) (hb:Below w.heap.size w w'):AllB w' ss:=fun i hi=>(h i hi).below hb
def Bs.cells (s:Bs):Array Value:=bcells s.b s.a s.cap
def bcv (ss:List Bs):List Value:=(ss.map fun s=>s.cells.toList).flatten
theorem jJ (s:Bs):s.cells.toList.length=5:=rfl
theorem yT (s:Bs) (ss:List Bs):bcv (s::ss)=s.cells.toList++bcv ss:=rfl
theorem aCl (a b:List Bs):bcv (a++b)=bcv a++bcv b:=by simp[bcv]
theorem aB6 (ss:List Bs) (i j:Nat) (hi:i < ss.length) (hj:j < 5):(bcv ss)[i * 5+j]? = (ss.getD i bsz).cells[j]?:=by
 induction ss generalizing i with
 | nil=>simp at hi
 | cons r t ih=>
  rw[yT]
  cases i with
  | zero=>
   rw[List.getElem?_append_left (by rw[jJ];omega)]
   simp
  | succ i=>
   rw[List.getElem?_append_right (by rw[jJ];omega),jJ,show(i+1) * 5+j - 5=i * 5+j by omega,ih i (by simpa using hi)]
   rfl
theorem uZ {w:World} {B:Nat} {v:Value} {ss:List Bs} (h:w.ownsRow B 88 5 v ss.length (bcv ss)):∃a c,v=.slice a ss.length c/\BCells w a ss:=by
 rcases h.2 with⟨rfl,h0⟩ | ⟨g,cap,cur,rfl,hB,hg,hle,hm,_,_⟩
 ·exact⟨none,0,by rw[h0],fun i hi=>by omega⟩
 ·refine⟨_,cap,rfl,?_⟩
  intro i hi
  have hc:=fun j hj u hu=>h.cells (g:=g) rfl (i * 5+j) u ((aB6 ss i j hi hj).trans hu)
  refine⟨g,0,rfl,?_,?_,?_,?_,?_⟩
  ·have:=hc 0 (by decide) (.int .i64 (ss.getD i bsz).b.base) rfl
   simpa only[Addr.add_lit,Nat.zero_add,Nat.add_zero] using this
  ·have:=hc 1 (by decide) (.int .i64 (ss.getD i bsz).b.span) rfl
   simpa only[Addr.add_lit,Nat.zero_add,Nat.add_zero] using this
  ·have:=hc 2 (by decide) (.int .i64 (ss.getD i bsz).b.prod) rfl
   simpa only[Addr.add_lit,Nat.zero_add,Nat.add_zero] using this
  ·have:=hc 3 (by decide) (.int .i64 (ss.getD i bsz).b.seq) rfl
   simpa only[Addr.add_lit,Nat.zero_add,Nat.add_zero] using this
  ·have:=hc 4 (by decide) (.slice (ss.getD i bsz).a (ss.getD i bsz).b.rs.length (ss.getD i bsz).cap) rfl
   simpa only[Addr.add_lit,Nat.zero_add,Nat.add_zero] using this
end
def SRow (w:World) (a:Option Addr) (ss:List ByteArray):Prop:=∀i,i < ss.length->∃b off,a=some ⟨b,off,none⟩/\w.cell? ⟨b,off+i,none⟩=some (.string (ss.getD i ⟨#[]⟩))
def IRow (w:World) (a:Option Addr) (ns:List Int):Prop:=∀i,i < ns.length->∃b off,a=some ⟨b,off,none⟩/\w.cell? ⟨b,off+i,none⟩=some (.int .i64 (ns.getD i 0))
theorem SRow.below {w w':World} {a:Option Addr} {ss:List ByteArray} (h:SRow w a ss) (hb:Below w.heap.size w w'):SRow w' a ss:=by
 intro i hi
 obtain⟨b,off,e,h0⟩:=h i hi
 exact⟨b,off,e,(hb.cell (World.block_lt_of_cell? _ _ h0)).trans h0⟩
theorem IRow.below {w w':World} {a:Option Addr} {ns:List Int} (h:IRow w a ns) (hb:Below w.heap.size w w'):IRow w' a ns:=by
 intro i hi
 obtain⟨b,off,e,h0⟩:=h i hi
 exact⟨b,off,e,(hb.cell (World.block_lt_of_cell? _ _ h0)).trans h0⟩
structure KeepB (B:Nat) (w w':World):Prop where
 size:w.heap.size<=w'.heap.size
 blk:∀x,x≠B->x < w.heap.size->w'.heap[x]? = w.heap[x]?
theorem KeepB.refl (B:Nat) (w:World):KeepB B w w:=⟨Nat.le_refl _,fun _ _ _=>rfl⟩
theorem KeepB.trans {B:Nat} {w w1 w2:World} (h:KeepB B w w1) (k:KeepB B w1 w2):KeepB B w w2:=
 ⟨Nat.le_trans h.size k.size,fun x hx hl=>(k.blk x hx (Nat.lt_of_lt_of_le hl h.size)).trans (h.blk x hx hl)⟩
theorem KeepB.of_below {B:Nat} {w w':World} (h:Below w.heap.size w w'):KeepB B w w':=⟨h.size,fun x _ hl=>h.block x hl⟩
theorem KeepB.setCell (B off:Nat) (w:World) (v:Value):KeepB B w (w.setCell ⟨B,off,none⟩ v):=
 ⟨by simp[World.setCell],fun x hx _=>heap_setCell_other w ⟨B,off,none⟩ x v hx⟩
theorem KeepB.box {B x:Nat} {w w':World} {o:Obj} (k:KeepB B w w') (h:w.heap[x]? = some o) (hx:x≠B):w'.heap[x]? = some o:=(k.blk x hx (Array.getElem?_eq_some_iff.1 h).1).trans h
def lft (st:Ls):List Nat:=st.getD []
structure RdR (w0 w:World) (st:Ls):Prop where
 box:∃a cap,w.heap[w0.heap.size]? = some (.cells #[.slice a (lft st).length cap,.bool st.isNone] 54 (0,0))/\Row w0 a (lft st)/\(lft st).length<=cap/\cap<=maxLen/\(a=none->cap=0)/\(lft st).length<=1000000000000
 bel:Below w0.heap.size w0 w
theorem RdR.below {w0 w w':World} {st:Ls} (h:RdR w0 w st) (hb:Below w.heap.size w w'):RdR w0 w' st:=by
 obtain⟨a,cap,hx,r⟩:=h.box
 exact⟨⟨a,cap,(hb.block _ (Array.getElem?_eq_some_iff.1 hx).1).trans hx,r⟩,h.bel.trans (hb.mono h.bel.size)⟩
theorem RdR.byt {w0 w:World} {st:Ls} (h:RdR w0 w st):Byt (lft st):=by
 obtain⟨a,cap,_,hr,_⟩:=h.box
 intro c hc
 obtain⟨i,hi,rfl⟩:=List.getElem_of_mem hc
 have:=hr.lt i
 simpa [List.getD,hi] using this
def RP (w0 w:World) (v:Value) (st:Ls) (e:Ending) (w':World):Prop:=e=.returned v/\RdR w0 w' st/\KeepB w0.heap.size w w'
theorem RdR.fail {w0 w:World} {st:Ls} (h:RdR w0 w st):RdR w0 ((w.setCell ⟨w0.heap.size,0,none⟩ (.slice none 0 0)).setCell ⟨w0.heap.size,1,none⟩ (.bool true)) none/\KeepB w0.heap.size w ((w.setCell ⟨w0.heap.size,0,none⟩ (.slice none 0 0)).setCell ⟨w0.heap.size,1,none⟩ (.bool true)):=by
 obtain⟨a,cap,hx,_⟩:=h.box
 refine⟨⟨⟨none,0,?_,Row.nil _ _,Nat.le_refl _,by decide,fun _=>rfl,by simp[lft]⟩,(h.bel.setCell (p:=⟨w0.heap.size,0,none⟩) (Nat.le_refl _) _).setCell (p:=⟨w0.heap.size,1,none⟩) (Nat.le_refl _) _⟩,(KeepB.setCell _ _ _ _).trans (KeepB.setCell _ _ _ _)⟩
 rw[aH (by rw[aH hx])]
 rfl
theorem iW (w0 w:World) (st:Ls) (h:RdR w0 w st):Calls Tryz.prog 53 #[.pointer (some ⟨w0.heap.size,0,none⟩)] w (RP w0 w (.tuple #[]) none):=by
 have HF:Hid _:=h.fail
 obtain⟨a,cap,hx,_⟩:=h.box
 have c0:=(aB hx 0).1
 have c1:=(aB hx 1).1
 have f0:=(aB hx 0).2
 have f1:=(aB hx 1).2
 simp only[List.getElem?_toArray,List.getElem?_cons_zero,List.getElem?_cons_succ] at c0 c1
 clear hx h
 go_enter Tryz.func53,Tryz.ntmps53
 go_wp2_with fail
 go_end0
 exact⟨rfl,HF.out.1,HF.out.2⟩
theorem aF5 (a:Option Addr) (cap len:Nat) (p size:Int) (big:Bool) (w:World) (hl:len<=maxLen) (hf:fitsB len p size=false) :
 Calls Tryz.prog 52 #[.slice a len cap,.int .i64 p,.int .i64 size,.bool big] w fun e w'=>e=.returned (.tuple #[.int .u64 0,.bool false])/\w'=w:=by
 go_enter Tryz.func52,Tryz.ntmps52
 go_wp2_with (go_at_call 82;refine(fits_any _ _ _ _ _ _ hl).mono ?_;rintro e w' ⟨rfl,rfl⟩;rw[hf])
 go_ret2
 exact⟨rfl,rfl⟩
theorem pE (w:World) (a:Option Addr) (len cap n:Nat) (Z:Int) (hZ:Z=n) (h:n<=len):(Instr.slice 22 (.slice a len cap) (some (.int .i64 Z)) none none).run Tryz.prog w=.ok (.slice (cutA a cap n) (len - n) (cap - n)) w:=by
 subst hZ
 exact eM w a len cap n .i64 h
theorem qH {a:Option Addr} {cap n:Nat} (h:a=none->cap=0) (hn:n<=cap):cutA a cap n=none->cap - n=0:=by
 intro e
 unfold cutA at e
 split at e
 ·omega
 ·cases a with
  | none=>have:=h rfl;omega
  | some x=>simp at e
theorem RdR.cut {w0 w:World} {l:List Nat} {a:Option Addr} {cap n:Nat} {b:Bool} {v:Value} (hb:Below w0.heap.size w0 w) (hx:w.heap[w0.heap.size]? = some (.cells #[v,.bool false] 54 (0,0))) (hr:Row w0 a l) (hl:l.length<=cap) (hc:cap<=maxLen) (hn:a=none->cap=0) (hn2:n<=l.length) (hbig:l.length<=1000000000000) :
 RdR w0 (w.setCell ⟨w0.heap.size,0,none⟩ (.slice (cutA a cap n) (l.length - n) (cap - n))) (some (l.drop n))/\KeepB w0.heap.size w (w.setCell ⟨w0.heap.size,0,none⟩ (.slice (cutA a cap n) (l.length - n) (cap - n))):=by
 refine⟨⟨⟨cutA a cap n,cap - n,?_,dG cap n hr hl,by simp[lft];omega,by omega,qH hn (by omega),by simp[lft];omega⟩,hb.setCell (p:=⟨w0.heap.size,0,none⟩) (Nat.le_refl _) _⟩,KeepB.setCell _ _ _ _⟩
 rw[aH hx]
 simp[lft]
theorem pY (w0 w:World) (st:Ls) (n:Nat) (Z:Int) (hZ:Z=n) (hn1:1<=n) (hn8:n<=8) (h:RdR w0 w st):Calls Tryz.prog 38 #[.pointer (some ⟨w0.heap.size,0,none⟩),.int .i64 Z] w (RP w0 w (.int .u64 ((gN n st).1:Nat)) (gN n st).2):=by
 have HFail:Hid (∀x,RdR w0 x st->Calls Tryz.prog 53 #[.pointer (some ⟨w0.heap.size,0,none⟩)] x (RP w0 x (.tuple #[]) none)):=fun x hx=>iW w0 x st hx
 obtain⟨a,cap,hx,hr,hl,hc,hn,hbig⟩:=h.box
 have HR:Hid (RdR w0 w st):=h
 by_cases hle:n<=(lft st).length
 ·obtain⟨l,rfl⟩:∃l,st=some l:=by
   cases st with
   | none=>simp[lft] at hle;omega
   | some l=>exact⟨l,rfl⟩
  have e1:gN n (some l)=(getV l 0 n true,some (l.drop n)):=by unfold gN;simp only;rw[if_pos (show n<=l.length from hle)]
  rw[e1]
  simp only[lft,Option.getD_some,Option.isNone_some] at *
  have HG:Hid (Calls Tryz.prog 52 #[.slice a l.length cap,.int .i64 0,.int .i64 Z,.bool true] w fun e w'=>e=.returned (.tuple #[.int .u64 ((getV l 0 n true:Nat):Int),.bool true])/\w'=w):=by
   subst hZ
   exact uP a cap l 0 n true w (hr.below h.bel) (by omega) hn1 hn8 (by omega)
  have ks:=fun y=>pE y a l.length cap n Z hZ hle
  have HC:Hid _:=RdR.cut (n:=n) (b:=false) h.bel hx hr hl hc hn hle hbig
  have c0:=(aB hx 0).1
  have c1:=(aB hx 1).1
  have f0:=(aB hx 0).2
  simp only[List.getElem?_toArray,List.getElem?_cons_zero,List.getElem?_cons_succ] at c0 c1
  clear hx hr h e1 HFail HR hZ
  generalize getV l 0 n true=V at *
  go_enter Tryz.func38,Tryz.ntmps38
  go_wp2_with (go_at_call 52;refine Calls.mono HG.out ?_;rintro e w1 ⟨rfl,rfl⟩)
  go_ret
  exact⟨rfl,HC.out.1,HC.out.2⟩
 ·have e1:gN n st=(0,none):=by
   cases st with
   | none=>rfl
   | some l=>unfold gN;simp only;rw[if_neg (by simpa [lft] using hle)]
  rw[e1]
  have HG:Hid (Calls Tryz.prog 52 #[.slice a (lft st).length cap,.int .i64 0,.int .i64 Z,.bool true] w fun e w'=>e=.returned (.tuple #[.int .u64 0,.bool false])/\w'=w):=
   aF5 a cap _ 0 Z true w (by omega) (by simp[fitsB];omega)
  have c0:=(aB hx 0).1
  simp only[List.getElem?_toArray,List.getElem?_cons_zero] at c0
  clear hx hr h e1 hZ hle
  generalize (lft st).length=N at *
  go_enter Tryz.func38,Tryz.ntmps38
  go_wp2_with (first
   | (go_at_call 52;refine Calls.mono HG.out ?_;rintro e w1 ⟨rfl,rfl⟩)
   | (go_at_call 53;refine(HFail.out _ HR.out).mono ?_;rintro e w2 ⟨rfl,hw2,hk2⟩))
  go_ret
  exact⟨rfl,hw2,hk2⟩
theorem bL (n:Nat) (st:Ls) (h:Byt (lft st)):(gN n st).1 < 256 ^ n:=by
 cases st with
 | none=>exact Nat.pow_pos (by decide)
 | some l=>
  unfold gN
  simp only
  split
  ·exact dK l 0 n (Byt.getD h)
  ·exact Nat.pow_pos (by decide)
theorem cY (w0 w:World) (st:Ls) (n:Nat) (Z:Int) (hZ:Z=n) (hn1:1<=n) (hn4:n<=4) (h:RdR w0 w st):Calls Tryz.prog 17 #[.pointer (some ⟨w0.heap.size,0,none⟩),.int .i64 Z] w (RP w0 w (.int .i64 ((gN n st).1:Nat)) (gN n st).2):=by
 have HG:Hid _:=pY w0 w st n Z hZ hn1 (by omega) h
 have hlt:(gN n st).1 < 4294967296:=Nat.lt_of_lt_of_le (bL n st h.byt) (Nat.le_trans (Nat.pow_le_pow_right (by decide) hn4) (by decide))
 clear h hZ
 generalize (gN n st).1=V at *
 generalize (gN n st).2=s2 at *
 have hw:wrap64 (V:Int)=(V:Int):=by unfold wrap64;omega
 go_enter Tryz.func17,Tryz.ntmps17
 go_wp2_with (go_at_call 38;refine Calls.mono HG.out ?_;rintro e w2 ⟨rfl,hw2,hk2⟩)
 go_ret
 exact⟨by first | rfl | (simp only[hw];rfl),hw2,hk2⟩
theorem aCy (V:Nat) (h:V < 18446744073709551616):wrap64 (V:Int)=iv V:=by
 unfold wrap64 iv
 split<;>omega
theorem mC (w0 w:World) (st:Ls) (h:RdR w0 w st):Calls Tryz.prog 55 #[.pointer (some ⟨w0.heap.size,0,none⟩)] w (RP w0 w (.int .i64 (gI st).1) (gI st).2):=by
 have HG:Hid _:=pY w0 w st 8 8 rfl (by decide) (by decide) h
 have hlt:(gN 8 st).1 < 18446744073709551616:=bL 8 st h.byt
 unfold gI
 clear h
 have hv:=aCy _ hlt
 generalize (gN 8 st).1=V at *
 generalize (gN 8 st).2=s2 at *
 generalize iv V=v at *
 go_enter Tryz.func55,Tryz.ntmps55
 go_wp2_with (go_at_call 38;refine Calls.mono HG.out ?_;rintro e w2 ⟨rfl,hw2,hk2⟩)
 go_ret
 exact⟨by first | rfl | (simp only[hv];rfl),hw2,hk2⟩
theorem uA (w0 w:World) (st:Ls) (most:Nat) (Z M:Int) (hZ:Z=1) (hM:M=most) (hm:most<=255) (h:RdR w0 w st):Calls Tryz.prog 56 #[.pointer (some ⟨w0.heap.size,0,none⟩),.int .i64 Z,.int .i64 M] w (RP w0 w (.int .i64 ((gUp 1 most st).1:Nat)) (gUp 1 most st).2):=by
 have HG:Hid _:=cY w0 w st 1 Z hZ (by decide) (by decide) h
 have HFail:Hid (∀x,RdR w0 x (gN 1 st).2->Calls Tryz.prog 53 #[.pointer (some ⟨w0.heap.size,0,none⟩)] x (RP w0 x (.tuple #[]) none)):=fun x hx=>iW w0 x _ hx
 have hlt:(gN 1 st).1 < 256:=bL 1 st h.byt
 by_cases hgt:most < (gN 1 st).1
 ·have e1:gUp 1 most st=(0,none):=by unfold gUp;rw[if_pos hgt]
  rw[e1]
  clear h hZ e1
  generalize (gN 1 st).1=V at *
  generalize (gN 1 st).2=s2 at *
  have hg:M < (V:Int):=by omega
  clear hM
  go_enter Tryz.func56,Tryz.ntmps56
  go_wp2_with (first
   | (go_at_call 17;refine Calls.mono HG.out ?_;rintro e w2 ⟨rfl,hw2,hk2⟩)
   | (go_at_call 53;refine(HFail.out _ hw2).mono ?_;rintro e w3 ⟨rfl,hw3,hk3⟩))
  go_ret
  exact⟨rfl,hw3,hk2.trans hk3⟩
 ·have e1:gUp 1 most st=gN 1 st:=by unfold gUp;rw[if_neg hgt]
  rw[e1]
  clear h hZ e1 HFail
  generalize (gN 1 st).1=V at *
  generalize (gN 1 st).2=s2 at *
  have hg:(V:Int)<=M:=by omega
  clear hM
  go_enter Tryz.func56,Tryz.ntmps56
  go_wp2_with (go_at_call 17;refine Calls.mono HG.out ?_;rintro e w2 ⟨rfl,hw2,hk2⟩)
  go_ret
  exact⟨rfl,hw2,hk2⟩
theorem oY (w:World) (a:Option Addr) (len cap n:Nat) (h:n<=len) (h2:len<=cap):(Instr.slice 22 (.slice a len cap) none (some (.int .i64 (n:Int))) none).run Tryz.prog w=.ok (.slice a n cap) w:=by
 have hs:(sizeOf 5).run Tryz.prog w=.ok 1 w:=by
  obtain⟨i,hi,e⟩:=Option.map_eq_some_iff.1 Tryz.info5s
  simp[sizeOf,typeInfo,hi,e]
 have h3:(0:Int)<=(n:Int)/\(n:Int)<=(cap:Int):=by omega
 have hle:n<=cap:=by omega
 have ha:∀ad:Addr,ad.add 0=ad:=fun ad=>by
  obtain⟨b,o,s⟩:=ad
  cases s<;>simp[Addr.add]
 cases a with
 | none=>simp[Instr.slice,run_underlying Tryz.underlying22,Instr.sliceBounds,Instr.sliceBound,asIntOf,h3,hs,hle]
 | some ad=>
  by_cases h0:cap=0
  ·obtain rfl:n=0:=by omega
   subst h0
   simp[Instr.slice,run_underlying Tryz.underlying22,Instr.sliceBounds,Instr.sliceBound,asIntOf,hs,ha]
  ·simp[Instr.slice,run_underlying Tryz.underlying22,Instr.sliceBounds,Instr.sliceBound,asIntOf,h3,hs,hle,h0,ha]
theorem kT (w0 w:World) (st:Ls) (h:RdR w0 w st):Calls Tryz.prog 57 #[.pointer (some ⟨w0.heap.size,0,none⟩)] w (RP w0 w (.string (gT st).1) (gT st).2):=by
 have HG:Hid _:=cY w0 w st 2 2 rfl (by decide) (by decide) h
 have hlt:(gN 2 st).1 < 65536:=bL 2 st h.byt
 have HFail:Hid (∀s x,RdR w0 x s->Calls Tryz.prog 53 #[.pointer (some ⟨w0.heap.size,0,none⟩)] x (RP w0 x (.tuple #[]) none)):=fun s x hx=>iW w0 x s hx
 have HZ:Hid ((gN 2 st).2=none->(gN 2 st).1=0):=by
  intro e
  cases st with
  | none=>rfl
  | some l=>
   unfold gN at e ⊢
   simp only at e ⊢
   split at e
   ·cases e
   ·rename_i hq;rw[if_neg hq]
 unfold gT
 cases hg:gN 2 st with
 | mk V s2=>
  rw[hg] at HG hlt HZ
  simp only at HG hlt HZ
  clear h hg
  by_cases hle:V<=(lft s2).length
  ·have e1:gB (V,s2)=(strN ((lft s2).take V),if s2=none then none else some ((lft s2).drop V)):=by
    cases s2 with
    | none=>obtain rfl:=HZ.out rfl;rfl
    | some l1=>simp only[gB,lft,Option.getD_some];rw[if_pos (show V<=l1.length from hle)];simp
   rw[e1]
   have HX:Hid (∀x,RdR w0 x s2->∃a cap,x.cell? ⟨w0.heap.size,0,none⟩=some (.slice a (lft s2).length cap)/\x.frozen? ⟨w0.heap.size,0,none⟩=false/\(Instr.slice 22 (.slice a (lft s2).length cap) none (some (.int .i64 (V:Int))) none).run Tryz.prog x=.ok (.slice a V cap) x/\(Instr.slice 22 (.slice a (lft s2).length cap) (some (.int .i64 (V:Int))) none none).run Tryz.prog x=.ok (.slice (cutA a cap V) ((lft s2).length - V) (cap - V)) x/\(convert 22 9 (.slice a V cap)).run Tryz.prog x=.ok (.string (strN ((lft s2).take V))) x/\Hid (RdR w0 (x.setCell ⟨w0.heap.size,0,none⟩ (.slice (cutA a cap V) ((lft s2).length - V) (cap - V))) (if s2=none then none else some ((lft s2).drop V))/\KeepB w0.heap.size x (x.setCell ⟨w0.heap.size,0,none⟩ (.slice (cutA a cap V) ((lft s2).length - V) (cap - V))))):=by
    intro x hx
    obtain⟨a,cap,hbx,hr,hl,hc,hn,hbig⟩:=hx.box
    refine⟨a,cap,(aB hbx 0).1,(aB hbx 0).2,oY x a _ cap V hle hl,pE x a _ cap V V rfl hle,gO cap (hr.below hx.bel) (Nat.not_lt.2 hle),?_⟩
    cases s2 with
    | none=>
     obtain rfl:=HZ.out rfl
     simp only[lft,Option.getD_none,List.length_nil,Option.isNone_none,if_true,Nat.sub_zero] at *
     refine⟨⟨⟨cutA a cap 0,cap,?_,?_,by simp[lft],hc,?_,by simp[lft]⟩,hx.bel.setCell (p:=⟨w0.heap.size,0,none⟩) (Nat.le_refl _) _⟩,KeepB.setCell _ _ _ _⟩
     ·rw[aH hbx];rfl
     ·exact fun i hi=>by simp[lft] at hi
     ·intro e
      have:=qH hn (Nat.zero_le _) e
      omega
    | some l1=>
     simp only[lft,Option.getD_some,reduceCtorEq,if_false,Option.isNone_some] at *
     exact RdR.cut (b:=false) hx.bel hbx hr hl hc hn hle hbig
   have hleI:(V:Int)<=((lft s2).length:Int):=by omega
   clear HFail HZ e1 hle
   generalize (if s2=none then none else some ((lft s2).drop V))=s3 at *
   generalize strN ((lft s2).take V)=S at *
   have HX2:=HX
   clear HX
   have HX:Hid _:=HX2
   clear HX2
   obtain⟨LL,HLL⟩:∃LL,Hid ((lft s2).length=LL):=⟨_,rfl⟩
   rw[HLL.out] at HX hleI
   go_enter Tryz.func57,Tryz.ntmps57
   go_wp2_with (go_at_call 17;refine Calls.mono HG.out ?_;rintro e w2 ⟨rfl,hw2,hk2⟩;obtain⟨a2,cap2,z0,z1,z2,z3,z4,z5⟩:=HX.out w2 hw2;clear hw2)
   go_ret
   exact⟨rfl,z5.out.1,hk2.trans z5.out.2⟩
  ·have e1:gB (V,s2)=(⟨#[]⟩,none):=by
    cases s2 with
    | none=>rfl
    | some l1=>simp only[gB];rw[if_neg (by simpa [lft] using hle)]
   rw[e1]
   have HX:Hid (∀x,RdR w0 x s2->∃a cap,x.cell? ⟨w0.heap.size,0,none⟩=some (.slice a (lft s2).length cap)):=by
    intro x hx
    obtain⟨a,cap,hbx,_⟩:=hx.box
    exact⟨a,cap,(aB hbx 0).1⟩
   have hltI:((lft s2).length:Int) < (V:Int):=by omega
   clear hle e1 HZ
   generalize (lft s2).length=LL at *
   go_enter Tryz.func57,Tryz.ntmps57
   go_wp2_with (first
    | (go_at_call 17;refine Calls.mono HG.out ?_;rintro e w2 ⟨rfl,hw2,hk2⟩;obtain⟨a2,cap2,z0⟩:=HX.out w2 hw2;have HW2:Hid (RdR w0 w2 s2):=hw2;clear hw2)
    | (go_at_call 53;refine(HFail.out s2 _ HW2.out).mono ?_;rintro e w3 ⟨rfl,hw3,hk3⟩))
   go_ret
   exact⟨rfl,hw3,hk2.trans hk3⟩
theorem fL {y:World} {D:Nat} {rk:Bool} {rkk:ByteArray} {rv:Bool} {rvv:ByteArray} {rt ro:Int} (h:y.heap[D]? = some (.cells #[.bool rk,.string rkk,.bool rv,.string rvv,.int .i64 rt,.int .i64 ro] 84 (0,0))) :
 y.cell? ⟨D,0,none⟩=some (.bool rk)/\y.cell? ⟨D,1,none⟩=some (.string rkk)/\y.cell? ⟨D,2,none⟩=some (.bool rv)/\y.cell? ⟨D,3,none⟩=some (.string rvv)/\y.cell? ⟨D,4,none⟩=some (.int .i64 rt)/\y.cell? ⟨D,5,none⟩=some (.int .i64 ro):=by
 have hc:∀j,y.cell? ⟨D,j,none⟩=_:=fun j=>cell_of_row _ D j _ 84 (0,0) h
 exact⟨by rw[hc];rfl,by rw[hc];rfl,by rw[hc];rfl,by rw[hc];rfl,by rw[hc];rfl,by rw[hc];rfl⟩
theorem vM (w:World) (r:Rc):RRow (w.alloc (.cells r.cells 84)) (some ⟨w.heap.size,0,none⟩) [r]:=by
 have hc:∀j,(w.alloc (.cells r.cells 84)).cell? ⟨w.heap.size,j,none⟩=r.cells[j]?:=fun j=>cell_of_row _ w.heap.size j r.cells 84 (0,0) (heap_alloc_new w _)
 intro i hi
 obtain rfl:i=0:=by simpa using hi
 exact⟨w.heap.size,0,rfl,hc 0,hc 1,hc 2,hc 3,hc 4,hc 5⟩
theorem yJ (l:List Nat) (f:Int) (k:Nat) (h:AllOk l f k):(rest l f k).length+k<=l.length:=by
 induction k with
 | zero=>exact Nat.le_refl _
 | succ k ih=>
  have h1:=ih (fun j hj=>h j (by omega))
  have ho:=h k (by omega)
  have h2:=zS (rest l f k)
  have h0:0 < (rest l f k).length:=by
   unfold okD gate at ho
   simp only[Bool.and_eq_true,decide_eq_true_eq] at ho
   exact ho.1.1.1.2
  have hd:decN (rest l f k) f=(rest l f k).length - (p4 (rest l f k)).length:=by unfold decN;rw[if_pos ho]
  show((rest l f k).drop _).length+(k+1)<=_
  rw[List.length_drop,hd]
  omega
theorem own_base {w:World} {B n k c:Nat} {va:Option Addr} {xs:List Value} (h:w.ownsRow B 84 6 (.slice va k c) n xs):∀g,va=some g->B<=g.block:=by
 intro g hg
 subst hg
 rcases h.2 with⟨e,_⟩ | ⟨g',cap',cur,e,hB,_⟩
 ·cases e
 ·injection e with e1
  injection e1 with e1
  rw[e1]
  exact hB
theorem own_ne {w w4:World} {B n:Nat} {v:Value} {xs:List Value} (h:w.ownsRow B 84 6 v n xs) (hs:w.heap.size<=w4.heap.size):v.ownBlock≠some w4.heap.size:=by
 intro c
 have:=(h.lt _ c).2
 omega
structure SpS (w:World) (l:List Nat) (f:Int) (k:Nat) (p v:Value) (x:World):Prop where
 own:x.ownsRow w.heap.size 84 6 v k (rcv (recs l f k))
 row:∃a c,p=.slice a (rest l f k).length c/\Row w a (rest l f k)/\(rest l f k).length<=c/\c<=maxLen
 ok:AllOk l f k
 bel:Below w.heap.size w x
theorem gG (a:Option Addr) (cap:Nat) (l:List Nat) (cnt:Nat) (first:Int) (w:World) (hr:Row w a l) (hl:l.length<=cap) (hc:cap<=maxLen) (hl2:l.length<=10000) (hcn:cnt<=4294967295) :
 Calls Tryz.prog 98 #[.slice a l.length cap,.int .i64 cnt,.int .i64 first] w fun e w'=>(AllOk l first cnt->∃a' c',e=.returned (.tuple #[.slice a' cnt c',.bool (decide (rest l first cnt=[]))])/\RRow w' a' (recs l first cnt)/\(a'=none->c'=0)/\(∀g,a'=some g->w.heap.size<=g.block))/\(¬AllOk l first cnt->e=.returned (.tuple #[.slice none 0 0,.bool false]))/\Below w.heap.size w w':=by
 have HDE:Hid (∀x a c q,Row x a q->q.length<=c->c<=maxLen->Calls Tryz.prog 109 #[.slice a q.length c,.int .i64 first] x fun e w'=>e=.returned (.tuple #[.agg (decR q first).cells,.int .i64 ((decN q first:Nat):Int),.int .i64 (decE q first)])/\Below x.heap.size x w'):=fun x a c q h1 h2 h3=>decode_any a c q first x h1 h2 h3
 have HS0:Hid (SpS w l first 0 (.slice a l.length cap) (.slice none 0 0) w):=⟨World.ownsRow_nil _ _ _ _,⟨a,cap,rfl,hr,hl,hc⟩,fun k hk=>by omega,Below.refl _ _⟩
 clear hr hl hc
 obtain⟨db,HDB⟩:∃db,Hid (decide (rest l first cnt=[])=db):=⟨_,rfl⟩
 rw[HDB.out]
 go_enter Tryz.func98,Tryz.ntmps98
 go_wp2_with fail
 go_loopw [0,6,12] (fun p v i x=>∃k:Nat,k<=cnt/\i=.int .i64 k/\SpS w l first k p v x) (fun _ _ i _=>cnt - (intOf i).toNat)
 case atStart=>exact⟨0,by omega,rfl,HS0.out⟩
 case round=>
  clear HS0
  obtain⟨k,hk,rfl,hS⟩:=hrel
  obtain⟨hown,⟨pa,pc,rfl,hrow,hpl,hpm⟩,hok,hbel⟩:=hS
  obtain⟨va,vc,rfl,hvr,hvn,hvl,hvm⟩:=fH (rs:=recs l first k) (by rw[cW];exact hown)
  have hvb:∀g,va=some g->w.heap.size<=g.block:=own_base hown
  have HVB:Hid _:=hvb
  clear hvb
  rw[cW] at hvl hown ⊢
  by_cases hlt:k < cnt
  ·have hltI:(k:Int) < (cnt:Int):=by omega
   by_cases ho:okD (rest l first k) first=true
   ·have hE:decE (rest l first k) first=0:=by unfold decE;rw[if_pos ho]
    have hR:decR (rest l first k) first=rcOf (rest l first k) first:=by unfold decR;rw[if_pos ho]
    have hN:decN (rest l first k) first<=(rest l first k).length:=by unfold decN;rw[if_pos ho];omega
    have HD1:=HDE.out
    have HDX:Hid (∀x,Row x pa (rest l first k)->Calls Tryz.prog 109 #[.slice pa (rest l first k).length pc,.int .i64 first] x fun e w'=>e=.returned (.tuple #[.agg (rcOf (rest l first k) first).cells,.int .i64 ((decN (rest l first k) first:Nat):Int),.int .i64 0])/\Below x.heap.size x w'):=by
     intro x hx
     have:=HD1 x pa pc _ hx hpl hpm
     rw[hE,hR] at this
     exact this
    have HRS:Hid (rest l first (k+1)=(rest l first k).drop (decN (rest l first k) first)):=rfl
    have HRC:Hid (recs l first (k+1)=recs l first k++[rcOf (rest l first k) first]):=gF l first k
    have HAO:Hid (AllOk l first (k+1)):=by
     intro j hj
     by_cases hjk:j=k
     ·subst hjk;exact ho
     ·exact hok j (by omega)
    have hkl:k<=10000:=by have:=yJ l first k hok;omega
    clear HD1 HDE hE hR ho hok
    generalize rest l first k=q at *
    generalize recs l first k=R at *
    generalize rcOf q first=r at *
    generalize decN q first=n at *
    obtain⟨rk,rkk,rv,rvv,rt,ro⟩:=r
    simp only[Rc.cells] at HDX
    have hnI:(n:Int)<=(q.length:Int):=by omega
    have ks:∀w',(Instr.slice 22 (.slice pa q.length pc) (some (.int .i64 (n:Int))) none none).run Tryz.prog w'=.ok (.slice (cutA pa pc n) (q.length - n) (pc - n)) w':=fun w'=>eM w' pa q.length pc n .i64 hN
    have HROW:Hid (Row wr pa q):=hrow.below hbel
    have HRW0:Hid (Row w pa q):=hrow
    clear hrow hvr
    go_wp2_with (go_at_call 109;refine(HDX.out _ HROW.out).mono ?_;rintro e w4 ⟨rfl,hb4⟩;have HB4:Hid (Below w.heap.size w w4):=hbel.trans (hb4.mono hbel.size);have HO4:Hid (w4.ownsRow w.heap.size 84 6 (.slice va k vc) k (rcv R)):=fQ hown hb4;have HVD:Hid ((Value.slice va k vc).ownBlock≠some w4.heap.size):=own_ne hown hb4.size;obtain⟨D,HD⟩:∃D,Hid (w4.heap.size=D):=⟨_,rfl⟩)
    rw[HD.out]
    have hS0:(fun y:World=>y.heap[D]? = some (.cells #[.bool rk,.string rkk,.bool rv,.string rvv,.int .i64 rt,.int .i64 ro] 84 (0,0))/\Below w.heap.size w y) (w4.alloc (.cells #[.bool rk,.string rkk,.bool rv,.string rvv,.int .i64 rt,.int .i64 ro] 84)).drew:=⟨HD.out▸heap_alloc_new w4 _,(HB4.out.alloc HB4.out.size _).drew⟩
    refine aD (fun y:World=>y.heap[D]? = some (.cells #[.bool rk,.string rkk,.bool rv,.string rvv,.int .i64 rt,.int .i64 ro] 84 (0,0))/\Below w.heap.size w y) 8 (by kernel_rfl) hS0 (fun hHeld=>?_)
    clear hS0
    refine lH 0 ?_ (hy:=by intro w hSw;obtain⟨q0,q1,q2,q3,q4,q5⟩:=fL hSw.1;go_simp<;>with_reducible rfl)
    try simp only[Act.put,sP]
    refine lH 1 ?_ (hy:=by intro w hSw;obtain⟨q0,q1,q2,q3,q4,q5⟩:=fL hSw.1;go_simp<;>with_reducible rfl)
    try simp only[Act.put,sP]
    refine lH 4 ?_ (hy:=by intro w hSw;obtain⟨q0,q1,q2,q3,q4,q5⟩:=fL hSw.1;go_simp<;>with_reducible rfl)
    try simp only[Act.put,sP]
    refine lH 5 ?_ (hy:=by intro w hSw;obtain⟨q0,q1,q2,q3,q4,q5⟩:=fL hSw.1;go_simp<;>with_reducible rfl)
    try simp only[Act.put,sP]
    refine lH 6 ?_ (hy:=by intro w hSw;obtain⟨q0,q1,q2,q3,q4,q5⟩:=fL hSw.1;go_simp<;>with_reducible rfl)
    try simp only[Act.put,sP]
    refine lo 2 fun K hK=>?_
    go_simp
    try dsimp only
    obtain⟨Y,HY⟩:∃Y,Hid (((w4.alloc (.cells #[.bool rk,.string rkk,.bool rv,.string rvv,.int .i64 rt,.int .i64 ro] 84)).alloc (.cells #[.bool rk,.string rkk,.bool rv,.string rvv,.int .i64 rt,.int .i64 ro] 84)).drew=Y):=⟨_,rfl⟩
    have hY4:Below w4.heap.size w4 Y:=by rw[<-HY.out];exact((aA _).trans ((aA _).mono (by simp))).drew
    have hYS:(fun y:World=>y.heap[D]? = some (.cells #[.bool rk,.string rkk,.bool rv,.string rvv,.int .i64 rt,.int .i64 ro] 84 (0,0))/\Below w.heap.size w y) Y:=by
     rw[<-HY.out]
     refine⟨?_,((HB4.out.alloc HB4.out.size _).trans ((aA _).mono (by have:=HB4.out.size;simp;omega))).drew⟩
     show((w4.alloc (.cells #[.bool rk,.string rkk,.bool rv,.string rvv,.int .i64 rt,.int .i64 ro] 84)).alloc (.cells #[.bool rk,.string rkk,.bool rv,.string rvv,.int .i64 rt,.int .i64 ro] 84)).heap[D]? = _
     rw[(aA (w:=w4.alloc (.cells #[.bool rk,.string rkk,.bool rv,.string rvv,.int .i64 rt,.int .i64 ro] 84)) _).block D (by rw[<-HD.out];simp)]
     exact HD.out▸heap_alloc_new w4 _
    have hYR:RRow Y (some ⟨w4.heap.size+1,0,none⟩) [⟨rk,rkk,rv,rvv,rt,ro⟩]:=by
     have h2:=vM (w4.alloc (.cells #[.bool rk,.string rkk,.bool rv,.string rvv,.int .i64 rt,.int .i64 ro] 84)) ⟨rk,rkk,rv,rvv,rt,ro⟩
     rw[show(w4.alloc (.cells #[.bool rk,.string rkk,.bool rv,.string rvv,.int .i64 rt,.int .i64 ro] 84)).heap.size=w4.heap.size+1 by simp] at h2
     rw[<-HY.out]
     exact RRow.below h2 ((Below.refl _ _).drew)
    have hYB:Below w.heap.size w Y:=hYS.2
    have hYO:Y.ownsRow w.heap.size 84 6 (.slice va k vc) k (rcv R):=fQ HO4.out hY4
    have hYD:D < Y.heap.size:=(Array.getElem?_eq_some_iff.1 hYS.1).1
    rw[show((w4.alloc (.cells #[.bool rk,.string rkk,.bool rv,.string rvv,.int .i64 rt,.int .i64 ro] 84)).alloc (.cells #[.bool rk,.string rkk,.bool rv,.string rvv,.int .i64 rt,.int .i64 ro] 84)).drew=Y from HY.out]
    refine hK.out _ _ hYS (fun hSZ=>?_)
    clear hK hHeld hYS
    try simp only[Act.put,sP]
    refine lo 3 fun K hK=>?_
    refine mG _ _ rfl w.heap.size w _ _ _ rfl hYO hYB hYB.size _ 1 [⟨rk,rkk,rv,rvv,rt,ro⟩] rfl hYR (by simp;omega) ?_
    intro v5 w5 hown5 hb5 hg5
    have hS5:(fun y:World=>y.heap[D]? = some (.cells #[.bool rk,.string rkk,.bool rv,.string rvv,.int .i64 rt,.int .i64 ro] 84 (0,0))/\Below w.heap.size w y) w5:=⟨(hg5.block D hYD (by intro c;exact HVD.out (by rw[HD.out];exact c.symm))).trans hSZ.1,hb5⟩
    refine hK.out _ _ hS5 (fun hS6=>?_)
    clear hK hSZ hYO hYR
    try simp only[Act.put,sP]
    refine lo 7 fun K hK=>?_
    go_simp
    try dsimp only
    refine hK.out _ _ hS6 (fun hS7=>?_)
    clear hK
    try simp only[Act.put,sP]
    refine ll 8 fun K hK=>?_
    go_simp
    try dsimp only
    refine hK.out _ _ ?_
    clear hK
    try simp only[Act.put,sP]
    go_wp2
    rw[show k + [(⟨rk,rkk,rv,rvv,rt,ro⟩:Rc)].length=k+1 from rfl,<-lU] at hown5
    refine⟨⟨k+1,by omega,by go_num,?_,⟨cutA pa pc n,pc - n,?_,?_,?_,by omega⟩,HAO.out,hb5⟩,by simp[intOf];omega⟩
    ·rw[HRC.out];exact hown5
    ·rw[HRS.out,List.length_drop]
    ·rw[HRS.out];exact dG pc n HRW0.out hpl
    ·rw[HRS.out,List.length_drop];omega
   ·have ho':okD (rest l first k) first=false:=by simpa using ho
    have hE:decE (rest l first k) first=10:=by unfold decE;rw[ho'];rfl
    have hR:decR (rest l first k) first=rz:=by unfold decR;rw[ho'];rfl
    have hN:decN (rest l first k) first=0:=by unfold decN;rw[ho'];rfl
    have HNO:Hid (¬AllOk l first cnt):=fun h=>by rw[h k hlt] at ho';cases ho'
    have HD1:=HDE.out
    have HDX:Hid (∀x,Row x pa (rest l first k)->Calls Tryz.prog 109 #[.slice pa (rest l first k).length pc,.int .i64 first] x fun e w'=>e=.returned (.tuple #[.agg rz.cells,.int .i64 0,.int .i64 10])/\Below x.heap.size x w'):=by
     intro x hx
     have:=HD1 x pa pc _ hx hpl hpm
     rw[hE,hR,hN] at this
     exact this
    have HROW:Hid (Row wr pa (rest l first k)):=hrow.below hbel
    have HBW:Hid (Below w.heap.size w wr):=hbel
    clear HD1 HDE hE hR hN ho ho' hok hrow hvr hown hbel
    generalize rest l first k=q at *
    simp only[Rc.cells,rz] at HDX
    go_wp2_with (go_at_call 109;refine(HDX.out _ HROW.out).mono ?_;rintro e w4 ⟨rfl,hb4⟩;have HB4:Hid (Below w.heap.size w w4):=HBW.out.trans (hb4.mono HBW.out.size))
    go_ret2
    exact⟨fun h=>absurd h HNO.out,fun _=>rfl,HB4.out.alloc HB4.out.size _⟩
  ·obtain rfl:k=cnt:=by omega
   have HOK:Hid (AllOk l first k):=hok
   have HVR:Hid (RRow wr va (recs l first k)):=hvr
   have HBW:Hid (Below w.heap.size w wr):=hbel
   have hz:(((rest l first k).length:Int) == 0)=db:=by
    rw[<-HDB.out]
    cases rest l first k with
    | nil=>rfl
    | cons x t=>simp;omega
   clear HDE hok hrow hvr hown hbel
   generalize rest l first k=q at *
   go_wp2_with fail
   go_ret2
   refine⟨fun _=>⟨va,vc,?_,HVR.out,hvn,HVB.out⟩,fun h=>absurd HOK.out h,HBW.out⟩
   first | rfl | (rw[hz])
theorem cC (l:List Nat) (p n k:Nat) (h:p+n<=k):getV (l.take k) p n true=getV l p n true:=by
 unfold getV
 apply kG
 intro j hj
 simp only[plc,if_true,List.getD,List.getElem?_take]
 rw[if_pos (by omega)]
structure DcS (w:World) (h:List Nat) (x:World):Prop where
 res:x.heap[w.heap.size]? = some (.cells #[.int .i64 0,.int .i64 0,.int .i64 0,.int .i64 0,.slice none 0 0] 88 (0,0))
 arr:x.heap[w.heap.size+1]? = some (.cells (cv h).toArray 171 (0,0))
 bel:Below w.heap.size w x
theorem DcS.below {w x y:World} {h:List Nat} (s:DcS w h x) (hb:Below x.heap.size x y):DcS w h y:=
 ⟨(hb.block _ (Array.getElem?_eq_some_iff.1 s.res).1).trans s.res,(hb.block _ (Array.getElem?_eq_some_iff.1 s.arr).1).trans s.arr,s.bel.trans (hb.mono s.bel.size)⟩
theorem DcS.new (w:World) (h:List Nat):DcS w h ((w.alloc (.cells #[.int .i64 0,.int .i64 0,.int .i64 0,.int .i64 0,.slice none 0 0] 88)).alloc (.cells (cv h).toArray 171)):=by
 have b1:Below w.heap.size w (w.alloc (.cells #[.int .i64 0,.int .i64 0,.int .i64 0,.int .i64 0,.slice none 0 0] 88)):=aA _
 refine⟨?_,?_,b1.alloc b1.size _⟩
 ·rw[(aA (w:=w.alloc (.cells #[.int .i64 0,.int .i64 0,.int .i64 0,.int .i64 0,.slice none 0 0] 88)) _).block w.heap.size (by simp)]
  exact heap_alloc_new w _
 ·have:=heap_alloc_new (w.alloc (.cells #[.int .i64 0,.int .i64 0,.int .i64 0,.int .i64 0,.slice none 0 0] 88)) (.cells (cv h).toArray 171)
  simpa using this
theorem DcS.load {w x:World} {h:List Nat} (s:DcS w h x) (hl:(cv h).toArray.size=48):(loadVar 171 ⟨w.heap.size+1,0,none⟩).run Tryz.prog x=.ok (.agg (cv h).toArray) x:=
 run_loadVar_row (P:=Tryz.prog) x (w.heap.size+1) 171 171 (cv h).toArray (0,0) _ s.arr Tryz.underlying171 rfl (by rw[hl];exact Tryz.info171)
theorem aE {fn:Func} {p u u2:Tmp} (h:fn.results=#[.cell p 88,.tmp u,.tmp u2]) (tmps:Array Value) (w:World) (g:Nat) (cs:Array Value) (v v2:Value) (hp:tmps.getD p undef=.pointer (some ⟨g,0,none⟩)) (hv:tmps.getD u undef=v) (hv2:tmps.getD u2 undef=v2) (hi:cs.size=5) (hg:w.heap[g]? = some (.cells cs 88 (0,0))) :
 (results fn tmps).run Tryz.prog w=.ok (.tuple #[.agg cs,v,v2]) w:=by
 have h2:=run_loadVar_row (P:=Tryz.prog) w g 88 88 cs (0,0) _ hg Tryz.underlying88 rfl (by rw[hi];exact Tryz.info88)
 subst hv
 subst hv2
 rw[jB h,hp]
 simp[asAddr,h2,Result.andThen]
theorem aW {x:World} {R:Nat} {c0 c1 c2 c3:Int} {a:Option Addr} {n c:Nat} (h:x.heap[R]? = some (.cells #[.int .i64 c0,.int .i64 c1,.int .i64 c2,.int .i64 c3,.slice a n c] 88 (0,0))) :
 x.cell? ⟨R,0,none⟩=some (.int .i64 c0)/\x.cell? ⟨R,1,none⟩=some (.int .i64 c1)/\x.cell? ⟨R,2,none⟩=some (.int .i64 c2)/\x.cell? ⟨R,3,none⟩=some (.int .i64 c3)/\x.cell? ⟨R,4,none⟩=some (.slice a n c)/\R < x.heap.size:=by
 have hc:∀j,x.cell? ⟨R,j,none⟩=_:=fun j=>cell_of_row _ R j _ 88 (0,0) h
 exact⟨by rw[hc];rfl,by rw[hc];rfl,by rw[hc];rfl,by rw[hc];rfl,by rw[hc];rfl,(Array.getElem?_eq_some_iff.1 h).1⟩
theorem RRow.keepR {w:World} {a:Option Addr} {R:Nat} {rs:List Rc} {cs:Array Value} (h:RRow w a rs) (hg:∀g,a=some g->g.block≠R):RRow (w.setRow R cs) a rs:=by
 intro i hi
 obtain⟨b,off,e,h0,h1,h2,h3,h4,h5⟩:=h i hi
 have hbM:b≠R:=hg _ e
 exact⟨b,off,e,(aJ hbM).trans h0,(aJ hbM).trans h1,(aJ hbM).trans h2,(aJ hbM).trans h3,(aJ hbM).trans h4,(aJ hbM).trans h5⟩
theorem DcS.range {w x:World} {h:List Nat} (s:DcS w h x):x.rangeAt (w.heap.size+1) 0 (cv h):=by
 intro j v hj
 rw[cell_of_row x (w.heap.size+1) (0+j) (cv h).toArray 171 (0,0) s.arr]
 simpa using hj
theorem aX {P:Program} {L:List Oper} {Q:Exit->Act->World->Prop} {md:Region.Mode} {S:World->Prop} {n:Nat} (i:Nat) {o:Oper} {r:List Oper} {f:Nat} {l:Array Bool} {a:Act} {w:World} (hi:L.drop i=o::r) (hsel:Region.noSelect L.toArray=true)
 (hs:(Region.sinkB md L.toArray n && Region.chainB md L.toArray n && decide (n < L.toArray.size) && decide (i < n))=true) (hf:Region.free md L.toArray l i=true) (hr:(Region.ready md L.toArray l).contains i=true)
 (hQ:∀cs c a w,Q (.panic c) (a.put o.dst (.agg cs)) w->Q (.panic c) a w) (hw:Region.wanted o (yielded L.toArray a.tmps)=true)
 (ty:TypeId) (x:Operand) (ho:o.op=.load ty x) (b off:Nat) (hx:a.eval x=.pointer (some ⟨b,off,none⟩)) (cs:List Value) (d:TypeDesc) (hc:∀y,S y->y.rangeAt b off cs) (hu:P.underlying ty=some d) (hd:d.isRow=true) (hi2:(P.info? ty).map (·.size)=some cs.length) (hS:S w)
 (h:LatI P md L.toArray Q S n f (l.setIfInBounds i true) (a.put o.dst (.agg cs.toArray)) w):LatI P md L.toArray Q S n (f+1) l a w:=
 LatI.take (dM hi) hsel hs hf hr (hQ _) (yieldsIf_load_mid hw ty x ho b off hx cs d hc hu hd hi2) hS h
theorem bK (w:World) (a:Option Addr) (len cap i n:Nat) (h:i<=n) (h2:n<=cap):(Instr.slice 22 (.slice a len cap) (some (.int .i64 (i:Int))) (some (.int .i64 (n:Int))) none).run Tryz.prog w=.ok (.slice (cutA a cap i) (n - i) (cap - i)) w:=by
 have hs:(sizeOf 5).run Tryz.prog w=.ok 1 w:=by
  obtain⟨i,hi,e⟩:=Option.map_eq_some_iff.1 Tryz.info5s
  simp[sizeOf,typeInfo,hi,e]
 have h1:(0:Int)<=(i:Int)/\(i:Int)<=(n:Int):=by omega
 have h3:(0:Int)<=(n:Int)/\(n:Int)<=(cap:Int):=by omega
 simp[Instr.slice,run_underlying Tryz.underlying22,Instr.sliceBounds,Instr.sliceBound,asIntOf,h1,h3,hs,cutA]
 rw[if_pos h2,if_pos h]
theorem dW {w:World} {a:Option Addr} {l:List Nat} (cap i n:Nat) (hr:Row w a l) (hl:l.length<=cap):Row w (cutA a cap i) ((l.take n).drop i):=by
 by_cases h:n<=l.length
 ·exact dG cap i (gP n hr) (by rw[List.length_take];omega)
 ·rw[List.take_of_length_le (by omega)]
  exact dG cap i hr hl
theorem cF (w:World) (ad:Addr) (len cap:Nat) (h:48<=cap):(Instr.slice 22 (.slice (some ad) len cap) none (some (.int .i64 48)) none).run Tryz.prog w=.ok (.slice (some ad) 48 cap) w:=by
 have hs:(sizeOf 5).run Tryz.prog w=.ok 1 w:=by
  obtain⟨i,hi,e⟩:=Option.map_eq_some_iff.1 Tryz.info5s
  simp[sizeOf,typeInfo,hi,e]
 have h3:(0:Int)<=48/\(48:Int)<=(cap:Int):=by omega
 simp[Instr.slice,run_underlying Tryz.underlying22,Instr.sliceBounds,Instr.sliceBound,asIntOf,h3,hs]
 first | omega | (rw[if_pos h];simp[Addr.add]) | simp[h,Addr.add]
theorem run_arrayAt (w:World) (ad:Addr) (cap:Nat):(Instr.arrayAt 171 (.slice (some ad) 48 cap)).run Tryz.prog w=.ok (.pointer (some ad)) w:=by
 simp[Instr.arrayAt,run_underlying Tryz.underlying171]
theorem eQ {w:World} {b off:Nat} {l:List Nat} (hr:Row w (some ⟨b,off,none⟩) l) (k:Nat):w.rangeAt b off (cv (l.take k)):=by
 intro j v hj
 have:=iB (gP k hr) j v hj
 rwa [Addr.add_lit] at this
theorem DcS.made (w:World) (h:List Nat):DcS w h (((w.alloc (.cells #[.int .i64 0,.int .i64 0,.int .i64 0,.int .i64 0,.slice none 0 0] 88)).alloc (.cells #[.int .u8 0,.int .u8 0,.int .u8 0,.int .u8 0,.int .u8 0,.int .u8 0,.int .u8 0,.int .u8 0,.int .u8 0,.int .u8 0,.int .u8 0,.int .u8 0,.int .u8 0,.int .u8 0,.int .u8 0,.int .u8 0,.int .u8 0,.int .u8 0,.int .u8 0,.int .u8 0,.int .u8 0,.int .u8 0,.int .u8 0,.int .u8 0,.int .u8 0,.int .u8 0,.int .u8 0,.int .u8 0,.int .u8 0,.int .u8 0,.int .u8 0,.int .u8 0,.int .u8 0,.int .u8 0,.int .u8 0,.int .u8 0,.int .u8 0,.int .u8 0,.int .u8 0,.int .u8 0,.int .u8 0,.int .u8 0,.int .u8 0,.int .u8 0,.int .u8 0,.int .u8 0,.int .u8 0,.int .u8 0] 171)).setRow (w.heap.size+1) (cv h).toArray):=by
 have b1:Below w.heap.size w (w.alloc (.cells #[.int .i64 0,.int .i64 0,.int .i64 0,.int .i64 0,.slice none 0 0] 88)):=aA _
 have b2:Below w.heap.size w ((w.alloc (.cells #[.int .i64 0,.int .i64 0,.int .i64 0,.int .i64 0,.slice none 0 0] 88)).alloc (.cells #[.int .u8 0,.int .u8 0,.int .u8 0,.int .u8 0,.int .u8 0,.int .u8 0,.int .u8 0,.int .u8 0,.int .u8 0,.int .u8 0,.int .u8 0,.int .u8 0,.int .u8 0,.int .u8 0,.int .u8 0,.int .u8 0,.int .u8 0,.int .u8 0,.int .u8 0,.int .u8 0,.int .u8 0,.int .u8 0,.int .u8 0,.int .u8 0,.int .u8 0,.int .u8 0,.int .u8 0,.int .u8 0,.int .u8 0,.int .u8 0,.int .u8 0,.int .u8 0,.int .u8 0,.int .u8 0,.int .u8 0,.int .u8 0,.int .u8 0,.int .u8 0,.int .u8 0,.int .u8 0,.int .u8 0,.int .u8 0,.int .u8 0,.int .u8 0,.int .u8 0,.int .u8 0,.int .u8 0,.int .u8 0] 171)):=b1.alloc b1.size _
 have hn:((w.alloc (.cells #[.int .i64 0,.int .i64 0,.int .i64 0,.int .i64 0,.slice none 0 0] 88)).alloc (.cells #[.int .u8 0,.int .u8 0,.int .u8 0,.int .u8 0,.int .u8 0,.int .u8 0,.int .u8 0,.int .u8 0,.int .u8 0,.int .u8 0,.int .u8 0,.int .u8 0,.int .u8 0,.int .u8 0,.int .u8 0,.int .u8 0,.int .u8 0,.int .u8 0,.int .u8 0,.int .u8 0,.int .u8 0,.int .u8 0,.int .u8 0,.int .u8 0,.int .u8 0,.int .u8 0,.int .u8 0,.int .u8 0,.int .u8 0,.int .u8 0,.int .u8 0,.int .u8 0,.int .u8 0,.int .u8 0,.int .u8 0,.int .u8 0,.int .u8 0,.int .u8 0,.int .u8 0,.int .u8 0,.int .u8 0,.int .u8 0,.int .u8 0,.int .u8 0,.int .u8 0,.int .u8 0,.int .u8 0,.int .u8 0] 171)).heap[w.heap.size+1]? = some (.cells #[.int .u8 0,.int .u8 0,.int .u8 0,.int .u8 0,.int .u8 0,.int .u8 0,.int .u8 0,.int .u8 0,.int .u8 0,.int .u8 0,.int .u8 0,.int .u8 0,.int .u8 0,.int .u8 0,.int .u8 0,.int .u8 0,.int .u8 0,.int .u8 0,.int .u8 0,.int .u8 0,.int .u8 0,.int .u8 0,.int .u8 0,.int .u8 0,.int .u8 0,.int .u8 0,.int .u8 0,.int .u8 0,.int .u8 0,.int .u8 0,.int .u8 0,.int .u8 0,.int .u8 0,.int .u8 0,.int .u8 0,.int .u8 0,.int .u8 0,.int .u8 0,.int .u8 0,.int .u8 0,.int .u8 0,.int .u8 0,.int .u8 0,.int .u8 0,.int .u8 0,.int .u8 0,.int .u8 0,.int .u8 0] 171 (0,0)):=by
  have:=heap_alloc_new (w.alloc (.cells #[.int .i64 0,.int .i64 0,.int .i64 0,.int .i64 0,.slice none 0 0] 88)) (.cells #[.int .u8 0,.int .u8 0,.int .u8 0,.int .u8 0,.int .u8 0,.int .u8 0,.int .u8 0,.int .u8 0,.int .u8 0,.int .u8 0,.int .u8 0,.int .u8 0,.int .u8 0,.int .u8 0,.int .u8 0,.int .u8 0,.int .u8 0,.int .u8 0,.int .u8 0,.int .u8 0,.int .u8 0,.int .u8 0,.int .u8 0,.int .u8 0,.int .u8 0,.int .u8 0,.int .u8 0,.int .u8 0,.int .u8 0,.int .u8 0,.int .u8 0,.int .u8 0,.int .u8 0,.int .u8 0,.int .u8 0,.int .u8 0,.int .u8 0,.int .u8 0,.int .u8 0,.int .u8 0,.int .u8 0,.int .u8 0,.int .u8 0,.int .u8 0,.int .u8 0,.int .u8 0,.int .u8 0,.int .u8 0] 171)
  simpa using this
 refine⟨?_,setRow_heap _ _ _ _ _ _ hn,below_setRow b2 (by omega) _⟩
 rw[setRow_other _ _ _ _ (by omega),(aA (w:=w.alloc (.cells #[.int .i64 0,.int .i64 0,.int .i64 0,.int .i64 0,.slice none 0 0] 88)) _).block w.heap.size (by simp)]
 exact heap_alloc_new w _
theorem fE (w:World):((w.alloc (.cells #[.int .i64 0,.int .i64 0,.int .i64 0,.int .i64 0,.slice none 0 0] 88)).alloc (.cells #[.int .u8 0,.int .u8 0,.int .u8 0,.int .u8 0,.int .u8 0,.int .u8 0,.int .u8 0,.int .u8 0,.int .u8 0,.int .u8 0,.int .u8 0,.int .u8 0,.int .u8 0,.int .u8 0,.int .u8 0,.int .u8 0,.int .u8 0,.int .u8 0,.int .u8 0,.int .u8 0,.int .u8 0,.int .u8 0,.int .u8 0,.int .u8 0,.int .u8 0,.int .u8 0,.int .u8 0,.int .u8 0,.int .u8 0,.int .u8 0,.int .u8 0,.int .u8 0,.int .u8 0,.int .u8 0,.int .u8 0,.int .u8 0,.int .u8 0,.int .u8 0,.int .u8 0,.int .u8 0,.int .u8 0,.int .u8 0,.int .u8 0,.int .u8 0,.int .u8 0,.int .u8 0,.int .u8 0,.int .u8 0] 171)).heap[w.heap.size+1]? = some (.cells #[.int .u8 0,.int .u8 0,.int .u8 0,.int .u8 0,.int .u8 0,.int .u8 0,.int .u8 0,.int .u8 0,.int .u8 0,.int .u8 0,.int .u8 0,.int .u8 0,.int .u8 0,.int .u8 0,.int .u8 0,.int .u8 0,.int .u8 0,.int .u8 0,.int .u8 0,.int .u8 0,.int .u8 0,.int .u8 0,.int .u8 0,.int .u8 0,.int .u8 0,.int .u8 0,.int .u8 0,.int .u8 0,.int .u8 0,.int .u8 0,.int .u8 0,.int .u8 0,.int .u8 0,.int .u8 0,.int .u8 0,.int .u8 0,.int .u8 0,.int .u8 0,.int .u8 0,.int .u8 0,.int .u8 0,.int .u8 0,.int .u8 0,.int .u8 0,.int .u8 0,.int .u8 0,.int .u8 0,.int .u8 0] 171 (0,0)):=by
 have:=heap_alloc_new (w.alloc (.cells #[.int .i64 0,.int .i64 0,.int .i64 0,.int .i64 0,.slice none 0 0] 88)) (.cells #[.int .u8 0,.int .u8 0,.int .u8 0,.int .u8 0,.int .u8 0,.int .u8 0,.int .u8 0,.int .u8 0,.int .u8 0,.int .u8 0,.int .u8 0,.int .u8 0,.int .u8 0,.int .u8 0,.int .u8 0,.int .u8 0,.int .u8 0,.int .u8 0,.int .u8 0,.int .u8 0,.int .u8 0,.int .u8 0,.int .u8 0,.int .u8 0,.int .u8 0,.int .u8 0,.int .u8 0,.int .u8 0,.int .u8 0,.int .u8 0,.int .u8 0,.int .u8 0,.int .u8 0,.int .u8 0,.int .u8 0,.int .u8 0,.int .u8 0,.int .u8 0,.int .u8 0,.int .u8 0,.int .u8 0,.int .u8 0,.int .u8 0,.int .u8 0,.int .u8 0,.int .u8 0,.int .u8 0,.int .u8 0] 171)
 simpa using this
theorem nM (a:Option Addr) (cap:Nat) (l:List Nat) (w:World) (ht:Tab w) (hr:Row w a l) (hl:l.length<=cap) (hc:cap<=maxLen) (hl2:l.length<=1000000000000) (h48:l.length < 48) :
 Calls Tryz.prog 84 #[.slice a l.length cap] w fun e w'=>(OkB l->∃a' c',e=.returned (.tuple #[bav (bOf l) a' c',.int .i64 ((lenN l:Nat):Int),.int .i64 0])/\RRow w' a' (bOf l).rs/\(a'=none->c'=0)/\(∀g,a'=some g->w.heap.size<=g.block))/\(¬OkB l->e=.returned (.tuple #[bav bz none 0,.int .i64 0,.int .i64 10]))/\Below w.heap.size w w':=by
 have HNO:Hid (¬OkB l):=fun h=>by have:=h.l48;omega
 obtain⟨n,HN⟩:∃n,Hid (l.length=n):=⟨_,rfl⟩
 have hnI:(n:Int) < 48:=by have:=HN.out;omega
 rw[HN.out]
 obtain⟨PO,HPO⟩:∃PO:Ending->World->Prop,Hid (∀e w',(e=.returned (.tuple #[bav bz none 0,.int .i64 0,.int .i64 10])/\Below w.heap.size w w')->PO e w')/\Hid (PO=fun e w'=>(OkB l->∃a' c',e=.returned (.tuple #[bav (bOf l) a' c',.int .i64 ((lenN l:Nat):Int),.int .i64 0])/\RRow w' a' (bOf l).rs/\(a'=none->c'=0)/\(∀g,a'=some g->w.heap.size<=g.block))/\(¬OkB l->e=.returned (.tuple #[bav bz none 0,.int .i64 0,.int .i64 10]))/\Below w.heap.size w w'):=⟨_,fun e w' h=>⟨fun q=>absurd q HNO.out,fun _=>h.1,h.2⟩,rfl⟩
 rw[<-HPO.2.out]
 have HP1:=HPO.1
 clear HPO HNO hr
 have HZ:Hid ((w.alloc (.cells #[.int .i64 0,.int .i64 0,.int .i64 0,.int .i64 0,.slice none 0 0] 88)).heap[w.heap.size]? = some (.cells #[.int .i64 0,.int .i64 0,.int .i64 0,.int .i64 0,.slice none 0 0] 88 (0,0))):=heap_alloc_new w _
 go_enter Tryz.func84,Tryz.ntmps84
 go_wp2_with (have _t:=HZ;refine wpList_store_row rfl 88 _ _ rfl w.heap.size #[.int .i64 0,.int .i64 0,.int .i64 0,.int .i64 0,.slice none 0 0] rfl rfl 88 _ HZ.out Tryz.info88 rfl (aO _ _ _ _ _ _ _) ?_)
 refine bodyPost_ret (v:=.tuple #[.agg #[.int .i64 0,.int .i64 0,.int .i64 0,.int .i64 0,.slice none 0 0],.int .i64 0,.int .i64 10]) ?_ rfl (HP1.out _ _ ⟨rfl,below_setRow (aA _) (Nat.le_refl _) _⟩)
 exact aE (p:=2) (u:=3) (u2:=4) (by rfl) _ _ w.heap.size _ _ _ (by rfl) (by rfl) (by rfl) rfl (setRow_heap _ _ _ _ _ _ HZ.out)
theorem pO (a:Option Addr) (cap:Nat) (l:List Nat) (w:World) (ht:Tab w) (hr:Row w a l) (hl:l.length<=cap) (hc:cap<=maxLen) (hl2:l.length<=1000000000000) (h48:48<=l.length) (hsz:lenN l < 48∨l.length < lenN l∨6000 < lenN l) :
 Calls Tryz.prog 84 #[.slice a l.length cap] w fun e w'=>(OkB l->∃a' c',e=.returned (.tuple #[bav (bOf l) a' c',.int .i64 ((lenN l:Nat):Int),.int .i64 0])/\RRow w' a' (bOf l).rs/\(a'=none->c'=0)/\(∀g,a'=some g->w.heap.size<=g.block))/\(¬OkB l->e=.returned (.tuple #[bav bz none 0,.int .i64 0,.int .i64 10]))/\Below w.heap.size w w':=by
 have h0:0 < l.length:=by omega
 obtain⟨pb,poff,rfl,hc0,_⟩:=hr 0 h0
 have hpb:pb < w.heap.size:=by have:=World.block_lt_of_cell? _ _ hc0;simpa using this
 clear hc0
 have hmem:=bF (fun i=>hr.lt i)
 have hgl:=fun i n=>dK l i n (fun j=>hr.lt j)
 obtain⟨PO,HPO⟩:∃PO:Ending->World->Prop,Hid (PO=fun e w'=>(OkB l->∃a' c',e=.returned (.tuple #[bav (bOf l) a' c',.int .i64 ((lenN l:Nat):Int),.int .i64 0])/\RRow w' a' (bOf l).rs/\(a'=none->c'=0)/\(∀g,a'=some g->w.heap.size<=g.block))/\(¬OkB l->e=.returned (.tuple #[bav bz none 0,.int .i64 0,.int .i64 10]))/\Below w.heap.size w w'):=⟨_,rfl⟩
 have HPB:Hid (¬OkB l->∀e w',(e=.returned (.tuple #[.agg #[.int .i64 0,.int .i64 0,.int .i64 0,.int .i64 0,.slice none 0 0],.int .i64 0,.int .i64 10])/\Below w.heap.size w w')->PO e w'):=fun hn e w' h=>by rw[HPO.out];exact⟨fun q=>absurd q hn,fun _=>h.1,h.2⟩
 have HPG:Hid (OkB l->∀e w',(∃a' c',e=.returned (.tuple #[bav (bOf l) a' c',.int .i64 ((lenN l:Nat):Int),.int .i64 0])/\RRow w' a' (bOf l).rs/\(a'=none->c'=0)/\(∀g,a'=some g->w.heap.size<=g.block))->Below w.heap.size w w'->PO e w'):=fun hy e w' h hb=>by rw[HPO.out];exact⟨fun _=>h,fun q=>absurd hy q,hb⟩
 rw[<-HPO.out]
 clear HPO
 obtain⟨h,HHD⟩:∃h,Hid (l.take 48=h):=⟨_,rfl⟩
 have hh48:h.length=48:=by rw[<-HHD.out,List.length_take];omega
 have HRG:Hid (∀y,Below w.heap.size w y->y.rangeAt pb poff (cv h)):=fun y hb=>by rw[<-HHD.out];exact eQ (hr.below hb) 48
 have HCL:Hid ((cv h).length=48):=by show _=_;rw[aQ,hh48]
 have HSZ:Hid ((cv h).toArray.size=48):=bS HCL.out
 have HLD:Hid (∀y,DcS w h y->(loadVar 171 ⟨w.heap.size+1,0,none⟩).run Tryz.prog y=.ok (.agg (cv h).toArray) y):=fun y hy=>DcS.load hy HSZ.out
 have hhm:∀i,h.getD i 0 < 256:=by rw[<-HHD.out];exact cG (fun x hx=>hmem x (List.mem_of_mem_take hx))
 have num4:∀i:Nat,i+4<=48->∀x,Calls Tryz.prog 96 #[.agg (cv h).toArray,.int .i64 (i:Int),.int .i64 4] x fun e w'=>e=.returned (.int .i64 ((getV l i 4 true:Nat):Int))/\Below x.heap.size x w':=by
  intro i hi x
  have h2:=cA h i 4 x hh48 hhm (by decide) (by decide) hi
  rw[<-HHD.out,cC l i 4 48 hi,HHD.out] at h2
  have h3:=hgl i 4
  rw[w64 _ (by omega) (by omega)] at h2
  exact h2
 have num8:∀i:Nat,i+8<=48->∀x,Calls Tryz.prog 96 #[.agg (cv h).toArray,.int .i64 (i:Int),.int .i64 8] x fun e w'=>e=.returned (.int .i64 (wrap64 (getV l i 8 true)))/\Below x.heap.size x w':=by
  intro i hi x
  have h2:=cA h i 8 x hh48 hhm (by decide) (by decide) hi
  rw[<-HHD.out,cC l i 8 48 hi,HHD.out] at h2
  exact h2
 have HN0:Hid _:=num8 0 (by decide)
 have HN1:Hid _:=num4 8 (by decide)
 have HN2:Hid _:=num4 12 (by decide)
 have HN3:Hid _:=num8 16 (by decide)
 have HN4:Hid _:=num8 24 (by decide)
 have HN5:Hid _:=num4 32 (by decide)
 have HN6:Hid _:=num4 36 (by decide)
 have HN7:Hid _:=num8 40 (by decide)
 have hx1:=hgl 8 4
 have hx6:=hgl 36 4
 have hx2:=hgl 12 4
 have hLN:lenN l=12+getV l 8 4 true:=rfl
 have HOK:Hid (OkB l->48<=lenN l/\lenN l<=l.length/\lenN l<=6000/\P.sum ((l.take (lenN l)).drop 16)=getV l 12 4 true):=fun h=>⟨h.n48,h.nl,h.nm,h.sum⟩
 have HCT:Hid (cntOf l=getV l 36 4 true/\frsOf l=wrap64 (getV l 40 8 true)):=⟨rfl,rfl⟩
 have HBO:Hid (∀rs,recs (partOf l) (frsOf l) (cntOf l)=rs->bOf l=⟨wrap64 (getV l 0 8 true),getV l 32 4 true,wrap64 (getV l 16 8 true),wrap64 (getV l 24 8 true),rs⟩):=fun rs h=>by unfold bOf;rw[h]
 clear hgl num4 num8
 generalize getV l 0 8 true=X0 at *
 generalize getV l 8 4 true=X1 at *
 generalize hX2V:getV l 12 4 true=X2 at *
 have HX2V:Hid (getV l 12 4 true=X2):=hX2V
 clear hX2V
 generalize getV l 16 8 true=X3 at *
 generalize getV l 24 8 true=X4 at *
 generalize getV l 32 4 true=X5 at *
 generalize getV l 36 4 true=X6 at *
 generalize getV l 40 8 true=X7 at *
 generalize wrap64 (X0:Int)=B0 at *
 generalize wrap64 (X3:Int)=B3 at *
 generalize wrap64 (X4:Int)=B4 at *
 generalize wrap64 (X7:Int)=B7 at *
 obtain⟨NN,HNN⟩:∃NN,Hid (lenN l=NN):=⟨_,rfl⟩
 rw[HNN.out] at hLN HOK HPG hsz
 have hwN:IntKind.i64.wrap (12+(X1:Int))=(NN:Int):=by rw[IntKind.wrap_i64];omega
 have HNI:Hid ((12:Int)+(X1:Int)=(NN:Int)):=by show _=_;omega
 have HIC:Hid ((Tryz.prog.info? 171).map (·.size)=some (cv h).length):=by show _=_;rw[HCL.out];exact Tryz.info171
 have ks0:=fun y=>cF y ⟨pb,poff,none⟩ l.length cap (by omega)
 have ka:=fun y=>run_arrayAt y ⟨pb,poff,none⟩ cap
 have hlI:¬(l.length:Int) < 48:=by omega
 have tokA:=trivial
 have HROW:Hid (Row w (some ⟨pb,poff,none⟩) l):=hr
 have HT:Hid (Tab w):=ht
 clear hr ht hh48 hhm hLN
 by_cases g1:NN < 48
 ·have g1I:(NN:Int) < 48:=by omega
  have HNO:Hid (¬OkB l):=fun q=>by have:=(HOK.out q).1;omega
  as_aux_lemma=>
   go_enter Tryz.func84,Tryz.ntmps84
   go_wp2_with (first
    | (have _t:=tokA;refine wpList_load_mid rfl 171 _ rfl pb poff rfl (cv h) _ (HRG.out _ (aA _)) Tryz.underlying171 rfl (by rw[HCL.out];exact Tryz.info171) ?_)
    | (have _t:=tokA;refine wpList_store_row rfl 171 _ _ rfl (w.heap.size+1) (cv h).toArray rfl rfl 171 #[.int .u8 0,.int .u8 0,.int .u8 0,.int .u8 0,.int .u8 0,.int .u8 0,.int .u8 0,.int .u8 0,.int .u8 0,.int .u8 0,.int .u8 0,.int .u8 0,.int .u8 0,.int .u8 0,.int .u8 0,.int .u8 0,.int .u8 0,.int .u8 0,.int .u8 0,.int .u8 0,.int .u8 0,.int .u8 0,.int .u8 0,.int .u8 0,.int .u8 0,.int .u8 0,.int .u8 0,.int .u8 0,.int .u8 0,.int .u8 0,.int .u8 0,.int .u8 0,.int .u8 0,.int .u8 0,.int .u8 0,.int .u8 0,.int .u8 0,.int .u8 0,.int .u8 0,.int .u8 0,.int .u8 0,.int .u8 0,.int .u8 0,.int .u8 0,.int .u8 0,.int .u8 0,.int .u8 0,.int .u8 0] (fE w) (by rw[HSZ.out];exact Tryz.info171) (by rw[HSZ.out];rfl) (cH h) ?_;clear tokA _t;have HX:Hid (DcS w h (((w.alloc (.cells #[.int .i64 0,.int .i64 0,.int .i64 0,.int .i64 0,.slice none 0 0] 88)).alloc (.cells #[.int .u8 0,.int .u8 0,.int .u8 0,.int .u8 0,.int .u8 0,.int .u8 0,.int .u8 0,.int .u8 0,.int .u8 0,.int .u8 0,.int .u8 0,.int .u8 0,.int .u8 0,.int .u8 0,.int .u8 0,.int .u8 0,.int .u8 0,.int .u8 0,.int .u8 0,.int .u8 0,.int .u8 0,.int .u8 0,.int .u8 0,.int .u8 0,.int .u8 0,.int .u8 0,.int .u8 0,.int .u8 0,.int .u8 0,.int .u8 0,.int .u8 0,.int .u8 0,.int .u8 0,.int .u8 0,.int .u8 0,.int .u8 0,.int .u8 0,.int .u8 0,.int .u8 0,.int .u8 0,.int .u8 0,.int .u8 0,.int .u8 0,.int .u8 0,.int .u8 0,.int .u8 0,.int .u8 0,.int .u8 0] 171)).setRow (w.heap.size+1) (cv h).toArray)):=DcS.made w h;generalize ((w.alloc (.cells #[.int .i64 0,.int .i64 0,.int .i64 0,.int .i64 0,.slice none 0 0] 88)).alloc (.cells #[.int .u8 0,.int .u8 0,.int .u8 0,.int .u8 0,.int .u8 0,.int .u8 0,.int .u8 0,.int .u8 0,.int .u8 0,.int .u8 0,.int .u8 0,.int .u8 0,.int .u8 0,.int .u8 0,.int .u8 0,.int .u8 0,.int .u8 0,.int .u8 0,.int .u8 0,.int .u8 0,.int .u8 0,.int .u8 0,.int .u8 0,.int .u8 0,.int .u8 0,.int .u8 0,.int .u8 0,.int .u8 0,.int .u8 0,.int .u8 0,.int .u8 0,.int .u8 0,.int .u8 0,.int .u8 0,.int .u8 0,.int .u8 0,.int .u8 0,.int .u8 0,.int .u8 0,.int .u8 0,.int .u8 0,.int .u8 0,.int .u8 0,.int .u8 0,.int .u8 0,.int .u8 0,.int .u8 0,.int .u8 0] 171)).setRow (w.heap.size+1) (cv h).toArray=x0 at HX ⊢;have HX0:Hid (DcS w h x0):=HX;clear HX)
    | (have _t:=HX0;refine wpList_load_row rfl 171 _ rfl (w.heap.size+1) rfl 171 (cv h).toArray (0,0) _ HX0.out.arr Tryz.underlying171 rfl (by rw[HSZ.out];exact Tryz.info171) ?_)
    | (go_at_call 96;have _t:=HX0;refine(HN1.out _).mono ?_;rintro e x1 ⟨rfl,hb⟩;have HX1:Hid (DcS w h x1):=DcS.below HX0.out hb;clear hb HX0 _t)
    | (have _t:=HX1;refine wpList_store_row rfl 88 _ _ rfl w.heap.size #[.int .i64 0,.int .i64 0,.int .i64 0,.int .i64 0,.slice none 0 0] rfl rfl 88 _ HX1.out.res Tryz.info88 rfl (aO _ _ _ _ _ _ _) ?_))
   refine bodyPost_ret (v:=.tuple #[.agg #[.int .i64 0,.int .i64 0,.int .i64 0,.int .i64 0,.slice none 0 0],.int .i64 0,.int .i64 10]) ?_ rfl (HPB.out HNO.out _ _ ⟨rfl,below_setRow HX1.out.bel (Nat.le_refl _) _⟩)
   exact aE (p:=2) (u:=3) (u2:=4) (by rfl) _ _ w.heap.size _ _ _ (by rfl) (by rfl) (by rfl) rfl (setRow_heap _ _ _ _ _ _ HX1.out.res)
 have g1d:decide ((NN:Int) < 48)=false:=decide_eq_false (by omega)
 by_cases g2:l.length < NN
 ·have g2I:(l.length:Int) < (NN:Int):=by omega
  have HNO:Hid (¬OkB l):=fun q=>by have:=(HOK.out q).2.1;omega
  as_aux_lemma=>
   go_enter Tryz.func84,Tryz.ntmps84
   go_wp2_with (first
    | (have _t:=tokA;refine wpList_load_mid rfl 171 _ rfl pb poff rfl (cv h) _ (HRG.out _ (aA _)) Tryz.underlying171 rfl (by rw[HCL.out];exact Tryz.info171) ?_)
    | (have _t:=tokA;refine wpList_store_row rfl 171 _ _ rfl (w.heap.size+1) (cv h).toArray rfl rfl 171 #[.int .u8 0,.int .u8 0,.int .u8 0,.int .u8 0,.int .u8 0,.int .u8 0,.int .u8 0,.int .u8 0,.int .u8 0,.int .u8 0,.int .u8 0,.int .u8 0,.int .u8 0,.int .u8 0,.int .u8 0,.int .u8 0,.int .u8 0,.int .u8 0,.int .u8 0,.int .u8 0,.int .u8 0,.int .u8 0,.int .u8 0,.int .u8 0,.int .u8 0,.int .u8 0,.int .u8 0,.int .u8 0,.int .u8 0,.int .u8 0,.int .u8 0,.int .u8 0,.int .u8 0,.int .u8 0,.int .u8 0,.int .u8 0,.int .u8 0,.int .u8 0,.int .u8 0,.int .u8 0,.int .u8 0,.int .u8 0,.int .u8 0,.int .u8 0,.int .u8 0,.int .u8 0,.int .u8 0,.int .u8 0] (fE w) (by rw[HSZ.out];exact Tryz.info171) (by rw[HSZ.out];rfl) (cH h) ?_;clear tokA _t;have HX:Hid (DcS w h (((w.alloc (.cells #[.int .i64 0,.int .i64 0,.int .i64 0,.int .i64 0,.slice none 0 0] 88)).alloc (.cells #[.int .u8 0,.int .u8 0,.int .u8 0,.int .u8 0,.int .u8 0,.int .u8 0,.int .u8 0,.int .u8 0,.int .u8 0,.int .u8 0,.int .u8 0,.int .u8 0,.int .u8 0,.int .u8 0,.int .u8 0,.int .u8 0,.int .u8 0,.int .u8 0,.int .u8 0,.int .u8 0,.int .u8 0,.int .u8 0,.int .u8 0,.int .u8 0,.int .u8 0,.int .u8 0,.int .u8 0,.int .u8 0,.int .u8 0,.int .u8 0,.int .u8 0,.int .u8 0,.int .u8 0,.int .u8 0,.int .u8 0,.int .u8 0,.int .u8 0,.int .u8 0,.int .u8 0,.int .u8 0,.int .u8 0,.int .u8 0,.int .u8 0,.int .u8 0,.int .u8 0,.int .u8 0,.int .u8 0,.int .u8 0] 171)).setRow (w.heap.size+1) (cv h).toArray)):=DcS.made w h;generalize ((w.alloc (.cells #[.int .i64 0,.int .i64 0,.int .i64 0,.int .i64 0,.slice none 0 0] 88)).alloc (.cells #[.int .u8 0,.int .u8 0,.int .u8 0,.int .u8 0,.int .u8 0,.int .u8 0,.int .u8 0,.int .u8 0,.int .u8 0,.int .u8 0,.int .u8 0,.int .u8 0,.int .u8 0,.int .u8 0,.int .u8 0,.int .u8 0,.int .u8 0,.int .u8 0,.int .u8 0,.int .u8 0,.int .u8 0,.int .u8 0,.int .u8 0,.int .u8 0,.int .u8 0,.int .u8 0,.int .u8 0,.int .u8 0,.int .u8 0,.int .u8 0,.int .u8 0,.int .u8 0,.int .u8 0,.int .u8 0,.int .u8 0,.int .u8 0,.int .u8 0,.int .u8 0,.int .u8 0,.int .u8 0,.int .u8 0,.int .u8 0,.int .u8 0,.int .u8 0,.int .u8 0,.int .u8 0,.int .u8 0,.int .u8 0] 171)).setRow (w.heap.size+1) (cv h).toArray=x0 at HX ⊢;have HX0:Hid (DcS w h x0):=HX;clear HX)
    | (have _t:=HX0;refine wpList_load_row rfl 171 _ rfl (w.heap.size+1) rfl 171 (cv h).toArray (0,0) _ HX0.out.arr Tryz.underlying171 rfl (by rw[HSZ.out];exact Tryz.info171) ?_)
    | (go_at_call 96;have _t:=HX0;refine(HN1.out _).mono ?_;rintro e x1 ⟨rfl,hb⟩;have HX1:Hid (DcS w h x1):=DcS.below HX0.out hb;clear hb HX0 _t)
    | (have _t:=HX1;refine wpList_store_row rfl 88 _ _ rfl w.heap.size #[.int .i64 0,.int .i64 0,.int .i64 0,.int .i64 0,.slice none 0 0] rfl rfl 88 _ HX1.out.res Tryz.info88 rfl (aO _ _ _ _ _ _ _) ?_))
   refine bodyPost_ret (v:=.tuple #[.agg #[.int .i64 0,.int .i64 0,.int .i64 0,.int .i64 0,.slice none 0 0],.int .i64 0,.int .i64 10]) ?_ rfl (HPB.out HNO.out _ _ ⟨rfl,below_setRow HX1.out.bel (Nat.le_refl _) _⟩)
   exact aE (p:=2) (u:=3) (u2:=4) (by rfl) _ _ w.heap.size _ _ _ (by rfl) (by rfl) (by rfl) rfl (setRow_heap _ _ _ _ _ _ HX1.out.res)
 have g2d:decide ((l.length:Int) < (NN:Int))=false:=decide_eq_false (by omega)
 by_cases g3:6000 < NN
 ·have g3I:(6000:Int) < (NN:Int):=by omega
  have HNO:Hid (¬OkB l):=fun q=>by have:=(HOK.out q).2.2.1;omega
  as_aux_lemma=>
   go_enter Tryz.func84,Tryz.ntmps84
   go_wp2_with (first
    | (have _t:=tokA;refine wpList_load_mid rfl 171 _ rfl pb poff rfl (cv h) _ (HRG.out _ (aA _)) Tryz.underlying171 rfl (by rw[HCL.out];exact Tryz.info171) ?_)
    | (have _t:=tokA;refine wpList_store_row rfl 171 _ _ rfl (w.heap.size+1) (cv h).toArray rfl rfl 171 #[.int .u8 0,.int .u8 0,.int .u8 0,.int .u8 0,.int .u8 0,.int .u8 0,.int .u8 0,.int .u8 0,.int .u8 0,.int .u8 0,.int .u8 0,.int .u8 0,.int .u8 0,.int .u8 0,.int .u8 0,.int .u8 0,.int .u8 0,.int .u8 0,.int .u8 0,.int .u8 0,.int .u8 0,.int .u8 0,.int .u8 0,.int .u8 0,.int .u8 0,.int .u8 0,.int .u8 0,.int .u8 0,.int .u8 0,.int .u8 0,.int .u8 0,.int .u8 0,.int .u8 0,.int .u8 0,.int .u8 0,.int .u8 0,.int .u8 0,.int .u8 0,.int .u8 0,.int .u8 0,.int .u8 0,.int .u8 0,.int .u8 0,.int .u8 0,.int .u8 0,.int .u8 0,.int .u8 0,.int .u8 0] (fE w) (by rw[HSZ.out];exact Tryz.info171) (by rw[HSZ.out];rfl) (cH h) ?_;clear tokA _t;have HX:Hid (DcS w h (((w.alloc (.cells #[.int .i64 0,.int .i64 0,.int .i64 0,.int .i64 0,.slice none 0 0] 88)).alloc (.cells #[.int .u8 0,.int .u8 0,.int .u8 0,.int .u8 0,.int .u8 0,.int .u8 0,.int .u8 0,.int .u8 0,.int .u8 0,.int .u8 0,.int .u8 0,.int .u8 0,.int .u8 0,.int .u8 0,.int .u8 0,.int .u8 0,.int .u8 0,.int .u8 0,.int .u8 0,.int .u8 0,.int .u8 0,.int .u8 0,.int .u8 0,.int .u8 0,.int .u8 0,.int .u8 0,.int .u8 0,.int .u8 0,.int .u8 0,.int .u8 0,.int .u8 0,.int .u8 0,.int .u8 0,.int .u8 0,.int .u8 0,.int .u8 0,.int .u8 0,.int .u8 0,.int .u8 0,.int .u8 0,.int .u8 0,.int .u8 0,.int .u8 0,.int .u8 0,.int .u8 0,.int .u8 0,.int .u8 0,.int .u8 0] 171)).setRow (w.heap.size+1) (cv h).toArray)):=DcS.made w h;generalize ((w.alloc (.cells #[.int .i64 0,.int .i64 0,.int .i64 0,.int .i64 0,.slice none 0 0] 88)).alloc (.cells #[.int .u8 0,.int .u8 0,.int .u8 0,.int .u8 0,.int .u8 0,.int .u8 0,.int .u8 0,.int .u8 0,.int .u8 0,.int .u8 0,.int .u8 0,.int .u8 0,.int .u8 0,.int .u8 0,.int .u8 0,.int .u8 0,.int .u8 0,.int .u8 0,.int .u8 0,.int .u8 0,.int .u8 0,.int .u8 0,.int .u8 0,.int .u8 0,.int .u8 0,.int .u8 0,.int .u8 0,.int .u8 0,.int .u8 0,.int .u8 0,.int .u8 0,.int .u8 0,.int .u8 0,.int .u8 0,.int .u8 0,.int .u8 0,.int .u8 0,.int .u8 0,.int .u8 0,.int .u8 0,.int .u8 0,.int .u8 0,.int .u8 0,.int .u8 0,.int .u8 0,.int .u8 0,.int .u8 0,.int .u8 0] 171)).setRow (w.heap.size+1) (cv h).toArray=x0 at HX ⊢;have HX0:Hid (DcS w h x0):=HX;clear HX)
    | (have _t:=HX0;refine wpList_load_row rfl 171 _ rfl (w.heap.size+1) rfl 171 (cv h).toArray (0,0) _ HX0.out.arr Tryz.underlying171 rfl (by rw[HSZ.out];exact Tryz.info171) ?_)
    | (go_at_call 96;have _t:=HX0;refine(HN1.out _).mono ?_;rintro e x1 ⟨rfl,hb⟩;have HX1:Hid (DcS w h x1):=DcS.below HX0.out hb;clear hb HX0 _t)
    | (have _t:=HX1;refine wpList_store_row rfl 88 _ _ rfl w.heap.size #[.int .i64 0,.int .i64 0,.int .i64 0,.int .i64 0,.slice none 0 0] rfl rfl 88 _ HX1.out.res Tryz.info88 rfl (aO _ _ _ _ _ _ _) ?_))
   refine bodyPost_ret (v:=.tuple #[.agg #[.int .i64 0,.int .i64 0,.int .i64 0,.int .i64 0,.slice none 0 0],.int .i64 0,.int .i64 10]) ?_ rfl (HPB.out HNO.out _ _ ⟨rfl,below_setRow HX1.out.bel (Nat.le_refl _) _⟩)
   exact aE (p:=2) (u:=3) (u2:=4) (by rfl) _ _ w.heap.size _ _ _ (by rfl) (by rfl) (by rfl) rfl (setRow_heap _ _ _ _ _ _ HX1.out.res)
 exact absurd hsz (by omega)
end Go.Proofs.YtaooidckmepdeaaGreatDoor
