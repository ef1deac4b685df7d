/- Dg Dh Dj Dl Pc -/
import Derived.Test.YtaooidckmepdeaaGreatDoorSkj
import Derived.Laws.AppendOwn
import Derived.Deep.CutRange
namespace Go.Proofs.YtaooidckmepdeaaGreatDoor
set_option linter.unusedSimpArgs false
set_option linter.unusedVariables false
set_option maxRecDepth 100000
set_option maxHeartbeats 6400000
open Go.RowKit
structure RputAt (l:List Nat) (p size:Nat) (big:Bool) (V k:Nat) (cur:List Nat):Prop where
 len:cur.length=l.length
 at':∀i,i < l.length->cur.getD i 0=if p<=i/\i < p+k then V / 256 ^ plc size big (i - p) % 256 else l.getD i 0
theorem RputAt.step {l:List Nat} {p size:Nat} {big:Bool} {V k:Nat} {cur:List Nat} (h:RputAt l p size big V k cur) (hk:k < size) (hp:p+size<=l.length) :
 RputAt l p size big V (k+1) (cur.set (p+k) (V / 256 ^ plc size big k % 256)):=by
 refine⟨by simp[h.len],fun i hi=>?_⟩
 rw[nC _ _ _ _ (by rw[h.len];exact hi),h.at' i hi]
 by_cases e:p+k=i
 ·subst e
  rw[if_pos rfl,Nat.add_sub_cancel_left,if_pos (by omega)]
 ·rw[if_neg e]
  by_cases hin:p<=i/\i < p+k
  ·rw[if_pos hin,if_pos (by omega)]
  ·rw[if_neg hin,if_neg (by omega)]
theorem RputAt.done {l:List Nat} {p size:Nat} {big:Bool} {V:Nat} {cur:List Nat} (h:RputAt l p size big V size cur):cur=putL l p size big V:=by
 apply gQ (by rw[h.len,cT])
 intro i hi
 rw[h.len] at hi
 rw[h.at' i hi,iD _ _ _ _ _ _ hi]
theorem zD (a:Option Addr) (cap:Nat) (l:List Nat) (p size:Nat) (big:Bool) (V:Nat) (w:World) (hr:Row w a l) (hl:l.length<=100000) (h1:1<=size) (h2:size<=8) (h3:p+size<=l.length) (hV:V<=18446744073709551615) :
 Calls Tryz.prog 100 #[.slice a l.length cap,.int .i64 p,.int .i64 size,.bool big,.int .u64 V] w fun e w'=>
  (∃g cap',e=.returned (.tuple #[.slice (some ⟨g,0,none⟩) l.length cap',.bool true])/\Own w.heap.size w' g cap' (putL l p size big V))/\Below w.heap.size w w':=by
 obtain⟨i0,hi,hz0,hz1,hz2⟩:=info_parts Tryz.info5
 have hnil:=World.ownsRow_nil w w.heap.size 5 1
 obtain⟨ad,rfl⟩:∃ad,a=some ad:=by obtain⟨b,off,e,_⟩:=hr 0 (by omega);exact⟨_,e⟩
 have hln:(cv l).length=l.length * 1:=by rw[aQ];omega
 have hnw:=iB hr
 have x1:0+l.length<=maxLen:=by unfold maxLen;omega
 have x2:(0+l.length) * 1<=140737488355328:=by omega
 have hpos:0 < l.length:=by omega
 go_enter Tryz.func100,Tryz.ntmps100
 go_wp2_with (first
  | (go_at_call 40;refine(aZ _ _ _ _ _ _ _ hr (by omega) h1 h2 h3).mono ?_;rintro e w' ⟨rfl,rfl⟩)
  | (at_builtin;refine wpList_append_own _ rfl (.tmp 27) (.tmp 28) 22 rfl _ 5 i0 (.int .u8 0) 1 1 Tryz.underlying22 hi hz0 hz1 hz2 rfl (by decide) (.slice none 0 0) 0 [] rfl hnil ad l.length cap (cv l) rfl hln hnw (eF _) x1 x2 (Nat.le_refl _) ?_;intro v1 w1 hown1 hg1 hz;have hb1:=aBu hnil (Below.refl _ _) (Nat.le_refl _) hg1;rw[Nat.zero_add,List.nil_append] at hown1;obtain⟨g,cap',rfl,hown⟩:=kV hown1 hpos;clear hnil hz hg1 hown1 hnw hln))
 go_loopw [15] (fun i wr=>∃(k:Nat) (cur:List Nat),k<=size/\i=.int .i64 k/\RputAt l p size big V k cur/\Own _ wr g cap' cur/\Below _ _ wr) (fun i _=>size - (intOf i).toNat)
 case atStart=>exact⟨0,l,by omega,rfl,⟨rfl,fun i hi=>by rw[if_neg (by omega)]⟩,hown,hb1⟩
 case round=>
  obtain⟨k,cur,hk,rfl,hat,hown,hbel⟩:=hrel
  clear hr
  by_cases hlt:k < size
  ·have HN:Hid (RputAt l p size big V (k+1) (cur.set (p+k) (V / 256 ^ plc size big k % 256))):=hat.step hlt h3
   have hcell:=hown.cell (p+k) (by rw[hat.len];omega)
   have hfree:=hown.free (p+k)
   have hge:=hown.ge
   have hby:=byte_at V (plc size big k)
   have hltq:((p:Int)+k) < (l.length:Int):=by omega
   generalize V / 256 ^ plc size big k % 256=d at *
   generalize cur.getD (p+k) 0=c0 at *
   clear hat
   cases big
   ·have hby2:(V:Int) / 2 ^ (8 * k) % 256=(d:Int):=hby
    clear hby
    go_wp2
    exact⟨⟨k+1,cur.set (p+k) d,by omega,by go_num,HN.out,hown.store _ _,hbel.setCell hge.1 _⟩,by simp[intOf];omega⟩
   ·obtain⟨q,hq⟩:=Int.eq_ofNat_of_zero_le (show 0<=(size:Int) - 1 - (k:Int) by omega)
    have hby2:(V:Int) / 2 ^ (8 * q) % 256=(d:Int):=by
     rw[<-hby]
     have:plc size true k=q:=by simp only[plc,if_true];omega
     rw[this]
    have hq8:q < 8:=by omega
    clear hby
    go_wp2
    exact⟨⟨k+1,cur.set (p+k) d,by omega,by go_num,HN.out,hown.store _ _,hbel.setCell hge.1 _⟩,by simp[intOf];omega⟩
  ·obtain rfl:k=size:=by omega
   have HD:Hid (cur=putL l p k big V):=hat.done
   have HLn:Hid (cur.length=l.length):=hat.len
   clear hat
   go_wp2
   go_ret2
   exact⟨⟨g,_,rfl,by rw[<-HD.out];exact hown⟩,hbel⟩
def DecP (l:List Nat) (w:World) (e:Ending) (w':World):Prop:=DecQ (OkB l) (bOf l).base (bOf l).span (bOf l).prod (bOf l).seq (bOf l).rs (lenN l) w e w'
theorem rS {l:List Nat} (h2:lenN l<=l.length):(partOf l).length=lenN l - 48:=by
 unfold partOf
 rw[List.length_drop,List.length_take]
 omega
theorem wL (l:List Nat) (k:Nat):(l.take (lenN l)).drop (48+k)=(partOf l).drop k:=by
 unfold partOf
 rw[List.drop_drop]
theorem aFv {l:List Nat} (hq:Ql l) (h48:48<=l.length):48<=lenN l/\lenN l<=l.length/\lenN l<=6012:=by
 have hN:lenN l=12+getV l 8 4 true:=rfl
 have hs1:=hq.s1
 have hs2:=hq.s2
 have hs3:=hq.s3
 clear hq
 rw[hN]
 clear hN
 generalize getV l 8 4 true=X at *
 omega
theorem zA (pb poff cap:Nat) (l:List Nat) (Nn:Nat) (f:Int) (eN:lenN l=Nn) (hpm:∀x,x ∈ partOf l->x < 256) (h48:48<=Nn) (hNl:Nn<=l.length) (hN6:Nn<=6012) (hl:l.length<=cap) (hc:cap<=maxLen) (k:Nat) (hal:AllOk (partOf l) f k) (y:World) (hy:Row y (some ⟨pb,poff,none⟩) l) :
 Calls Tryz.prog 65 #[.slice (cutA (some ⟨pb,poff,none⟩) cap (48+pos (partOf l) f k)) (Nn - (48+pos (partOf l) f k)) (cap - (48+pos (partOf l) f k)),.int .i64 f] y fun e w'=>e=.returned (.tuple #[.agg (decR (rest (partOf l) f k) f).cells,.int .i64 ((decN (rest (partOf l) f k) f:Nat):Int),.int .i64 (decE (rest (partOf l) f k) f)])/\Below y.heap.size y w':=by
 have hpl:(partOf l).length=Nn - 48:=by rw[rS (by rw[eN];exact hNl),eN]
 obtain⟨hd,hpo⟩:=oL hpm k hal
 have hrow:=dG cap (48+pos (partOf l) f k) (gP (lenN l) hy) (by rw[List.length_take,eN];omega)
 rw[wL,<-hd] at hrow
 have hlen:(rest (partOf l) f k).length=Nn - (48+pos (partOf l) f k):=by rw[hd,List.length_drop,hpl];omega
 have h5:=rM _ (cap - (48+pos (partOf l) f k)) _ f y hrow (by omega) (by omega) (by omega)
 rw[hlen] at h5
 exact h5
theorem aF4 {l:List Nat} {f:Int} {k:Nat} {Nn:Nat} (eN:lenN l=Nn) (hpm:∀x,x ∈ partOf l->x < 256) (h48:48<=Nn) (hNl:Nn<=l.length) (hal:AllOk (partOf l) f k):48+pos (partOf l) f k<=Nn/\(rest (partOf l) f k=[]->48+pos (partOf l) f k=Nn):=by
 have hpl:(partOf l).length=Nn - 48:=by rw[rS (by rw[eN];exact hNl),eN]
 obtain⟨hd,hpo⟩:=oL hpm k hal
 refine⟨by omega,fun h=>?_⟩
 rw[hd] at h
 have h3:=List.drop_eq_nil_iff.1 h
 omega
theorem aAi (pb poff cap:Nat) (l:List Nat) (w:World) (ht:Tab w) (hr:Row w (some ⟨pb,poff,none⟩) l) (hl:l.length<=cap) (hc:cap<=maxLen) (hl2:l.length<=40000) (h48:48<=l.length) (hq:Ql l) :
 Calls Tryz.prog 43 #[.slice (some ⟨pb,poff,none⟩) l.length cap] w fun e w'=>DecP l w e w':=by
 obtain⟨eb,ef⟩:=aIn hq
 have hmem:∀x,x ∈ l->x < 256:=bF hr.lt
 have hpm:∀x,x ∈ partOf l->x < 256:=fun x hx=>hmem x (List.mem_of_mem_take (List.mem_of_mem_drop hx))
 obtain⟨hN48,hNl,hN6⟩:=aFv hq h48
 have hin:In64B (bOf l):=⟨(aC0 (wrap64_wf _)).2,(aC0 (wrap64_wf _)).2⟩
 have hrl:(bOf l).rs.length<=maxLen:=Nat.le_trans (Nat.le_of_eq (cW _ _ _)) (Nat.le_trans hq.c2 (by decide))
 have hEB:∀i,(encBR (bOf l)).getD i 0 < 256:=by
  unfold encBR
  split
  ·rename_i h;exact cG (fP (dD h).1)
  ·intro i;simp
 obtain⟨F,HF⟩:∃F:Int,Hid (((getV l 40 8 true:Nat):Int)=F):=⟨_,rfl⟩
 have hcall:=fun k hal y hy=>zA pb poff cap l (lenN l) ((getV l 40 8 true:Nat):Int) rfl hpm hN48 hNl hN6 hl hc k hal y hy
 have hpos:=fun k hal=>aF4 (l:=l) (f:=((getV l 40 8 true:Nat):Int)) (k:=k) rfl hpm hN48 hNl hal
 unfold DecP
 have key:=aFh pb poff cap l w hr hl hc hl2 h48 (OkB l) (getV l 0 8 true) (getV l 8 4 true) (getV l 16 8 true) (getV l 24 8 true) (getV l 32 4 true) (getV l 36 4 true) (getV l 40 8 true) (lenN l)
  (fun k=>recs (partOf l) (getV l 40 8 true:Nat) k) (fun k=>48+pos (partOf l) (getV l 40 8 true:Nat) k) (fun _=>[]) (fun k=>rcOf (rest (partOf l) (getV l 40 8 true:Nat) k) (getV l 40 8 true:Nat)) (fun k=>decN (rest (partOf l) (getV l 40 8 true:Nat) k) (getV l 40 8 true:Nat)) (encBR (bOf l)) (chkB (bOf l))
  (fun y hy=>aZ (some ⟨pb,poff,none⟩) cap l 0 8 true y hy (by omega) (by decide) (by decide) (by omega))
  (fun y hy=>aZ (some ⟨pb,poff,none⟩) cap l 8 4 true y hy (by omega) (by decide) (by decide) (by omega))
  (fun y hy=>aZ (some ⟨pb,poff,none⟩) cap l 16 8 true y hy (by omega) (by decide) (by decide) (by omega))
  (fun y hy=>aZ (some ⟨pb,poff,none⟩) cap l 24 8 true y hy (by omega) (by decide) (by decide) (by omega))
  (fun y hy=>aZ (some ⟨pb,poff,none⟩) cap l 32 4 true y hy (by omega) (by decide) (by decide) (by omega))
  (fun y hy=>aZ (some ⟨pb,poff,none⟩) cap l 36 4 true y hy (by omega) (by decide) (by decide) (by omega))
  (fun y hy=>aZ (some ⟨pb,poff,none⟩) cap l 40 8 true y hy (by omega) (by decide) (by decide) (by omega))
  hq.s1 hq.s2 hq.s3 hq.bs hq.pr hq.sq hq.sp hq.c1 hq.c2 hq.fi rfl rfl rfl (fun k=>cW _ _ _)
  (fun k=>okD (rest (partOf l) (getV l 40 8 true:Nat) k) (getV l 40 8 true:Nat)=true) (fun k=>AllOk (partOf l) (getV l 40 8 true:Nat) k) (fun j hj=>by omega)
  (fun k _ hal=>(hpos k hal).1)
  (fun k hk hal hok=>⟨zE hal hok,(congrArg (48 + ·) (zM hpm k hok)).trans (Nat.add_assoc _ _ _).symm,gF _ _ _,fun y hy=>by
   have h1:=hcall k hal y hy
   unfold decR decE at h1
   rw[if_pos hok,if_pos hok] at h1
   exact h1⟩)
  (fun k hk hal hok=>⟨fun h=>hok (by have h1:=h.all k hk;rw[ef] at h1;exact h1),fun y hy=>by
   have h1:=hcall k hal y hy
   unfold decR decE decN at h1
   rw[if_neg hok,if_neg hok,if_neg hok] at h1
   exact h1⟩)
  (fun x a' c' h1 h2=>by
   have h3:=jW (bOf l) a' c' hin hrl x h1 (by rw[eb];exact h2)
   rw[show bav (bOf l) a' c'=.agg #[.int .i64 ((getV l 0 8 true:Nat):Int),.int .i64 ((getV l 32 4 true:Nat):Int),.int .i64 ((getV l 16 8 true:Nat):Int),.int .i64 ((getV l 24 8 true:Nat):Int),.slice a' (getV l 36 4 true) c'] by rw[eb];simp only[bav,cW]] at h3
   exact h3)
  hEB (fun h hok=>h (lW hmem hok).2.1)
  (fun hal h hok=>h (by
   have h1:=hok.fin
   rw[ef] at h1
   exact(hpos _ hal).2 h1))
  (fun h hok=>h (by have h1:=lW hmem hok;unfold encBR;rw[if_pos h1.2.1];exact h1.1.symm))
  (fun h hck=>aFa hmem hck (by unfold encBR at h;rw[if_pos hck] at h;exact h)) ht
 have e0:(bOf l).base=((getV l 0 8 true:Nat):Int):=by rw[eb]
 have e1:(bOf l).span=((getV l 32 4 true:Nat):Int):=by rw[eb]
 have e2:(bOf l).prod=((getV l 16 8 true:Nat):Int):=by rw[eb]
 have e3:(bOf l).seq=((getV l 24 8 true:Nat):Int):=by rw[eb]
 have e4:(bOf l).rs=recs (partOf l) (getV l 40 8 true:Nat) (getV l 36 4 true):=by rw[eb]
 rw[e0,e1,e2,e3,e4]
 exact key
theorem nP (a:Option Addr) (cap n:Nat) (w:World) (hn:n < 48) :
 Calls Tryz.prog 43 #[.slice a n cap] w fun e w'=>e=.returned (.tuple #[.agg #[.int .i64 0,.int .i64 0,.int .i64 0,.int .i64 0,.slice none 0 0],.int .i64 0,.int .i64 10])/\Below w.heap.size w w':=by
 have hnI:(n:Int) < 48:=by omega
 have hnd:decide ((n:Int) < 48)=true:=decide_eq_true hnI
 have HT:Hid (Below w.heap.size w ((w.alloc (.cells #[.int .i64 0,.int .i64 0,.int .i64 0,.int .i64 0,.slice none 0 0] 88)).alloc (.cells #[.int .i64 0,.int .i64 0,.int .i64 0,.int .i64 0,.slice none 0 0] 88))/\((w.alloc (.cells #[.int .i64 0,.int .i64 0,.int .i64 0,.int .i64 0,.slice none 0 0] 88)).alloc (.cells #[.int .i64 0,.int .i64 0,.int .i64 0,.int .i64 0,.slice none 0 0] 88)).heap[w.heap.size]? = some (.cells #[.int .i64 0,.int .i64 0,.int .i64 0,.int .i64 0,.slice none 0 0] 88 (0,0))):=by
  refine⟨(aA _).trans ((aA _).mono (by simp)),?_⟩
  rw[(aA (w:=w.alloc (.cells #[.int .i64 0,.int .i64 0,.int .i64 0,.int .i64 0,.slice none 0 0] 88)) _).block w.heap.size (by simp)]
  exact heap_alloc_new w _
 go_enter Tryz.func43,Tryz.ntmps43
 go_wp2_with (have _t:=hnI;refine wpList_store_row rfl 88 _ _ rfl w.heap.size #[.int .i64 0,.int .i64 0,.int .i64 0,.int .i64 0,.slice none 0 0] rfl rfl 88 _ HT.out.2 Tryz.info88 rfl (aO _ _ _ _ _ _ _) ?_)
 refine bodyPost_ret (v:=.tuple #[.agg #[.int .i64 0,.int .i64 0,.int .i64 0,.int .i64 0,.slice none 0 0],.int .i64 0,.int .i64 10]) ?_ rfl ⟨rfl,?_⟩
 ·exact aE (p:=2) (u:=3) (u2:=4) (by rfl) _ _ w.heap.size _ _ _ (by rfl) (by rfl) (by rfl) rfl (setRow_heap _ _ _ _ _ _ HT.out.2)
 ·exact below_setRow HT.out.1 (Nat.le_refl _) _
theorem cM {x:World} {R:Nat} {a:Option Addr} {rs:List Rc} {cs:Array Value} (hg:x.heap[R]? = some (.cells #[.int .i64 0,.int .i64 0,.int .i64 0,.int .i64 0,.slice none 0 0] 88 (0,0))) (hr:RRow x a rs):RRow (x.setRow R cs) a rs:=by
 intro i hi
 obtain⟨g,off,e,h0,h1,h2,h3,h4,h5⟩:=hr i hi
 have hne:g≠R:=by
  intro c
  subst c
  rw[cell_of_row x _ _ _ 88 (0,0) hg] at h0
  generalize off+i * 6=k at h0
  match k with
  | 0=>simp at h0
  | 1=>simp at h0
  | 2=>simp at h0
  | 3=>simp at h0
  | 4=>simp at h0
  | k+5=>simp at h0
 exact⟨g,off,e,(aJ hne).trans h0,(aJ hne).trans h1,(aJ hne).trans h2,(aJ hne).trans h3,(aJ hne).trans h4,(aJ hne).trans h5⟩
theorem pA (pb poff cap:Nat) (l:List Nat) (w:World) (hr:Row w (some ⟨pb,poff,none⟩) l) (hl2:l.length<=40000) (h48:48<=l.length) (ht:Tab w)
 (V0 V1 V2 V3 V4 V5 V6:Nat) (x0 x1 x2 x3 M E:Int) (RS:List Rc) (T:Option Addr->Nat->Prop)
 (HG0:Hid (∀y,Row y (some ⟨pb,poff,none⟩) l->Calls Tryz.prog 40 #[.slice (some ⟨pb,poff,none⟩) l.length cap,.int .i64 0,.int .i64 8,.bool true] y fun e w'=>e=.returned (.tuple #[.int .u64 (V0:Int),.bool true])/\w'=y))
 (HG1:Hid (∀y,Row y (some ⟨pb,poff,none⟩) l->Calls Tryz.prog 40 #[.slice (some ⟨pb,poff,none⟩) l.length cap,.int .i64 8,.int .i64 4,.bool true] y fun e w'=>e=.returned (.tuple #[.int .u64 (V1:Int),.bool true])/\w'=y))
 (HG2:Hid (∀y,Row y (some ⟨pb,poff,none⟩) l->Calls Tryz.prog 40 #[.slice (some ⟨pb,poff,none⟩) l.length cap,.int .i64 16,.int .i64 8,.bool true] y fun e w'=>e=.returned (.tuple #[.int .u64 (V2:Int),.bool true])/\w'=y))
 (HG3:Hid (∀y,Row y (some ⟨pb,poff,none⟩) l->Calls Tryz.prog 40 #[.slice (some ⟨pb,poff,none⟩) l.length cap,.int .i64 24,.int .i64 8,.bool true] y fun e w'=>e=.returned (.tuple #[.int .u64 (V3:Int),.bool true])/\w'=y))
 (HG4:Hid (∀y,Row y (some ⟨pb,poff,none⟩) l->Calls Tryz.prog 40 #[.slice (some ⟨pb,poff,none⟩) l.length cap,.int .i64 32,.int .i64 4,.bool true] y fun e w'=>e=.returned (.tuple #[.int .u64 (V4:Int),.bool true])/\w'=y))
 (HG5:Hid (∀y,Row y (some ⟨pb,poff,none⟩) l->Calls Tryz.prog 40 #[.slice (some ⟨pb,poff,none⟩) l.length cap,.int .i64 36,.int .i64 4,.bool true] y fun e w'=>e=.returned (.tuple #[.int .u64 (V5:Int),.bool true])/\w'=y))
 (HG6:Hid (∀y,Row y (some ⟨pb,poff,none⟩) l->Calls Tryz.prog 40 #[.slice (some ⟨pb,poff,none⟩) l.length cap,.int .i64 40,.int .i64 8,.bool true] y fun e w'=>e=.returned (.tuple #[.int .u64 (V6:Int),.bool true])/\w'=y))
 (HH:Hid (∀y,Tab y->Row y (some ⟨pb,poff,none⟩) l->w.heap.size<=y.heap.size->Calls Tryz.prog 64 #[.slice (some ⟨pb,poff,none⟩) l.length cap,.int .u64 (V0:Int),.int .u64 (V1:Int),.int .u64 (V2:Int),.int .u64 (V3:Int)] y fun e w'=>∃a' c',e=.returned (.tuple #[.agg #[.int .i64 x0,.int .i64 x1,.int .i64 x2,.int .i64 x3,.slice a' RS.length c'],.int .i64 M,.int .i64 E])/\RRow w' a' RS/\T a' c'/\Below y.heap.size y w'))
 (hno:¬(36<=V1/\V1<=l.length - 12/\V1<=6000/\V0<=1125899906842624/\V2<=4611686018427387904/\V3<=4611686018427387904/\V4<=100/\1<=V5/\V5<=100/\V6<=1125899906842624)) :
 Calls Tryz.prog 43 #[.slice (some ⟨pb,poff,none⟩) l.length cap] w fun e w'=>∃a' c',e=.returned (.tuple #[.agg #[.int .i64 x0,.int .i64 x1,.int .i64 x2,.int .i64 x3,.slice a' RS.length c'],.int .i64 M,.int .i64 E])/\RRow w' a' RS/\T a' c'/\Below w.heap.size w w':=by
 have HROW:Hid (Row w (some ⟨pb,poff,none⟩) l):=hr
 have HT:Hid (Tab w):=ht
 have HW2:Hid (∀o1 o2,Below w.heap.size w ((w.alloc o1).alloc o2)):=fun o1 o2=>(aA o1).trans ((aA o2).mono (by simp))
 have HW3:Hid (∀o2 y,Below ((w.alloc (.cells #[.int .i64 0,.int .i64 0,.int .i64 0,.int .i64 0,.slice none 0 0] 88)).alloc o2).heap.size ((w.alloc (.cells #[.int .i64 0,.int .i64 0,.int .i64 0,.int .i64 0,.slice none 0 0] 88)).alloc o2) y->y.heap[w.heap.size]? = some (.cells #[.int .i64 0,.int .i64 0,.int .i64 0,.int .i64 0,.slice none 0 0] 88 (0,0))/\Below w.heap.size w y):=by
  intro o2 y hb
  refine⟨?_,(HW2.out _ _).trans (hb.mono (by simp;omega))⟩
  rw[hb.block w.heap.size (by simp;omega),(aA (w:=w.alloc (.cells #[.int .i64 0,.int .i64 0,.int .i64 0,.int .i64 0,.slice none 0 0] 88)) _).block w.heap.size (by simp)]
  exact heap_alloc_new w _
 obtain⟨Zn,HZ⟩:∃Zn:Nat,Hid (l.length - 12=Zn):=⟨_,rfl⟩
 rw[HZ.out] at hno
 have z1:IntKind.i64.wrap ((l.length:Int) - 12)=(Zn:Int):=by have:=HZ.out;rw[IntKind.wrap_i64];omega
 have z2:IntKind.u64.wrap (Zn:Int)=(Zn:Int):=by have:=HZ.out;rw[IntKind.wrap_u64];omega
 have hl48:¬(l.length:Int) < 48:=by omega
 have hl48d:decide ((l.length:Int) < 48)=false:=decide_eq_false hl48
 clear hr ht h48
 have tok0:=trivial
 have tok1:=trivial
 have tok2:=trivial
 have tok3:=trivial
 have tok4:=trivial
 have tok5:=trivial
 have tok6:=trivial
 by_cases q0:(V1:Int) < 36
 ·have d0:decide ((V1:Int) < 36)=true:=decide_eq_true q0
  as_aux_lemma=>
   clear hno
   go_enter Tryz.func43,Tryz.ntmps43
   go_wp2_with (first
    | (go_at_call 40;have _t:=tok0;refine(HG0.out _ (Row.below HROW.out (HW2.out _ _))).mono ?_;clear tok0 _t;rintro e wg ⟨rfl,hw⟩;subst wg)
    | (go_at_call 40;have _t:=tok1;refine(HG1.out _ (Row.below HROW.out (HW2.out _ _))).mono ?_;clear tok1 _t;rintro e wg ⟨rfl,hw⟩;subst wg)
    | (go_at_call 40;have _t:=tok2;refine(HG2.out _ (Row.below HROW.out (HW2.out _ _))).mono ?_;clear tok2 _t;rintro e wg ⟨rfl,hw⟩;subst wg)
    | (go_at_call 40;have _t:=tok3;refine(HG3.out _ (Row.below HROW.out (HW2.out _ _))).mono ?_;clear tok3 _t;rintro e wg ⟨rfl,hw⟩;subst wg)
    | (go_at_call 40;have _t:=tok4;refine(HG4.out _ (Row.below HROW.out (HW2.out _ _))).mono ?_;clear tok4 _t;rintro e wg ⟨rfl,hw⟩;subst wg)
    | (go_at_call 40;have _t:=tok5;refine(HG5.out _ (Row.below HROW.out (HW2.out _ _))).mono ?_;clear tok5 _t;rintro e wg ⟨rfl,hw⟩;subst wg)
    | (go_at_call 40;have _t:=tok6;refine(HG6.out _ (Row.below HROW.out (HW2.out _ _))).mono ?_;clear tok6 _t;rintro e wg ⟨rfl,hw⟩;subst wg)
    | (go_at_call 64;refine(HH.out _ (Tab.below HT.out (HW2.out _ _)) (Row.below HROW.out (HW2.out _ _)) (HW2.out _ _).size).mono ?_;rintro e w3 ⟨a3,c3,rfl,hr3,hn3,hb3⟩;have HRES:Hid (w3.heap[w.heap.size]? = some (.cells #[.int .i64 0,.int .i64 0,.int .i64 0,.int .i64 0,.slice none 0 0] 88 (0,0))/\Below w.heap.size w w3):=HW3.out _ _ hb3;have HR3:Hid (RRow w3 a3 RS):=hr3;clear hb3 hr3)
    | (have _t:=HRES;refine wpList_store_row rfl 88 _ _ rfl w.heap.size #[.int .i64 x0,.int .i64 x1,.int .i64 x2,.int .i64 x3,.slice a3 RS.length c3] rfl rfl 88 _ HRES.out.1 Tryz.info88 rfl (aO _ _ _ _ _ _ _) ?_))
   refine bodyPost_ret (v:=.tuple #[.agg #[.int .i64 x0,.int .i64 x1,.int .i64 x2,.int .i64 x3,.slice a3 RS.length c3],.int .i64 M,.int .i64 E]) ?_ rfl ⟨a3,c3,rfl,cM HRES.out.1 HR3.out,hn3,below_setRow HRES.out.2 (Nat.le_refl _) _⟩
   exact aE (p:=2) (u:=3) (u2:=4) (by rfl) _ _ w.heap.size _ _ _ (by rfl) (by rfl) (by rfl) rfl (setRow_heap _ _ _ _ _ _ HRES.out.1)
 ·have d0:decide ((V1:Int) < 36)=false:=decide_eq_false q0
  by_cases q1:Zn < V1
  ·have d1:decide (Zn < V1)=true:=decide_eq_true q1
   as_aux_lemma=>
    clear hno
    go_enter Tryz.func43,Tryz.ntmps43
    go_wp2_with (first
     | (go_at_call 40;have _t:=tok0;refine(HG0.out _ (Row.below HROW.out (HW2.out _ _))).mono ?_;clear tok0 _t;rintro e wg ⟨rfl,hw⟩;subst wg)
     | (go_at_call 40;have _t:=tok1;refine(HG1.out _ (Row.below HROW.out (HW2.out _ _))).mono ?_;clear tok1 _t;rintro e wg ⟨rfl,hw⟩;subst wg)
     | (go_at_call 40;have _t:=tok2;refine(HG2.out _ (Row.below HROW.out (HW2.out _ _))).mono ?_;clear tok2 _t;rintro e wg ⟨rfl,hw⟩;subst wg)
     | (go_at_call 40;have _t:=tok3;refine(HG3.out _ (Row.below HROW.out (HW2.out _ _))).mono ?_;clear tok3 _t;rintro e wg ⟨rfl,hw⟩;subst wg)
     | (go_at_call 40;have _t:=tok4;refine(HG4.out _ (Row.below HROW.out (HW2.out _ _))).mono ?_;clear tok4 _t;rintro e wg ⟨rfl,hw⟩;subst wg)
     | (go_at_call 40;have _t:=tok5;refine(HG5.out _ (Row.below HROW.out (HW2.out _ _))).mono ?_;clear tok5 _t;rintro e wg ⟨rfl,hw⟩;subst wg)
     | (go_at_call 40;have _t:=tok6;refine(HG6.out _ (Row.below HROW.out (HW2.out _ _))).mono ?_;clear tok6 _t;rintro e wg ⟨rfl,hw⟩;subst wg)
     | (go_at_call 64;refine(HH.out _ (Tab.below HT.out (HW2.out _ _)) (Row.below HROW.out (HW2.out _ _)) (HW2.out _ _).size).mono ?_;rintro e w3 ⟨a3,c3,rfl,hr3,hn3,hb3⟩;have HRES:Hid (w3.heap[w.heap.size]? = some (.cells #[.int .i64 0,.int .i64 0,.int .i64 0,.int .i64 0,.slice none 0 0] 88 (0,0))/\Below w.heap.size w w3):=HW3.out _ _ hb3;have HR3:Hid (RRow w3 a3 RS):=hr3;clear hb3 hr3)
     | (have _t:=HRES;refine wpList_store_row rfl 88 _ _ rfl w.heap.size #[.int .i64 x0,.int .i64 x1,.int .i64 x2,.int .i64 x3,.slice a3 RS.length c3] rfl rfl 88 _ HRES.out.1 Tryz.info88 rfl (aO _ _ _ _ _ _ _) ?_))
    refine bodyPost_ret (v:=.tuple #[.agg #[.int .i64 x0,.int .i64 x1,.int .i64 x2,.int .i64 x3,.slice a3 RS.length c3],.int .i64 M,.int .i64 E]) ?_ rfl ⟨a3,c3,rfl,cM HRES.out.1 HR3.out,hn3,below_setRow HRES.out.2 (Nat.le_refl _) _⟩
    exact aE (p:=2) (u:=3) (u2:=4) (by rfl) _ _ w.heap.size _ _ _ (by rfl) (by rfl) (by rfl) rfl (setRow_heap _ _ _ _ _ _ HRES.out.1)
  ·have d1:decide (Zn < V1)=false:=decide_eq_false q1
   by_cases q2:(6000:Int) < (V1:Int)
   ·have d2:decide ((6000:Int) < (V1:Int))=true:=decide_eq_true q2
    as_aux_lemma=>
     clear hno
     go_enter Tryz.func43,Tryz.ntmps43
     go_wp2_with (first
      | (go_at_call 40;have _t:=tok0;refine(HG0.out _ (Row.below HROW.out (HW2.out _ _))).mono ?_;clear tok0 _t;rintro e wg ⟨rfl,hw⟩;subst wg)
      | (go_at_call 40;have _t:=tok1;refine(HG1.out _ (Row.below HROW.out (HW2.out _ _))).mono ?_;clear tok1 _t;rintro e wg ⟨rfl,hw⟩;subst wg)
      | (go_at_call 40;have _t:=tok2;refine(HG2.out _ (Row.below HROW.out (HW2.out _ _))).mono ?_;clear tok2 _t;rintro e wg ⟨rfl,hw⟩;subst wg)
      | (go_at_call 40;have _t:=tok3;refine(HG3.out _ (Row.below HROW.out (HW2.out _ _))).mono ?_;clear tok3 _t;rintro e wg ⟨rfl,hw⟩;subst wg)
      | (go_at_call 40;have _t:=tok4;refine(HG4.out _ (Row.below HROW.out (HW2.out _ _))).mono ?_;clear tok4 _t;rintro e wg ⟨rfl,hw⟩;subst wg)
      | (go_at_call 40;have _t:=tok5;refine(HG5.out _ (Row.below HROW.out (HW2.out _ _))).mono ?_;clear tok5 _t;rintro e wg ⟨rfl,hw⟩;subst wg)
      | (go_at_call 40;have _t:=tok6;refine(HG6.out _ (Row.below HROW.out (HW2.out _ _))).mono ?_;clear tok6 _t;rintro e wg ⟨rfl,hw⟩;subst wg)
      | (go_at_call 64;refine(HH.out _ (Tab.below HT.out (HW2.out _ _)) (Row.below HROW.out (HW2.out _ _)) (HW2.out _ _).size).mono ?_;rintro e w3 ⟨a3,c3,rfl,hr3,hn3,hb3⟩;have HRES:Hid (w3.heap[w.heap.size]? = some (.cells #[.int .i64 0,.int .i64 0,.int .i64 0,.int .i64 0,.slice none 0 0] 88 (0,0))/\Below w.heap.size w w3):=HW3.out _ _ hb3;have HR3:Hid (RRow w3 a3 RS):=hr3;clear hb3 hr3)
      | (have _t:=HRES;refine wpList_store_row rfl 88 _ _ rfl w.heap.size #[.int .i64 x0,.int .i64 x1,.int .i64 x2,.int .i64 x3,.slice a3 RS.length c3] rfl rfl 88 _ HRES.out.1 Tryz.info88 rfl (aO _ _ _ _ _ _ _) ?_))
     refine bodyPost_ret (v:=.tuple #[.agg #[.int .i64 x0,.int .i64 x1,.int .i64 x2,.int .i64 x3,.slice a3 RS.length c3],.int .i64 M,.int .i64 E]) ?_ rfl ⟨a3,c3,rfl,cM HRES.out.1 HR3.out,hn3,below_setRow HRES.out.2 (Nat.le_refl _) _⟩
     exact aE (p:=2) (u:=3) (u2:=4) (by rfl) _ _ w.heap.size _ _ _ (by rfl) (by rfl) (by rfl) rfl (setRow_heap _ _ _ _ _ _ HRES.out.1)
   ·have d2:decide ((6000:Int) < (V1:Int))=false:=decide_eq_false q2
    by_cases q3:(1125899906842624:Int) < (V0:Int)
    ·have d3:decide ((1125899906842624:Int) < (V0:Int))=true:=decide_eq_true q3
     as_aux_lemma=>
      clear hno
      go_enter Tryz.func43,Tryz.ntmps43
      go_wp2_with (first
       | (go_at_call 40;have _t:=tok0;refine(HG0.out _ (Row.below HROW.out (HW2.out _ _))).mono ?_;clear tok0 _t;rintro e wg ⟨rfl,hw⟩;subst wg)
       | (go_at_call 40;have _t:=tok1;refine(HG1.out _ (Row.below HROW.out (HW2.out _ _))).mono ?_;clear tok1 _t;rintro e wg ⟨rfl,hw⟩;subst wg)
       | (go_at_call 40;have _t:=tok2;refine(HG2.out _ (Row.below HROW.out (HW2.out _ _))).mono ?_;clear tok2 _t;rintro e wg ⟨rfl,hw⟩;subst wg)
       | (go_at_call 40;have _t:=tok3;refine(HG3.out _ (Row.below HROW.out (HW2.out _ _))).mono ?_;clear tok3 _t;rintro e wg ⟨rfl,hw⟩;subst wg)
       | (go_at_call 40;have _t:=tok4;refine(HG4.out _ (Row.below HROW.out (HW2.out _ _))).mono ?_;clear tok4 _t;rintro e wg ⟨rfl,hw⟩;subst wg)
       | (go_at_call 40;have _t:=tok5;refine(HG5.out _ (Row.below HROW.out (HW2.out _ _))).mono ?_;clear tok5 _t;rintro e wg ⟨rfl,hw⟩;subst wg)
       | (go_at_call 40;have _t:=tok6;refine(HG6.out _ (Row.below HROW.out (HW2.out _ _))).mono ?_;clear tok6 _t;rintro e wg ⟨rfl,hw⟩;subst wg)
       | (go_at_call 64;refine(HH.out _ (Tab.below HT.out (HW2.out _ _)) (Row.below HROW.out (HW2.out _ _)) (HW2.out _ _).size).mono ?_;rintro e w3 ⟨a3,c3,rfl,hr3,hn3,hb3⟩;have HRES:Hid (w3.heap[w.heap.size]? = some (.cells #[.int .i64 0,.int .i64 0,.int .i64 0,.int .i64 0,.slice none 0 0] 88 (0,0))/\Below w.heap.size w w3):=HW3.out _ _ hb3;have HR3:Hid (RRow w3 a3 RS):=hr3;clear hb3 hr3)
       | (have _t:=HRES;refine wpList_store_row rfl 88 _ _ rfl w.heap.size #[.int .i64 x0,.int .i64 x1,.int .i64 x2,.int .i64 x3,.slice a3 RS.length c3] rfl rfl 88 _ HRES.out.1 Tryz.info88 rfl (aO _ _ _ _ _ _ _) ?_))
      refine bodyPost_ret (v:=.tuple #[.agg #[.int .i64 x0,.int .i64 x1,.int .i64 x2,.int .i64 x3,.slice a3 RS.length c3],.int .i64 M,.int .i64 E]) ?_ rfl ⟨a3,c3,rfl,cM HRES.out.1 HR3.out,hn3,below_setRow HRES.out.2 (Nat.le_refl _) _⟩
      exact aE (p:=2) (u:=3) (u2:=4) (by rfl) _ _ w.heap.size _ _ _ (by rfl) (by rfl) (by rfl) rfl (setRow_heap _ _ _ _ _ _ HRES.out.1)
    ·have d3:decide ((1125899906842624:Int) < (V0:Int))=false:=decide_eq_false q3
     by_cases q4:(4611686018427387904:Int) < (V2:Int)
     ·have d4:decide ((4611686018427387904:Int) < (V2:Int))=true:=decide_eq_true q4
      as_aux_lemma=>
       clear hno
       go_enter Tryz.func43,Tryz.ntmps43
       go_wp2_with (first
        | (go_at_call 40;have _t:=tok0;refine(HG0.out _ (Row.below HROW.out (HW2.out _ _))).mono ?_;clear tok0 _t;rintro e wg ⟨rfl,hw⟩;subst wg)
        | (go_at_call 40;have _t:=tok1;refine(HG1.out _ (Row.below HROW.out (HW2.out _ _))).mono ?_;clear tok1 _t;rintro e wg ⟨rfl,hw⟩;subst wg)
        | (go_at_call 40;have _t:=tok2;refine(HG2.out _ (Row.below HROW.out (HW2.out _ _))).mono ?_;clear tok2 _t;rintro e wg ⟨rfl,hw⟩;subst wg)
        | (go_at_call 40;have _t:=tok3;refine(HG3.out _ (Row.below HROW.out (HW2.out _ _))).mono ?_;clear tok3 _t;rintro e wg ⟨rfl,hw⟩;subst wg)
        | (go_at_call 40;have _t:=tok4;refine(HG4.out _ (Row.below HROW.out (HW2.out _ _))).mono ?_;clear tok4 _t;rintro e wg ⟨rfl,hw⟩;subst wg)
        | (go_at_call 40;have _t:=tok5;refine(HG5.out _ (Row.below HROW.out (HW2.out _ _))).mono ?_;clear tok5 _t;rintro e wg ⟨rfl,hw⟩;subst wg)
        | (go_at_call 40;have _t:=tok6;refine(HG6.out _ (Row.below HROW.out (HW2.out _ _))).mono ?_;clear tok6 _t;rintro e wg ⟨rfl,hw⟩;subst wg)
        | (go_at_call 64;refine(HH.out _ (Tab.below HT.out (HW2.out _ _)) (Row.below HROW.out (HW2.out _ _)) (HW2.out _ _).size).mono ?_;rintro e w3 ⟨a3,c3,rfl,hr3,hn3,hb3⟩;have HRES:Hid (w3.heap[w.heap.size]? = some (.cells #[.int .i64 0,.int .i64 0,.int .i64 0,.int .i64 0,.slice none 0 0] 88 (0,0))/\Below w.heap.size w w3):=HW3.out _ _ hb3;have HR3:Hid (RRow w3 a3 RS):=hr3;clear hb3 hr3)
        | (have _t:=HRES;refine wpList_store_row rfl 88 _ _ rfl w.heap.size #[.int .i64 x0,.int .i64 x1,.int .i64 x2,.int .i64 x3,.slice a3 RS.length c3] rfl rfl 88 _ HRES.out.1 Tryz.info88 rfl (aO _ _ _ _ _ _ _) ?_))
       refine bodyPost_ret (v:=.tuple #[.agg #[.int .i64 x0,.int .i64 x1,.int .i64 x2,.int .i64 x3,.slice a3 RS.length c3],.int .i64 M,.int .i64 E]) ?_ rfl ⟨a3,c3,rfl,cM HRES.out.1 HR3.out,hn3,below_setRow HRES.out.2 (Nat.le_refl _) _⟩
       exact aE (p:=2) (u:=3) (u2:=4) (by rfl) _ _ w.heap.size _ _ _ (by rfl) (by rfl) (by rfl) rfl (setRow_heap _ _ _ _ _ _ HRES.out.1)
     ·have d4:decide ((4611686018427387904:Int) < (V2:Int))=false:=decide_eq_false q4
      by_cases q5:(4611686018427387904:Int) < (V3:Int)
      ·have d5:decide ((4611686018427387904:Int) < (V3:Int))=true:=decide_eq_true q5
       as_aux_lemma=>
        clear hno
        go_enter Tryz.func43,Tryz.ntmps43
        go_wp2_with (first
         | (go_at_call 40;have _t:=tok0;refine(HG0.out _ (Row.below HROW.out (HW2.out _ _))).mono ?_;clear tok0 _t;rintro e wg ⟨rfl,hw⟩;subst wg)
         | (go_at_call 40;have _t:=tok1;refine(HG1.out _ (Row.below HROW.out (HW2.out _ _))).mono ?_;clear tok1 _t;rintro e wg ⟨rfl,hw⟩;subst wg)
         | (go_at_call 40;have _t:=tok2;refine(HG2.out _ (Row.below HROW.out (HW2.out _ _))).mono ?_;clear tok2 _t;rintro e wg ⟨rfl,hw⟩;subst wg)
         | (go_at_call 40;have _t:=tok3;refine(HG3.out _ (Row.below HROW.out (HW2.out _ _))).mono ?_;clear tok3 _t;rintro e wg ⟨rfl,hw⟩;subst wg)
         | (go_at_call 40;have _t:=tok4;refine(HG4.out _ (Row.below HROW.out (HW2.out _ _))).mono ?_;clear tok4 _t;rintro e wg ⟨rfl,hw⟩;subst wg)
         | (go_at_call 40;have _t:=tok5;refine(HG5.out _ (Row.below HROW.out (HW2.out _ _))).mono ?_;clear tok5 _t;rintro e wg ⟨rfl,hw⟩;subst wg)
         | (go_at_call 40;have _t:=tok6;refine(HG6.out _ (Row.below HROW.out (HW2.out _ _))).mono ?_;clear tok6 _t;rintro e wg ⟨rfl,hw⟩;subst wg)
         | (go_at_call 64;refine(HH.out _ (Tab.below HT.out (HW2.out _ _)) (Row.below HROW.out (HW2.out _ _)) (HW2.out _ _).size).mono ?_;rintro e w3 ⟨a3,c3,rfl,hr3,hn3,hb3⟩;have HRES:Hid (w3.heap[w.heap.size]? = some (.cells #[.int .i64 0,.int .i64 0,.int .i64 0,.int .i64 0,.slice none 0 0] 88 (0,0))/\Below w.heap.size w w3):=HW3.out _ _ hb3;have HR3:Hid (RRow w3 a3 RS):=hr3;clear hb3 hr3)
         | (have _t:=HRES;refine wpList_store_row rfl 88 _ _ rfl w.heap.size #[.int .i64 x0,.int .i64 x1,.int .i64 x2,.int .i64 x3,.slice a3 RS.length c3] rfl rfl 88 _ HRES.out.1 Tryz.info88 rfl (aO _ _ _ _ _ _ _) ?_))
        refine bodyPost_ret (v:=.tuple #[.agg #[.int .i64 x0,.int .i64 x1,.int .i64 x2,.int .i64 x3,.slice a3 RS.length c3],.int .i64 M,.int .i64 E]) ?_ rfl ⟨a3,c3,rfl,cM HRES.out.1 HR3.out,hn3,below_setRow HRES.out.2 (Nat.le_refl _) _⟩
        exact aE (p:=2) (u:=3) (u2:=4) (by rfl) _ _ w.heap.size _ _ _ (by rfl) (by rfl) (by rfl) rfl (setRow_heap _ _ _ _ _ _ HRES.out.1)
      ·have d5:decide ((4611686018427387904:Int) < (V3:Int))=false:=decide_eq_false q5
       by_cases q6:(100:Int) < (V4:Int)
       ·have d6:decide ((100:Int) < (V4:Int))=true:=decide_eq_true q6
        as_aux_lemma=>
         clear hno
         go_enter Tryz.func43,Tryz.ntmps43
         go_wp2_with (first
          | (go_at_call 40;have _t:=tok0;refine(HG0.out _ (Row.below HROW.out (HW2.out _ _))).mono ?_;clear tok0 _t;rintro e wg ⟨rfl,hw⟩;subst wg)
          | (go_at_call 40;have _t:=tok1;refine(HG1.out _ (Row.below HROW.out (HW2.out _ _))).mono ?_;clear tok1 _t;rintro e wg ⟨rfl,hw⟩;subst wg)
          | (go_at_call 40;have _t:=tok2;refine(HG2.out _ (Row.below HROW.out (HW2.out _ _))).mono ?_;clear tok2 _t;rintro e wg ⟨rfl,hw⟩;subst wg)
          | (go_at_call 40;have _t:=tok3;refine(HG3.out _ (Row.below HROW.out (HW2.out _ _))).mono ?_;clear tok3 _t;rintro e wg ⟨rfl,hw⟩;subst wg)
          | (go_at_call 40;have _t:=tok4;refine(HG4.out _ (Row.below HROW.out (HW2.out _ _))).mono ?_;clear tok4 _t;rintro e wg ⟨rfl,hw⟩;subst wg)
          | (go_at_call 40;have _t:=tok5;refine(HG5.out _ (Row.below HROW.out (HW2.out _ _))).mono ?_;clear tok5 _t;rintro e wg ⟨rfl,hw⟩;subst wg)
          | (go_at_call 40;have _t:=tok6;refine(HG6.out _ (Row.below HROW.out (HW2.out _ _))).mono ?_;clear tok6 _t;rintro e wg ⟨rfl,hw⟩;subst wg)
          | (go_at_call 64;refine(HH.out _ (Tab.below HT.out (HW2.out _ _)) (Row.below HROW.out (HW2.out _ _)) (HW2.out _ _).size).mono ?_;rintro e w3 ⟨a3,c3,rfl,hr3,hn3,hb3⟩;have HRES:Hid (w3.heap[w.heap.size]? = some (.cells #[.int .i64 0,.int .i64 0,.int .i64 0,.int .i64 0,.slice none 0 0] 88 (0,0))/\Below w.heap.size w w3):=HW3.out _ _ hb3;have HR3:Hid (RRow w3 a3 RS):=hr3;clear hb3 hr3)
          | (have _t:=HRES;refine wpList_store_row rfl 88 _ _ rfl w.heap.size #[.int .i64 x0,.int .i64 x1,.int .i64 x2,.int .i64 x3,.slice a3 RS.length c3] rfl rfl 88 _ HRES.out.1 Tryz.info88 rfl (aO _ _ _ _ _ _ _) ?_))
         refine bodyPost_ret (v:=.tuple #[.agg #[.int .i64 x0,.int .i64 x1,.int .i64 x2,.int .i64 x3,.slice a3 RS.length c3],.int .i64 M,.int .i64 E]) ?_ rfl ⟨a3,c3,rfl,cM HRES.out.1 HR3.out,hn3,below_setRow HRES.out.2 (Nat.le_refl _) _⟩
         exact aE (p:=2) (u:=3) (u2:=4) (by rfl) _ _ w.heap.size _ _ _ (by rfl) (by rfl) (by rfl) rfl (setRow_heap _ _ _ _ _ _ HRES.out.1)
       ·have d6:decide ((100:Int) < (V4:Int))=false:=decide_eq_false q6
        by_cases q7:(V5:Int) < 1
        ·have d7:decide ((V5:Int) < 1)=true:=decide_eq_true q7
         as_aux_lemma=>
          clear hno
          go_enter Tryz.func43,Tryz.ntmps43
          go_wp2_with (first
           | (go_at_call 40;have _t:=tok0;refine(HG0.out _ (Row.below HROW.out (HW2.out _ _))).mono ?_;clear tok0 _t;rintro e wg ⟨rfl,hw⟩;subst wg)
           | (go_at_call 40;have _t:=tok1;refine(HG1.out _ (Row.below HROW.out (HW2.out _ _))).mono ?_;clear tok1 _t;rintro e wg ⟨rfl,hw⟩;subst wg)
           | (go_at_call 40;have _t:=tok2;refine(HG2.out _ (Row.below HROW.out (HW2.out _ _))).mono ?_;clear tok2 _t;rintro e wg ⟨rfl,hw⟩;subst wg)
           | (go_at_call 40;have _t:=tok3;refine(HG3.out _ (Row.below HROW.out (HW2.out _ _))).mono ?_;clear tok3 _t;rintro e wg ⟨rfl,hw⟩;subst wg)
           | (go_at_call 40;have _t:=tok4;refine(HG4.out _ (Row.below HROW.out (HW2.out _ _))).mono ?_;clear tok4 _t;rintro e wg ⟨rfl,hw⟩;subst wg)
           | (go_at_call 40;have _t:=tok5;refine(HG5.out _ (Row.below HROW.out (HW2.out _ _))).mono ?_;clear tok5 _t;rintro e wg ⟨rfl,hw⟩;subst wg)
           | (go_at_call 40;have _t:=tok6;refine(HG6.out _ (Row.below HROW.out (HW2.out _ _))).mono ?_;clear tok6 _t;rintro e wg ⟨rfl,hw⟩;subst wg)
           | (go_at_call 64;refine(HH.out _ (Tab.below HT.out (HW2.out _ _)) (Row.below HROW.out (HW2.out _ _)) (HW2.out _ _).size).mono ?_;rintro e w3 ⟨a3,c3,rfl,hr3,hn3,hb3⟩;have HRES:Hid (w3.heap[w.heap.size]? = some (.cells #[.int .i64 0,.int .i64 0,.int .i64 0,.int .i64 0,.slice none 0 0] 88 (0,0))/\Below w.heap.size w w3):=HW3.out _ _ hb3;have HR3:Hid (RRow w3 a3 RS):=hr3;clear hb3 hr3)
           | (have _t:=HRES;refine wpList_store_row rfl 88 _ _ rfl w.heap.size #[.int .i64 x0,.int .i64 x1,.int .i64 x2,.int .i64 x3,.slice a3 RS.length c3] rfl rfl 88 _ HRES.out.1 Tryz.info88 rfl (aO _ _ _ _ _ _ _) ?_))
          refine bodyPost_ret (v:=.tuple #[.agg #[.int .i64 x0,.int .i64 x1,.int .i64 x2,.int .i64 x3,.slice a3 RS.length c3],.int .i64 M,.int .i64 E]) ?_ rfl ⟨a3,c3,rfl,cM HRES.out.1 HR3.out,hn3,below_setRow HRES.out.2 (Nat.le_refl _) _⟩
          exact aE (p:=2) (u:=3) (u2:=4) (by rfl) _ _ w.heap.size _ _ _ (by rfl) (by rfl) (by rfl) rfl (setRow_heap _ _ _ _ _ _ HRES.out.1)
        ·have d7:decide ((V5:Int) < 1)=false:=decide_eq_false q7
         by_cases q8:(100:Int) < (V5:Int)
         ·have d8:decide ((100:Int) < (V5:Int))=true:=decide_eq_true q8
          as_aux_lemma=>
           clear hno
           go_enter Tryz.func43,Tryz.ntmps43
           go_wp2_with (first
            | (go_at_call 40;have _t:=tok0;refine(HG0.out _ (Row.below HROW.out (HW2.out _ _))).mono ?_;clear tok0 _t;rintro e wg ⟨rfl,hw⟩;subst wg)
            | (go_at_call 40;have _t:=tok1;refine(HG1.out _ (Row.below HROW.out (HW2.out _ _))).mono ?_;clear tok1 _t;rintro e wg ⟨rfl,hw⟩;subst wg)
            | (go_at_call 40;have _t:=tok2;refine(HG2.out _ (Row.below HROW.out (HW2.out _ _))).mono ?_;clear tok2 _t;rintro e wg ⟨rfl,hw⟩;subst wg)
            | (go_at_call 40;have _t:=tok3;refine(HG3.out _ (Row.below HROW.out (HW2.out _ _))).mono ?_;clear tok3 _t;rintro e wg ⟨rfl,hw⟩;subst wg)
            | (go_at_call 40;have _t:=tok4;refine(HG4.out _ (Row.below HROW.out (HW2.out _ _))).mono ?_;clear tok4 _t;rintro e wg ⟨rfl,hw⟩;subst wg)
            | (go_at_call 40;have _t:=tok5;refine(HG5.out _ (Row.below HROW.out (HW2.out _ _))).mono ?_;clear tok5 _t;rintro e wg ⟨rfl,hw⟩;subst wg)
            | (go_at_call 40;have _t:=tok6;refine(HG6.out _ (Row.below HROW.out (HW2.out _ _))).mono ?_;clear tok6 _t;rintro e wg ⟨rfl,hw⟩;subst wg)
            | (go_at_call 64;refine(HH.out _ (Tab.below HT.out (HW2.out _ _)) (Row.below HROW.out (HW2.out _ _)) (HW2.out _ _).size).mono ?_;rintro e w3 ⟨a3,c3,rfl,hr3,hn3,hb3⟩;have HRES:Hid (w3.heap[w.heap.size]? = some (.cells #[.int .i64 0,.int .i64 0,.int .i64 0,.int .i64 0,.slice none 0 0] 88 (0,0))/\Below w.heap.size w w3):=HW3.out _ _ hb3;have HR3:Hid (RRow w3 a3 RS):=hr3;clear hb3 hr3)
            | (have _t:=HRES;refine wpList_store_row rfl 88 _ _ rfl w.heap.size #[.int .i64 x0,.int .i64 x1,.int .i64 x2,.int .i64 x3,.slice a3 RS.length c3] rfl rfl 88 _ HRES.out.1 Tryz.info88 rfl (aO _ _ _ _ _ _ _) ?_))
           refine bodyPost_ret (v:=.tuple #[.agg #[.int .i64 x0,.int .i64 x1,.int .i64 x2,.int .i64 x3,.slice a3 RS.length c3],.int .i64 M,.int .i64 E]) ?_ rfl ⟨a3,c3,rfl,cM HRES.out.1 HR3.out,hn3,below_setRow HRES.out.2 (Nat.le_refl _) _⟩
           exact aE (p:=2) (u:=3) (u2:=4) (by rfl) _ _ w.heap.size _ _ _ (by rfl) (by rfl) (by rfl) rfl (setRow_heap _ _ _ _ _ _ HRES.out.1)
         ·have d8:decide ((100:Int) < (V5:Int))=false:=decide_eq_false q8
          by_cases q9:(1125899906842624:Int) < (V6:Int)
          ·have d9:decide ((1125899906842624:Int) < (V6:Int))=true:=decide_eq_true q9
           as_aux_lemma=>
            clear hno
            go_enter Tryz.func43,Tryz.ntmps43
            go_wp2_with (first
             | (go_at_call 40;have _t:=tok0;refine(HG0.out _ (Row.below HROW.out (HW2.out _ _))).mono ?_;clear tok0 _t;rintro e wg ⟨rfl,hw⟩;subst wg)
             | (go_at_call 40;have _t:=tok1;refine(HG1.out _ (Row.below HROW.out (HW2.out _ _))).mono ?_;clear tok1 _t;rintro e wg ⟨rfl,hw⟩;subst wg)
             | (go_at_call 40;have _t:=tok2;refine(HG2.out _ (Row.below HROW.out (HW2.out _ _))).mono ?_;clear tok2 _t;rintro e wg ⟨rfl,hw⟩;subst wg)
             | (go_at_call 40;have _t:=tok3;refine(HG3.out _ (Row.below HROW.out (HW2.out _ _))).mono ?_;clear tok3 _t;rintro e wg ⟨rfl,hw⟩;subst wg)
             | (go_at_call 40;have _t:=tok4;refine(HG4.out _ (Row.below HROW.out (HW2.out _ _))).mono ?_;clear tok4 _t;rintro e wg ⟨rfl,hw⟩;subst wg)
             | (go_at_call 40;have _t:=tok5;refine(HG5.out _ (Row.below HROW.out (HW2.out _ _))).mono ?_;clear tok5 _t;rintro e wg ⟨rfl,hw⟩;subst wg)
             | (go_at_call 40;have _t:=tok6;refine(HG6.out _ (Row.below HROW.out (HW2.out _ _))).mono ?_;clear tok6 _t;rintro e wg ⟨rfl,hw⟩;subst wg)
             | (go_at_call 64;refine(HH.out _ (Tab.below HT.out (HW2.out _ _)) (Row.below HROW.out (HW2.out _ _)) (HW2.out _ _).size).mono ?_;rintro e w3 ⟨a3,c3,rfl,hr3,hn3,hb3⟩;have HRES:Hid (w3.heap[w.heap.size]? = some (.cells #[.int .i64 0,.int .i64 0,.int .i64 0,.int .i64 0,.slice none 0 0] 88 (0,0))/\Below w.heap.size w w3):=HW3.out _ _ hb3;have HR3:Hid (RRow w3 a3 RS):=hr3;clear hb3 hr3)
             | (have _t:=HRES;refine wpList_store_row rfl 88 _ _ rfl w.heap.size #[.int .i64 x0,.int .i64 x1,.int .i64 x2,.int .i64 x3,.slice a3 RS.length c3] rfl rfl 88 _ HRES.out.1 Tryz.info88 rfl (aO _ _ _ _ _ _ _) ?_))
            refine bodyPost_ret (v:=.tuple #[.agg #[.int .i64 x0,.int .i64 x1,.int .i64 x2,.int .i64 x3,.slice a3 RS.length c3],.int .i64 M,.int .i64 E]) ?_ rfl ⟨a3,c3,rfl,cM HRES.out.1 HR3.out,hn3,below_setRow HRES.out.2 (Nat.le_refl _) _⟩
            exact aE (p:=2) (u:=3) (u2:=4) (by rfl) _ _ w.heap.size _ _ _ (by rfl) (by rfl) (by rfl) rfl (setRow_heap _ _ _ _ _ _ HRES.out.1)
          ·have d9:decide ((1125899906842624:Int) < (V6:Int))=false:=decide_eq_false q9
           exact absurd (by refine⟨?_,?_,?_,?_,?_,?_,?_,?_,?_,?_⟩<;>omega) hno
def z16 (m:List Nat):Nat->List Nat
 | 0=>m
 | k+1=>(z16 m k).set (16+k) 0
theorem gW (m:List Nat) (k:Nat):(z16 m k).length=m.length:=by
 induction k with
 | zero=>rfl
 | succ k ih=>rw[z16,List.length_set,ih]
theorem pM (m:List Nat) (k i:Nat) (h:i < m.length):(z16 m k).getD i 0=if 16<=i/\i < 16+k then 0 else m.getD i 0:=by
 induction k with
 | zero=>rw[z16,if_neg (by omega)]
 | succ k ih=>
  rw[z16,nC _ _ _ _ (by rw[gW];exact h),ih]
  by_cases e:16+k=i
  ·rw[if_pos e,if_pos (by omega)]
  ·rw[if_neg e]
   by_cases h2:16<=i/\i < 16+k
   ·rw[if_pos h2,if_pos (by omega)]
   ·rw[if_neg h2,if_neg (by omega)]
theorem xO {m:List Nat} (h:∀i,m.getD i 0 < 256) (k:Nat):∀i,(z16 m k).getD i 0 < 256:=by
 intro i
 by_cases hi:i < m.length
 ·rw[pM m k i hi]
  split
  ·omega
  ·exact h i
 ·rw[hU _ _ (by rw[gW];omega)];omega
theorem xM (H A C:List Nat) (hH:H.length=16) (hA:A.length=16):z16 (H++(A++C)) 16=H++(List.replicate 16 0++C):=by
 apply gQ
 ·rw[gW,List.length_append,List.length_append,List.length_append,List.length_append,List.length_replicate,hA]
 ·intro i hi
  rw[gW] at hi
  rw[pM _ _ _ hi,cQ H (A++C),cQ H (List.replicate 16 0++C)]
  by_cases h1:i < H.length
  ·rw[if_pos h1,if_pos h1,if_neg (by omega)]
  ·rw[if_neg h1,if_neg h1,cQ A C,cQ (List.replicate 16 0) C,List.length_replicate]
   by_cases h2:i - H.length < 16
   ·rw[if_pos (by omega),if_pos h2]
    rw[List.getD,List.getElem?_replicate,if_pos h2]
    rfl
   ·rw[if_neg (by omega),if_neg (by omega),if_neg (by omega),hA]
def smL (m:List Nat):List Nat:=putL (z16 m 16) 12 4 true (P.sum ((z16 m 16).drop 16))
theorem uU (m:List Nat):(smL m).length=m.length:=by unfold smL;rw[cT,gW]
def noP (b:Ba):Ba:=⟨b.base,b.span,0,0,b.rs⟩
def wiP (b:Ba) (p q:Int):Ba:=⟨b.base,b.span,p,q,b.rs⟩
theorem aFs {b:Ba} (h:wrE b=0) {p q:Int} (hp:0<=p) (hq:0<=q):wrE (wiP b p q)=0:=by
 unfold wrE at h ⊢
 split at h
 ·rename_i hc
  simp only[numsB,Bool.and_eq_true] at hc
  rw[if_pos]
  ·exact h
  ·simp only[numsB,wiP,Bool.and_eq_true]
   exact⟨⟨⟨⟨⟨⟨hc.1.1.1.1.1.1,hc.1.1.1.1.1.2⟩,hc.1.1.1.1.2⟩,decide_eq_true hp⟩,decide_eq_true hq⟩,hc.1.2⟩,hc.2⟩
 ·omega
theorem aCc {b:Ba} (h:chkB b=0) {p q:Int} (hp:0<=p) (hq:0<=q):chkB (wiP b p q)=0:=by
 obtain⟨h1,h2⟩:=dD h
 unfold chkB
 rw[if_pos (aFs h1 hp hq),if_neg]
 show ¬6000 < 48+(bodyL b.rs (frs b)).length
 omega
theorem aFl (b:Ba):smL (encBL b)=encBL (noP b):=by
 obtain⟨R,hR⟩:∃R,lay 4 b.span.toNat++(lay 4 b.rs.length++lay 8 (frs b).toNat)++bodyL b.rs (frs b)=R:=⟨_,rfl⟩
 have e1:tailL b=(lay 8 b.prod.toNat++lay 8 b.seq.toNat)++R:=by rw[<-hR];simp[tailL,midL]
 have e2:tailL (noP b)=List.replicate 16 0++R:=by
  rw[<-hR]
  have h0:lay 8 (0:Int).toNat++lay 8 (0:Int).toNat=List.replicate 16 0:=by decide
  rw[<-h0]
  simp[tailL,midL,noP,frs]
 have hl:(tailL (noP b)).length=(tailL b).length:=by rw[e1,e2,List.length_append,List.length_append,List.length_append,List.length_replicate,aP,aP]
 have e3:encBL b=headL b.base.toNat ((tailL b).length+4) (P.sum (tailL b))++((lay 8 b.prod.toNat++lay 8 b.seq.toNat)++R):=by rw[<-e1];rfl
 have e4:z16 (encBL b) 16=headL b.base.toNat ((tailL b).length+4) (P.sum (tailL b))++tailL (noP b):=by
  rw[e3,xM _ _ _ (cU _ _ _) (by simp[aP]),<-e2]
 unfold smL
 rw[e4,List.drop_left' (cU _ _ _)]
 have e5:headL b.base.toNat ((tailL b).length+4) (P.sum (tailL b))++tailL (noP b)=(lay 8 b.base.toNat++lay 4 ((tailL b).length+4))++(lay 4 (P.sum (tailL b))++tailL (noP b)):=by simp[headL]
 rw[e5]
 have h12:(lay 8 b.base.toNat++lay 4 ((tailL b).length+4)).length=12:=by simp[aP]
 have h6:=pF (lay 8 b.base.toNat++lay 4 ((tailL b).length+4)) (lay 4 (P.sum (tailL b))) (tailL (noP b)) 4 (P.sum (tailL (noP b))) (aP _ _)
 rw[h12] at h6
 rw[h6]
 unfold encBL
 rw[hl]
 show _=headL b.base.toNat _ _++_
 simp[headL]
theorem aHa (b:Ba):In64B (noP b):=⟨by show(0:Int)<=_;decide,by show(0:Int)<=_;decide⟩
theorem nL (b:Ba) (p q:Int):(encBL (wiP b p q)).length=(encBL b).length:=by rw[iE,iE];rfl
theorem aEd {l:List Nat} (hb:∀x,x ∈ l->x < 256) (h:OkB l):OkB (smL (l.take (lenN l)))/\wiP (bOf (smL (l.take (lenN l)))) (getV l 16 8 true:Nat) (getV l 24 8 true:Nat)=bOf l/\lenN (smL (l.take (lenN l)))=lenN l/\chkB (bOf l)=0/\encBL (bOf l)=l.take (lenN l):=by
 obtain⟨e,hc,hl⟩:=lW hb h
 obtain⟨_,_,_,_,p1,q1,_⟩:=kR hb h
 have h0:chkB (noP (bOf l))=0:=aCc hc (Int.le_refl 0) (Int.le_refl 0)
 obtain⟨o1,o2,o3⟩:=jU (b:=noP (bOf l)) [] h0 (aHa _)
 rw[List.append_nil] at o1 o2 o3
 have hs:smL (l.take (lenN l))=encBL (noP (bOf l)):=by rw[e];exact aFl _
 rw[hs]
 refine⟨o1,?_,?_,hc,e.symm⟩
 ·rw[o2]
  have e1:(bOf l).prod=((getV l 16 8 true:Nat):Int):=by
   show wrap64 _=_
   exact w64 _ (by omega) (by generalize getV l 16 8 true=X at *;omega)
  have e2:(bOf l).seq=((getV l 24 8 true:Nat):Int):=by
   show wrap64 _=_
   exact w64 _ (by omega) (by generalize getV l 24 8 true=X at *;omega)
  rw[<-e1,<-e2]
  rfl
 ·rw[o3,<-hl]
  exact nL (bOf l) 0 0
theorem vU {l:List Nat} {b:Ba} {n:Nat} (hn:n<=l.length) (hi:In64B b) (h:chkB b=0) (he:encBL b=l.take n):OkB l/\bOf l=b/\lenN l=n:=by
 obtain⟨o1,o2,o3⟩:=jU (b:=b) (l.drop n) h hi
 rw[he,List.take_append_drop] at o1 o2 o3
 refine⟨o1,o2,?_⟩
 rw[o3,List.length_take]
 omega
theorem yC (m:List Nat) (hm:48<=m.length):getV (smL m) 16 8 true=0/\getV (smL m) 24 8 true=0:=by
 have hz:∀p,16<=p->p+8<=32->getV (smL m) p 8 true=0:=by
  intro p h1 h2
  have h3:∀j,j < 8->(smL m).getD (p+plc 8 true j) 0=0:=by
   intro j hj
   have h4:plc 8 true j < 8:=pI 8 true j hj
   unfold smL
   rw[iD _ _ _ _ _ _ (by rw[gW];omega),if_neg (by omega),pM m 16 _ (by omega),if_pos (by omega)]
  unfold getV
  have h5:∀n,n<=8->sm (fun j=>(smL m).getD (p+plc 8 true j) 0) n=0:=by
   intro n
   induction n with
   | zero=>intro _;rfl
   | succ n ih=>intro hn;rw[sm,ih (by omega),h3 n (by omega)];simp
  exact h5 8 (Nat.le_refl _)
 exact⟨hz 16 (by omega) (by omega),hz 24 (by omega) (by omega)⟩
theorem aGb {m:List Nat} (h:∀i,m.getD i 0 < 256):∀i,(smL m).getD i 0 < 256:=tX _ _ _ _ _ (xO h 16)
theorem aAp (w:World):Below w.heap.size w ((w.alloc (.cells #[.int .i64 0,.int .i64 0,.int .i64 0,.int .i64 0,.slice none 0 0] 88)).alloc (.cells #[.int .i64 0,.int .i64 0,.int .i64 0,.int .i64 0,.slice none 0 0] 88))/\((w.alloc (.cells #[.int .i64 0,.int .i64 0,.int .i64 0,.int .i64 0,.slice none 0 0] 88)).alloc (.cells #[.int .i64 0,.int .i64 0,.int .i64 0,.int .i64 0,.slice none 0 0] 88)).heap[w.heap.size]? = some (.cells #[.int .i64 0,.int .i64 0,.int .i64 0,.int .i64 0,.slice none 0 0] 88 (0,0))/\((w.alloc (.cells #[.int .i64 0,.int .i64 0,.int .i64 0,.int .i64 0,.slice none 0 0] 88)).alloc (.cells #[.int .i64 0,.int .i64 0,.int .i64 0,.int .i64 0,.slice none 0 0] 88)).heap[w.heap.size+1]? = some (.cells #[.int .i64 0,.int .i64 0,.int .i64 0,.int .i64 0,.slice none 0 0] 88 (0,0)):=by
 refine⟨(aA _).trans ((aA _).mono (by simp)),?_,?_⟩
 ·rw[(aA (w:=w.alloc (.cells #[.int .i64 0,.int .i64 0,.int .i64 0,.int .i64 0,.slice none 0 0] 88)) _).block w.heap.size (by simp)]
  exact heap_alloc_new w _
 ·have:=heap_alloc_new (w.alloc (.cells #[.int .i64 0,.int .i64 0,.int .i64 0,.int .i64 0,.slice none 0 0] 88)) (.cells #[.int .i64 0,.int .i64 0,.int .i64 0,.int .i64 0,.slice none 0 0] 88)
  simpa using this
theorem uI (a:Option Addr) (cap len:Nat) (w:World) (V0 V1 V2 V3:Nat) (h12:12<=len) (hl2:len<=40000)
 (hno:¬(V2 < 9223372036854775808/\V3 < 9223372036854775808/\¬(V2<=4611686018427387904/\V3<=4611686018427387904)/\36<=V1/\V1<=len - 12/\V1<=6000)) :
 Calls Tryz.prog 64 #[.slice a len cap,.int .u64 (V0:Int),.int .u64 (V1:Int),.int .u64 (V2:Int),.int .u64 (V3:Int)] w fun e w'=>e=.returned (.tuple #[.agg #[.int .i64 0,.int .i64 0,.int .i64 0,.int .i64 0,.slice none 0 0],.int .i64 0,.int .i64 10])/\Below w.heap.size w w':=by
 have HT:Hid _:=aAp w
 obtain⟨Zn,HZ⟩:∃Zn:Nat,Hid (len - 12=Zn):=⟨_,rfl⟩
 rw[HZ.out] at hno
 have z1:IntKind.i64.wrap ((len:Int) - 12)=(Zn:Int):=by have:=HZ.out;rw[IntKind.wrap_i64];omega
 have z2:IntKind.u64.wrap (Zn:Int)=(Zn:Int):=by have:=HZ.out;rw[IntKind.wrap_u64];omega
 by_cases a1:(9223372036854775808:Int)<=(V2:Int)
 ·have a1d:decide ((9223372036854775808:Int)<=(V2:Int))=true:=decide_eq_true a1
  clear hno
  have tk:=trivial
  go_enter Tryz.func64,Tryz.ntmps64
  go_wp2_with (have _t:=tk;refine wpList_store_row rfl 88 _ _ rfl w.heap.size #[.int .i64 0,.int .i64 0,.int .i64 0,.int .i64 0,.slice none 0 0] rfl rfl 88 _ HT.out.2.1 Tryz.info88 rfl (aO _ _ _ _ _ _ _) ?_)
  refine bodyPost_ret (v:=.tuple #[.agg #[.int .i64 0,.int .i64 0,.int .i64 0,.int .i64 0,.slice none 0 0],.int .i64 0,.int .i64 10]) ?_ rfl ⟨rfl,below_setRow HT.out.1 (Nat.le_refl _) _⟩
  exact aE (p:=10) (u:=11) (u2:=12) (by rfl) _ _ w.heap.size _ _ _ (by rfl) (by rfl) (by rfl) rfl (setRow_heap _ _ _ _ _ _ HT.out.2.1)
 ·have a1d:decide ((9223372036854775808:Int)<=(V2:Int))=false:=decide_eq_false a1
  by_cases a2:(9223372036854775808:Int)<=(V3:Int)
  ·have a2d:decide ((9223372036854775808:Int)<=(V3:Int))=true:=decide_eq_true a2
   clear hno
   have tk:=trivial
   go_enter Tryz.func64,Tryz.ntmps64
   go_wp2_with (have _t:=tk;refine wpList_store_row rfl 88 _ _ rfl w.heap.size #[.int .i64 0,.int .i64 0,.int .i64 0,.int .i64 0,.slice none 0 0] rfl rfl 88 _ HT.out.2.1 Tryz.info88 rfl (aO _ _ _ _ _ _ _) ?_)
   refine bodyPost_ret (v:=.tuple #[.agg #[.int .i64 0,.int .i64 0,.int .i64 0,.int .i64 0,.slice none 0 0],.int .i64 0,.int .i64 10]) ?_ rfl ⟨rfl,below_setRow HT.out.1 (Nat.le_refl _) _⟩
   exact aE (p:=10) (u:=11) (u2:=12) (by rfl) _ _ w.heap.size _ _ _ (by rfl) (by rfl) (by rfl) rfl (setRow_heap _ _ _ _ _ _ HT.out.2.1)
  ·have a2d:decide ((9223372036854775808:Int)<=(V3:Int))=false:=decide_eq_false a2
   by_cases a3:(V2:Int)<=4611686018427387904
   ·have a3d:decide ((V2:Int)<=4611686018427387904)=true:=decide_eq_true a3
    by_cases a4:(V3:Int)<=4611686018427387904
    ·have a4d:decide ((V3:Int)<=4611686018427387904)=true:=decide_eq_true a4
     clear hno
     have tk:=trivial
     go_enter Tryz.func64,Tryz.ntmps64
     go_wp2_with (have _t:=tk;refine wpList_store_row rfl 88 _ _ rfl w.heap.size #[.int .i64 0,.int .i64 0,.int .i64 0,.int .i64 0,.slice none 0 0] rfl rfl 88 _ HT.out.2.1 Tryz.info88 rfl (aO _ _ _ _ _ _ _) ?_)
     refine bodyPost_ret (v:=.tuple #[.agg #[.int .i64 0,.int .i64 0,.int .i64 0,.int .i64 0,.slice none 0 0],.int .i64 0,.int .i64 10]) ?_ rfl ⟨rfl,below_setRow HT.out.1 (Nat.le_refl _) _⟩
     exact aE (p:=10) (u:=11) (u2:=12) (by rfl) _ _ w.heap.size _ _ _ (by rfl) (by rfl) (by rfl) rfl (setRow_heap _ _ _ _ _ _ HT.out.2.1)
    ·have a4d:decide ((V3:Int)<=4611686018427387904)=false:=decide_eq_false a4
     by_cases b1:(V1:Int) < 36
     ·have b1d:decide ((V1:Int) < 36)=true:=decide_eq_true b1
      clear hno
      have tk:=trivial
      go_enter Tryz.func64,Tryz.ntmps64
      go_wp2_with (have _t:=tk;refine wpList_store_row rfl 88 _ _ rfl w.heap.size #[.int .i64 0,.int .i64 0,.int .i64 0,.int .i64 0,.slice none 0 0] rfl rfl 88 _ HT.out.2.1 Tryz.info88 rfl (aO _ _ _ _ _ _ _) ?_)
      refine bodyPost_ret (v:=.tuple #[.agg #[.int .i64 0,.int .i64 0,.int .i64 0,.int .i64 0,.slice none 0 0],.int .i64 0,.int .i64 10]) ?_ rfl ⟨rfl,below_setRow HT.out.1 (Nat.le_refl _) _⟩
      exact aE (p:=10) (u:=11) (u2:=12) (by rfl) _ _ w.heap.size _ _ _ (by rfl) (by rfl) (by rfl) rfl (setRow_heap _ _ _ _ _ _ HT.out.2.1)
     ·have b1d:decide ((V1:Int) < 36)=false:=decide_eq_false b1
      by_cases b2:Zn < V1
      ·have b2d:decide (Zn < V1)=true:=decide_eq_true b2
       clear hno
       have tk:=trivial
       go_enter Tryz.func64,Tryz.ntmps64
       go_wp2_with (have _t:=tk;refine wpList_store_row rfl 88 _ _ rfl w.heap.size #[.int .i64 0,.int .i64 0,.int .i64 0,.int .i64 0,.slice none 0 0] rfl rfl 88 _ HT.out.2.1 Tryz.info88 rfl (aO _ _ _ _ _ _ _) ?_)
       refine bodyPost_ret (v:=.tuple #[.agg #[.int .i64 0,.int .i64 0,.int .i64 0,.int .i64 0,.slice none 0 0],.int .i64 0,.int .i64 10]) ?_ rfl ⟨rfl,below_setRow HT.out.1 (Nat.le_refl _) _⟩
       exact aE (p:=10) (u:=11) (u2:=12) (by rfl) _ _ w.heap.size _ _ _ (by rfl) (by rfl) (by rfl) rfl (setRow_heap _ _ _ _ _ _ HT.out.2.1)
      ·have b2d:decide (Zn < V1)=false:=decide_eq_false b2
       by_cases b3:(6000:Int) < (V1:Int)
       ·have b3d:decide ((6000:Int) < (V1:Int))=true:=decide_eq_true b3
        clear hno
        have tk:=trivial
        go_enter Tryz.func64,Tryz.ntmps64
        go_wp2_with (have _t:=tk;refine wpList_store_row rfl 88 _ _ rfl w.heap.size #[.int .i64 0,.int .i64 0,.int .i64 0,.int .i64 0,.slice none 0 0] rfl rfl 88 _ HT.out.2.1 Tryz.info88 rfl (aO _ _ _ _ _ _ _) ?_)
        refine bodyPost_ret (v:=.tuple #[.agg #[.int .i64 0,.int .i64 0,.int .i64 0,.int .i64 0,.slice none 0 0],.int .i64 0,.int .i64 10]) ?_ rfl ⟨rfl,below_setRow HT.out.1 (Nat.le_refl _) _⟩
        exact aE (p:=10) (u:=11) (u2:=12) (by rfl) _ _ w.heap.size _ _ _ (by rfl) (by rfl) (by rfl) rfl (setRow_heap _ _ _ _ _ _ HT.out.2.1)
       ·have b3d:decide ((6000:Int) < (V1:Int))=false:=decide_eq_false b3
        exact absurd (by refine⟨?_,?_,?_,?_,?_,?_⟩<;>omega) hno
   ·have a3d:decide ((V2:Int)<=4611686018427387904)=false:=decide_eq_false a3
    by_cases b1:(V1:Int) < 36
    ·have b1d:decide ((V1:Int) < 36)=true:=decide_eq_true b1
     clear hno
     have tk:=trivial
     go_enter Tryz.func64,Tryz.ntmps64
     go_wp2_with (have _t:=tk;refine wpList_store_row rfl 88 _ _ rfl w.heap.size #[.int .i64 0,.int .i64 0,.int .i64 0,.int .i64 0,.slice none 0 0] rfl rfl 88 _ HT.out.2.1 Tryz.info88 rfl (aO _ _ _ _ _ _ _) ?_)
     refine bodyPost_ret (v:=.tuple #[.agg #[.int .i64 0,.int .i64 0,.int .i64 0,.int .i64 0,.slice none 0 0],.int .i64 0,.int .i64 10]) ?_ rfl ⟨rfl,below_setRow HT.out.1 (Nat.le_refl _) _⟩
     exact aE (p:=10) (u:=11) (u2:=12) (by rfl) _ _ w.heap.size _ _ _ (by rfl) (by rfl) (by rfl) rfl (setRow_heap _ _ _ _ _ _ HT.out.2.1)
    ·have b1d:decide ((V1:Int) < 36)=false:=decide_eq_false b1
     by_cases b2:Zn < V1
     ·have b2d:decide (Zn < V1)=true:=decide_eq_true b2
      clear hno
      have tk:=trivial
      go_enter Tryz.func64,Tryz.ntmps64
      go_wp2_with (have _t:=tk;refine wpList_store_row rfl 88 _ _ rfl w.heap.size #[.int .i64 0,.int .i64 0,.int .i64 0,.int .i64 0,.slice none 0 0] rfl rfl 88 _ HT.out.2.1 Tryz.info88 rfl (aO _ _ _ _ _ _ _) ?_)
      refine bodyPost_ret (v:=.tuple #[.agg #[.int .i64 0,.int .i64 0,.int .i64 0,.int .i64 0,.slice none 0 0],.int .i64 0,.int .i64 10]) ?_ rfl ⟨rfl,below_setRow HT.out.1 (Nat.le_refl _) _⟩
      exact aE (p:=10) (u:=11) (u2:=12) (by rfl) _ _ w.heap.size _ _ _ (by rfl) (by rfl) (by rfl) rfl (setRow_heap _ _ _ _ _ _ HT.out.2.1)
     ·have b2d:decide (Zn < V1)=false:=decide_eq_false b2
      by_cases b3:(6000:Int) < (V1:Int)
      ·have b3d:decide ((6000:Int) < (V1:Int))=true:=decide_eq_true b3
       clear hno
       have tk:=trivial
       go_enter Tryz.func64,Tryz.ntmps64
       go_wp2_with (have _t:=tk;refine wpList_store_row rfl 88 _ _ rfl w.heap.size #[.int .i64 0,.int .i64 0,.int .i64 0,.int .i64 0,.slice none 0 0] rfl rfl 88 _ HT.out.2.1 Tryz.info88 rfl (aO _ _ _ _ _ _ _) ?_)
       refine bodyPost_ret (v:=.tuple #[.agg #[.int .i64 0,.int .i64 0,.int .i64 0,.int .i64 0,.slice none 0 0],.int .i64 0,.int .i64 10]) ?_ rfl ⟨rfl,below_setRow HT.out.1 (Nat.le_refl _) _⟩
       exact aE (p:=10) (u:=11) (u2:=12) (by rfl) _ _ w.heap.size _ _ _ (by rfl) (by rfl) (by rfl) rfl (setRow_heap _ _ _ _ _ _ HT.out.2.1)
      ·have b3d:decide ((6000:Int) < (V1:Int))=false:=decide_eq_false b3
       exact absurd (by refine⟨?_,?_,?_,?_,?_,?_⟩<;>omega) hno
theorem wN (a:Option Addr) (cap:Nat) (l:List Nat) (w:World) (ht:Tab w) (hr:Row w a l) (hl:l.length<=cap) (hc:cap<=maxLen) (hl2:l.length<=40000) (h2:getV l 16 8 true<=4611686018427387904) (h3:getV l 24 8 true<=4611686018427387904) :
 Calls Tryz.prog 43 #[.slice a l.length cap] w fun e w'=>DecP l w e w':=by
 by_cases h48:l.length < 48
 ·refine(nP a cap l.length w h48).mono ?_
  rintro e w' ⟨rfl,hb⟩
  exact⟨fun h=>absurd h.l48 (Nat.not_le.2 h48),fun _=>rfl,hb⟩
 ·have h48':48<=l.length:=Nat.not_lt.1 h48
  obtain⟨pb,poff,rfl,_,_⟩:=hr 0 (Nat.lt_of_lt_of_le (by decide) h48')
  by_cases hq:Ql l
  ·exact aAi pb poff cap l w ht hr hl hc hl2 h48' hq
  ·have hnok:=aFt (bF hr.lt) hq h2 h3
   refine(pA pb poff cap l w hr hl2 h48' ht (getV l 0 8 true) (getV l 8 4 true) (getV l 16 8 true) (getV l 24 8 true) (getV l 32 4 true) (getV l 36 4 true) (getV l 40 8 true) 0 0 0 0 0 10 [] (fun a c=>a=none/\c=0)
    (fun y hy=>aZ (some ⟨pb,poff,none⟩) cap l 0 8 true y hy (Nat.le_trans hl2 (by decide)) (by decide) (by decide) (Nat.le_trans (by decide) h48'))
    (fun y hy=>aZ (some ⟨pb,poff,none⟩) cap l 8 4 true y hy (Nat.le_trans hl2 (by decide)) (by decide) (by decide) (Nat.le_trans (by decide) h48'))
    (fun y hy=>aZ (some ⟨pb,poff,none⟩) cap l 16 8 true y hy (Nat.le_trans hl2 (by decide)) (by decide) (by decide) (Nat.le_trans (by decide) h48'))
    (fun y hy=>aZ (some ⟨pb,poff,none⟩) cap l 24 8 true y hy (Nat.le_trans hl2 (by decide)) (by decide) (by decide) (Nat.le_trans (by decide) h48'))
    (fun y hy=>aZ (some ⟨pb,poff,none⟩) cap l 32 4 true y hy (Nat.le_trans hl2 (by decide)) (by decide) (by decide) (Nat.le_trans (by decide) h48'))
    (fun y hy=>aZ (some ⟨pb,poff,none⟩) cap l 36 4 true y hy (Nat.le_trans hl2 (by decide)) (by decide) (by decide) (Nat.le_trans (by decide) h48'))
    (fun y hy=>aZ (some ⟨pb,poff,none⟩) cap l 40 8 true y hy (Nat.le_trans hl2 (by decide)) (by decide) (by decide) (Nat.le_trans (by decide) h48'))
    (fun y ty hy hz=>?_) (fun⟨q1,q2,q3,q4,q5,q6,q7,q8,q9,qa⟩=>hq ⟨q1,q2,q3,q4,q5,q6,q7,q8,q9,qa⟩)).mono ?_
   ·refine(uI (some ⟨pb,poff,none⟩) cap l.length y (getV l 0 8 true) (getV l 8 4 true) (getV l 16 8 true) (getV l 24 8 true) (Nat.le_trans (by decide) h48') hl2 (fun h=>h.2.2.1 ⟨h2,h3⟩)).mono ?_
    rintro e w' ⟨rfl,hb⟩
    exact⟨none,0,rfl,RRow.nil _ _,⟨rfl,rfl⟩,hb⟩
   ·rintro e w' ⟨a',c',rfl,hrr,⟨rfl,rfl⟩,hb⟩
    exact⟨fun h=>absurd h hnok,fun _=>rfl,hb⟩
theorem lO (pb poff cap:Nat) (l:List Nat) (w:World) (ht:Tab w) (hr:Row w (some ⟨pb,poff,none⟩) l) (V1 Nn:Nat) (hN:Nn=12+V1) (h48:48<=Nn) (hNl:Nn<=l.length) (hN6:Nn<=6012) (hl:l.length<=cap) (hc:cap<=maxLen)
 (x0 x1 x2 x3 M E:Int) (RS:List Rc) (T:Option Addr->Nat->Prop)
 (HD:Hid (∀y g c,Tab y->Row y (some ⟨g,0,none⟩) (smL (l.take Nn))->(smL (l.take Nn)).length<=c->c<=maxLen->w.heap.size<=y.heap.size->Calls Tryz.prog 43 #[.slice (some ⟨g,0,none⟩) (smL (l.take Nn)).length c] y fun e w'=>∃a' c',e=.returned (.tuple #[.agg #[.int .i64 x0,.int .i64 x1,.int .i64 x2,.int .i64 x3,.slice a' RS.length c'],.int .i64 M,.int .i64 E])/\RRow w' a' RS/\T a' c'/\Below y.heap.size y w')) :
 Calls Tryz.prog 85 #[.slice (some ⟨pb,poff,none⟩) l.length cap,.int .i64 (V1:Int)] w fun e w'=>∃a' c',e=.returned (.tuple #[.agg #[.int .i64 x0,.int .i64 x1,.int .i64 x2,.int .i64 x3,.slice a' RS.length c'],.int .i64 M,.int .i64 E])/\RRow w' a' RS/\T a' c'/\Below w.heap.size w w':=by
 have HROW:Hid (Row w (some ⟨pb,poff,none⟩) l):=hr
 have HT:Hid (Tab w):=ht
 have hml:(l.take Nn).length=Nn:=by rw[List.length_take];omega
 have hmb:∀i,(l.take Nn).getD i 0 < 256:=cG (fun x hx=>bF hr.lt x (List.mem_of_mem_take hx))
 have m7:IntKind.i64.wrap (12+(V1:Int))=(Nn:Int):=by rw[IntKind.wrap_i64];omega
 have kt:∀y,(Instr.slice 22 (.slice (some ⟨pb,poff,none⟩) l.length cap) none (some (.int .i64 (Nn:Int))) none).run Tryz.prog y=.ok (.slice (some ⟨pb,poff,none⟩) Nn cap) y:=fun y=>fY y ⟨pb,poff,none⟩ l.length cap Nn (by omega) hNl
 obtain⟨ZJ,HZJ⟩:∃F:Nat->List Nat,Hid (∀j,z16 (l.take Nn) (j - 16)=F j):=⟨_,fun _=>rfl⟩
 have HZB:Hid (∀j i,(ZJ j).getD i 0 < 256):=fun j=>by rw[<-HZJ.out];exact xO hmb _
 have HZL:Hid (∀j,(ZJ j).length=Nn):=fun j=>by rw[<-HZJ.out,gW,hml]
 have HZS:Hid (∀j,16<=j->ZJ (j+1)=(ZJ j).set j 0):=fun j hj=>by
  rw[<-HZJ.out,<-HZJ.out,show j+1 - 16=(j - 16)+1 by omega,z16,show 16+(j - 16)=j by omega]
 have HZ0:Hid (ZJ 16=l.take Nn):=by show _=_;rw[<-HZJ.out];rfl
 have HSB:Hid (∀i,(smL (l.take Nn)).getD i 0 < 256):=aGb hmb
 have HSL:Hid ((smL (l.take Nn)).length=Nn):=by show _=_;rw[uU,hml]
 have HSD:Hid (smL (l.take Nn)=putL (ZJ 32) 12 4 true (P.sum ((ZJ 32).drop 16))):=by show _=_;rw[<-HZJ.out];rfl
 have hsum:P.sum ((ZJ 32).drop 16) < 4294967296:=sum_lt _ (fun x hx=>bF (HZB.out 32) x (List.mem_of_mem_drop hx))
 have HML:Hid ((l.take Nn).length=Nn):=hml
 have HRW:Hid (∀o1 o2,Row ((w.alloc o1).alloc o2) (some ⟨pb,poff,none⟩) (l.take Nn)):=fun o1 o2=>Row.below (Row.below (gP Nn hr) (aA _)) (aA _)
 rw[HSL.out] at HD
 have HSU:Hid (∀y g c,Row y (some ⟨g,0,none⟩) (ZJ 32)->Nn<=c->Calls Tryz.prog 81 #[.slice (cutA (some ⟨g,0,none⟩) c 16) (Nn - 16) (c - 16)] y fun e w'=>e=.returned (.int .u32 ((P.sum ((ZJ 32).drop 16):Nat):Int))/\w'=y):=by
  intro y g c h1 h2
  have h3:=qY (cutA (some ⟨g,0,none⟩) c 16) (c - 16) ((ZJ 32).drop 16) y (dG c 16 h1 (by rw[HZL.out];exact h2)) (by rw[List.length_drop,HZL.out];unfold maxLen;omega)
  rw[List.length_drop,HZL.out] at h3
  exact h3
 have HPU:Hid (∀y g c,Row y (some ⟨g,0,none⟩) (ZJ 32)->Calls Tryz.prog 100 #[.slice (some ⟨g,0,none⟩) Nn c,.int .i64 12,.int .i64 4,.bool true,.int .u64 ((P.sum ((ZJ 32).drop 16):Nat):Int)] y fun e w'=>(∃g' cap',e=.returned (.tuple #[.slice (some ⟨g',0,none⟩) Nn cap',.bool true])/\Own y.heap.size w' g' cap' (smL (l.take Nn)))/\Below y.heap.size y w'):=by
  intro y g c h1
  have h3:=zD (some ⟨g,0,none⟩) c (ZJ 32) 12 4 true (P.sum ((ZJ 32).drop 16)) y h1 (by rw[HZL.out];omega) (by decide) (by decide) (by rw[HZL.out];omega) (by omega)
  rw[HZL.out,<-HSD.out] at h3
  exact h3
 generalize smL (l.take Nn)=SM at *
 generalize P.sum ((ZJ 32).drop 16)=S at *
 generalize l.take Nn=m at *
 have hsw:IntKind.u64.wrap (S:Int)=(S:Int):=by rw[IntKind.wrap_u64];omega
 have hsz:(w.alloc (.cells #[.int .i64 0,.int .i64 0,.int .i64 0,.int .i64 0,.slice none 0 0] 88)).heap.size=w.heap.size+1:=by simp
 have HEM:Hid (((w.alloc (.cells #[.int .i64 0,.int .i64 0,.int .i64 0,.int .i64 0,.slice none 0 0] 88)).alloc (.cells #[] 5)).ownsRow (w.heap.size+1) 5 1 (.slice (some ⟨w.heap.size+1,0,none⟩) 0 0) 0 []):=by
  have h1:=heap_alloc_new (w.alloc (.cells #[.int .i64 0,.int .i64 0,.int .i64 0,.int .i64 0,.slice none 0 0] 88)) (.cells #[] 5)
  rw[hsz] at h1
  exact⟨rfl,.inr ⟨w.heap.size+1,0,#[],rfl,Nat.le_refl _,h1,Nat.le_refl _,by unfold maxLen;omega,rfl,rfl⟩⟩
 have HBZ:Hid (∀y,Below (w.heap.size+1) (w.alloc (.cells #[.int .i64 0,.int .i64 0,.int .i64 0,.int .i64 0,.slice none 0 0] 88)) y->w.heap.size+1<=y.heap.size):=fun y h=>by have h1:=h.size;rw[hsz] at h1;exact h1
 have HBB:Hid (Below (w.heap.size+1) (w.alloc (.cells #[.int .i64 0,.int .i64 0,.int .i64 0,.int .i64 0,.slice none 0 0] 88)) ((w.alloc (.cells #[.int .i64 0,.int .i64 0,.int .i64 0,.int .i64 0,.slice none 0 0] 88)).alloc (.cells #[] 5))):=by
  have h1:=aA (w:=w.alloc (.cells #[.int .i64 0,.int .i64 0,.int .i64 0,.int .i64 0,.slice none 0 0] 88)) (.cells #[] 5)
  rw[hsz] at h1
  exact h1
 have HRES:Hid (∀y,Below (w.heap.size+1) (w.alloc (.cells #[.int .i64 0,.int .i64 0,.int .i64 0,.int .i64 0,.slice none 0 0] 88)) y->y.heap[w.heap.size]? = some (.cells #[.int .i64 0,.int .i64 0,.int .i64 0,.int .i64 0,.slice none 0 0] 88 (0,0))/\Below w.heap.size w y):=by
  intro y hb
  refine⟨?_,(aA _).trans (hb.mono (by omega))⟩
  rw[hb.block w.heap.size (by omega)]
  exact heap_alloc_new w _
 clear hr ht hmb hml HSD HZJ hN hsz
 have tok:=trivial
 go_enter Tryz.func85,Tryz.ntmps85
 go_wp2_with (at_builtin;have _t:=tok;refine aS (by rfl) _ _ rfl (w.heap.size+1) (w.alloc (.cells #[.int .i64 0,.int .i64 0,.int .i64 0,.int .i64 0,.slice none 0 0] 88)) _ 0 [] rfl HEM.out HBB.out (by simp) (some ⟨pb,poff,none⟩) cap m (by rw[HML.out];rfl) (HRW.out _ _) (fun c=>by cases c) (by rw[HML.out];omega) ?_;clear tok _t;intro v3 w3 hown3 hb3;rw[Nat.zero_add,List.nil_append] at hown3;obtain⟨g,c0,rfl,ho3⟩:=kV hown3 (by rw[HML.out];omega);have HO3:Hid (Own (w.heap.size+1) w3 g c0 m):=ho3;have HB3:Hid (Below (w.heap.size+1) (w.alloc (.cells #[.int .i64 0,.int .i64 0,.int .i64 0,.int .i64 0,.slice none 0 0] 88)) w3):=hb3;have HC0:Hid (Nn<=c0/\c0<=maxLen):=(by have:=ho3.le;rw[HML.out] at this;exact this);rw[HML.out];clear hown3 ho3 hb3)
 go_loopw [9] (fun i x=>∃j:Nat,16<=j/\j<=32/\i=.int .i64 j/\Own (w.heap.size+1) x g c0 (ZJ j)/\Below (w.heap.size+1) (w.alloc (.cells #[.int .i64 0,.int .i64 0,.int .i64 0,.int .i64 0,.slice none 0 0] 88)) x) (fun i _=>32 - (intOf i).toNat)
 case atStart=>exact⟨16,by omega,by omega,rfl,by rw[HZ0.out];exact HO3.out,HB3.out⟩
 case round=>
  obtain⟨j,hj1,hj2,rfl,hown,hbel⟩:=hrel
  by_cases hlt:j < 32
  ·have hltI:(j:Int) < 32:=by omega
   have hjN:(j:Int) < (Nn:Int):=by omega
   have hcell:=hown.cell j (by rw[HZL.out];omega)
   have hfree:=hown.free j
   have hge:=hown.ge
   have HN:Hid (ZJ (j+1)=(ZJ j).set j 0):=HZS.out j hj1
   generalize (ZJ j).getD j 0=cc at *
   go_wp2
   refine⟨⟨j+1,by omega,by omega,by go_num,?_,hbel.setCell hge.1 _⟩,by simp[intOf];omega⟩
   rw[HN.out]
   exact hown.store j 0
  ·obtain rfl:j=32:=by omega
   rw[show((32:Nat):Int)=32 from rfl]
   have HO:Hid (Row wr (some ⟨g,0,none⟩) (ZJ 32)):=hown.row (HZB.out 32)
   have HB:Hid (Below (w.heap.size+1) (w.alloc (.cells #[.int .i64 0,.int .i64 0,.int .i64 0,.int .i64 0,.slice none 0 0] 88)) wr):=hbel
   have ks:∀y,(Instr.slice 22 (.slice (some ⟨g,0,none⟩) Nn c0) (some (.int .i64 16)) none none).run Tryz.prog y=.ok (.slice (cutA (some ⟨g,0,none⟩) c0 16) (Nn - 16) (c0 - 16)) y:=fun y=>eM y _ Nn c0 16 .i64 (by omega)
   clear hown hbel hlt hj1 hj2 HO3 HB3 HZS HZ0 HRW HEM
   go_wp2_with (first
    | (go_at_call 81;refine(HSU.out _ _ _ HO.out HC0.out.1).mono ?_;rintro e wg ⟨rfl,hw⟩;subst wg)
    | (go_at_call 100;refine(HPU.out _ _ _ HO.out).mono ?_;rintro e w4 ⟨⟨g4,c4,rfl,ho4⟩,hb4⟩;have HO4:Hid (Own wr.heap.size w4 g4 c4 SM):=ho4;have HB4:Hid (Below (w.heap.size+1) (w.alloc (.cells #[.int .i64 0,.int .i64 0,.int .i64 0,.int .i64 0,.slice none 0 0] 88)) w4):=HB.out.trans (hb4.mono (HBZ.out _ HB.out));clear ho4 hb4)
    | (go_at_call 43;refine(HD.out _ _ _ (Tab.below HT.out (HRES.out _ HB4.out).2) (HO4.out.row HSB.out) (by have:=HO4.out.le.1;rw[HSL.out] at this;exact this) HO4.out.le.2 (HRES.out _ HB4.out).2.size).mono ?_;rintro e w5 ⟨a5,c5,rfl,hr5,ht5,hb5⟩;have HR5:Hid (w5.heap[w.heap.size]? = some (.cells #[.int .i64 0,.int .i64 0,.int .i64 0,.int .i64 0,.slice none 0 0] 88 (0,0))/\Below w.heap.size w w5):=HRES.out _ (HB4.out.trans (hb5.mono (HBZ.out _ HB4.out)));have HRR5:Hid (RRow w5 a5 RS):=hr5;clear hr5 hb5)
    | (have _t:=HR5;refine wpList_store_row rfl 88 _ _ rfl w.heap.size #[.int .i64 x0,.int .i64 x1,.int .i64 x2,.int .i64 x3,.slice a5 RS.length c5] rfl rfl 88 _ HR5.out.1 Tryz.info88 rfl (aO _ _ _ _ _ _ _) ?_))
   refine bodyPost_ret (v:=.tuple #[.agg #[.int .i64 x0,.int .i64 x1,.int .i64 x2,.int .i64 x3,.slice a5 RS.length c5],.int .i64 M,.int .i64 E]) ?_ rfl ⟨a5,c5,rfl,cM HR5.out.1 HRR5.out,ht5,below_setRow HR5.out.2 (Nat.le_refl _) _⟩
   exact aE (p:=4) (u:=5) (u2:=6) (by rfl) _ _ w.heap.size _ _ _ (by rfl) (by rfl) (by rfl) rfl (setRow_heap _ _ _ _ _ _ HR5.out.1)
theorem zG (pb poff cap:Nat) (l:List Nat) (w:World) (ht:Tab w) (hr:Row w (some ⟨pb,poff,none⟩) l) (hl2:l.length<=40000) (h48:48<=l.length) (V0 V1 V2 V3:Nat) (hgo:V2 < 9223372036854775808/\V3 < 9223372036854775808/\¬(V2<=4611686018427387904/\V3<=4611686018427387904)/\36<=V1/\V1<=l.length - 12/\V1<=6000)
 (HSM:Hid (∀y,Tab y->Row y (some ⟨pb,poff,none⟩) l->Calls Tryz.prog 85 #[.slice (some ⟨pb,poff,none⟩) l.length cap,.int .i64 (V1:Int)] y fun e w'=>e=.returned (.tuple #[.agg #[.int .i64 0,.int .i64 0,.int .i64 0,.int .i64 0,.slice none 0 0],.int .i64 0,.int .i64 10])/\Below y.heap.size y w')) :
 Calls Tryz.prog 64 #[.slice (some ⟨pb,poff,none⟩) l.length cap,.int .u64 (V0:Int),.int .u64 (V1:Int),.int .u64 (V2:Int),.int .u64 (V3:Int)] w fun e w'=>e=.returned (.tuple #[.agg #[.int .i64 0,.int .i64 0,.int .i64 0,.int .i64 0,.slice none 0 0],.int .i64 0,.int .i64 10])/\Below w.heap.size w w':=by
 obtain⟨g1,g2,g3,g4,g5,g6⟩:=hgo
 have HROW:Hid (Row w (some ⟨pb,poff,none⟩) l):=hr
 have HT:Hid (Tab w):=ht
 have HB2:Hid (∀y,Below ((w.alloc (.cells #[.int .i64 0,.int .i64 0,.int .i64 0,.int .i64 0,.slice none 0 0] 88)).alloc (.cells #[.int .i64 0,.int .i64 0,.int .i64 0,.int .i64 0,.slice none 0 0] 88)).heap.size ((w.alloc (.cells #[.int .i64 0,.int .i64 0,.int .i64 0,.int .i64 0,.slice none 0 0] 88)).alloc (.cells #[.int .i64 0,.int .i64 0,.int .i64 0,.int .i64 0,.slice none 0 0] 88)) y->y.heap[w.heap.size]? = some (.cells #[.int .i64 0,.int .i64 0,.int .i64 0,.int .i64 0,.slice none 0 0] 88 (0,0))/\y.heap[w.heap.size+1]? = some (.cells #[.int .i64 0,.int .i64 0,.int .i64 0,.int .i64 0,.slice none 0 0] 88 (0,0))/\Below w.heap.size w y):=by
  intro y hb
  obtain⟨t1,t2,t3⟩:=aAp w
  refine⟨by rw[hb.block w.heap.size (by simp;omega)];exact t2,by rw[hb.block (w.heap.size+1) (by simp)];exact t3,t1.trans (hb.mono t1.size)⟩
 have HW2:Hid (∀o1 o2,Below w.heap.size w ((w.alloc o1).alloc o2)):=fun o1 o2=>(aA o1).trans ((aA o2).mono (by simp))
 obtain⟨Zn,HZ⟩:∃Zn:Nat,Hid (l.length - 12=Zn):=⟨_,rfl⟩
 rw[HZ.out] at g5
 have z1:IntKind.i64.wrap ((l.length:Int) - 12)=(Zn:Int):=by have:=HZ.out;rw[IntKind.wrap_i64];omega
 have z2:IntKind.u64.wrap (Zn:Int)=(Zn:Int):=by have:=HZ.out;rw[IntKind.wrap_u64];omega
 have a1:¬(9223372036854775808:Int)<=(V2:Int):=by omega
 have a1d:decide ((9223372036854775808:Int)<=(V2:Int))=false:=decide_eq_false a1
 have a2:¬(9223372036854775808:Int)<=(V3:Int):=by omega
 have a2d:decide ((9223372036854775808:Int)<=(V3:Int))=false:=decide_eq_false a2
 have b1:¬(V1:Int) < 36:=by omega
 have b1d:decide ((V1:Int) < 36)=false:=decide_eq_false b1
 have b2:¬Zn < V1:=by omega
 have b2d:decide (Zn < V1)=false:=decide_eq_false b2
 have b3:¬(6000:Int) < (V1:Int):=by omega
 have b3d:decide ((6000:Int) < (V1:Int))=false:=decide_eq_false b3
 have m1:IntKind.i64.wrap (V1:Int)=(V1:Int):=by rw[IntKind.wrap_i64];omega
 have m2:IntKind.i64.wrap (V2:Int)=(V2:Int):=by rw[IntKind.wrap_i64];omega
 have m3:IntKind.i64.wrap (V3:Int)=(V3:Int):=by rw[IntKind.wrap_i64];omega
 by_cases a3:(V2:Int)<=4611686018427387904
 ·have a3d:decide ((V2:Int)<=4611686018427387904)=true:=decide_eq_true a3
  have a4:¬(V3:Int)<=4611686018427387904:=by omega
  have a4d:decide ((V3:Int)<=4611686018427387904)=false:=decide_eq_false a4
  clear g1 g2 g3 g4 g5 g6
  clear hr ht
  go_enter Tryz.func64,Tryz.ntmps64
  go_wp2_with (first
   | (go_at_call 85;refine(HSM.out _ (Tab.below HT.out (HW2.out _ _)) (Row.below HROW.out (HW2.out _ _))).mono ?_;rintro e w3 ⟨rfl,hb3⟩;have h3:=HB2.out _ hb3;have HR4:Hid ((w3.alloc (.cells #[.int .i64 0,.int .i64 0,.int .i64 0,.int .i64 0,.slice none 0 0] 88)).heap[w.heap.size]? = some (.cells #[.int .i64 0,.int .i64 0,.int .i64 0,.int .i64 0,.slice none 0 0] 88 (0,0))):=((aA _).block _ (Array.getElem?_eq_some_iff.1 h3.1).1).trans h3.1;have HB4:Hid (Below w.heap.size w (w3.alloc (.cells #[.int .i64 0,.int .i64 0,.int .i64 0,.int .i64 0,.slice none 0 0] 88))):=h3.2.2.alloc h3.2.2.size _;obtain⟨n0,n1,n2,n3,n4,nz⟩:=aW h3.2.1;clear hb3 h3)
   | (have _t:=HR4;refine wpList_store_row rfl 88 _ _ rfl w.heap.size #[.int .i64 0,.int .i64 0,.int .i64 0,.int .i64 0,.slice none 0 0] rfl rfl 88 _ HR4.out Tryz.info88 rfl (aO _ _ _ _ _ _ _) ?_))
  refine bodyPost_ret (v:=.tuple #[.agg #[.int .i64 0,.int .i64 0,.int .i64 0,.int .i64 0,.slice none 0 0],.int .i64 0,.int .i64 10]) ?_ rfl ⟨rfl,below_setRow HB4.out (Nat.le_refl _) _⟩
  exact aE (p:=10) (u:=11) (u2:=12) (by rfl) _ _ w.heap.size _ _ _ (by rfl) (by rfl) (by rfl) rfl (setRow_heap _ _ _ _ _ _ HR4.out)
 ·have a3d:decide ((V2:Int)<=4611686018427387904)=false:=decide_eq_false a3
  clear g1 g2 g3 g4 g5 g6
  clear hr ht
  go_enter Tryz.func64,Tryz.ntmps64
  go_wp2_with (first
   | (go_at_call 85;refine(HSM.out _ (Tab.below HT.out (HW2.out _ _)) (Row.below HROW.out (HW2.out _ _))).mono ?_;rintro e w3 ⟨rfl,hb3⟩;have h3:=HB2.out _ hb3;have HR4:Hid ((w3.alloc (.cells #[.int .i64 0,.int .i64 0,.int .i64 0,.int .i64 0,.slice none 0 0] 88)).heap[w.heap.size]? = some (.cells #[.int .i64 0,.int .i64 0,.int .i64 0,.int .i64 0,.slice none 0 0] 88 (0,0))):=((aA _).block _ (Array.getElem?_eq_some_iff.1 h3.1).1).trans h3.1;have HB4:Hid (Below w.heap.size w (w3.alloc (.cells #[.int .i64 0,.int .i64 0,.int .i64 0,.int .i64 0,.slice none 0 0] 88))):=h3.2.2.alloc h3.2.2.size _;obtain⟨n0,n1,n2,n3,n4,nz⟩:=aW h3.2.1;clear hb3 h3)
   | (have _t:=HR4;refine wpList_store_row rfl 88 _ _ rfl w.heap.size #[.int .i64 0,.int .i64 0,.int .i64 0,.int .i64 0,.slice none 0 0] rfl rfl 88 _ HR4.out Tryz.info88 rfl (aO _ _ _ _ _ _ _) ?_))
  refine bodyPost_ret (v:=.tuple #[.agg #[.int .i64 0,.int .i64 0,.int .i64 0,.int .i64 0,.slice none 0 0],.int .i64 0,.int .i64 10]) ?_ rfl ⟨rfl,below_setRow HB4.out (Nat.le_refl _) _⟩
  exact aE (p:=10) (u:=11) (u2:=12) (by rfl) _ _ w.heap.size _ _ _ (by rfl) (by rfl) (by rfl) rfl (setRow_heap _ _ _ _ _ _ HR4.out)
theorem aB0 (pb poff cap:Nat) (l:List Nat) (w:World) (ht:Tab w) (hr:Row w (some ⟨pb,poff,none⟩) l) (hl:l.length<=cap) (hl2:l.length<=40000) (h48:48<=l.length) (V0 V1 V2 V3 nn:Nat) (hgo:V2 < 9223372036854775808/\V3 < 9223372036854775808/\¬(V2<=4611686018427387904/\V3<=4611686018427387904)/\36<=V1/\V1<=l.length - 12/\V1<=6000)
 (OK:Prop) (x0 x1 x2 x3:Int) (RS:List Rc) (EL:List Nat) (ck:Int) (hnn:nn<=l.length)
 (HSM:Hid (∀y,Tab y->Row y (some ⟨pb,poff,none⟩) l->w.heap.size<=y.heap.size->Calls Tryz.prog 85 #[.slice (some ⟨pb,poff,none⟩) l.length cap,.int .i64 (V1:Int)] y fun e w'=>∃a' c',e=.returned (.tuple #[.agg #[.int .i64 x0,.int .i64 x1,.int .i64 x2,.int .i64 x3,.slice a' RS.length c'],.int .i64 (nn:Int),.int .i64 0])/\RRow w' a' RS/\NwA w a' c'/\Below y.heap.size y w'))
 (HEN:Hid (∀x a' c',Tab x->RRow x a' RS->Calls Tryz.prog 51 #[.agg #[.int .i64 x0,.int .i64 x1,.int .i64 (V2:Int),.int .i64 (V3:Int),.slice a' RS.length c']] x fun e w'=>∃v,e=.returned (.tuple #[v,.int .i64 ck])/\w'.ownsRow x.heap.size 5 1 v EL.length (cv EL)/\Below x.heap.size x w'))
 (HEL:Hid (∀i,EL.getD i 0 < 256)) (HF1:Hid (ck≠0->¬OK)) (HF3:Hid (¬EL=l.take nn->¬OK)) (HF4:Hid (EL=l.take nn->ck=0->OK)) :
 Calls Tryz.prog 64 #[.slice (some ⟨pb,poff,none⟩) l.length cap,.int .u64 (V0:Int),.int .u64 (V1:Int),.int .u64 (V2:Int),.int .u64 (V3:Int)] w fun e w'=>DecQ OK x0 x1 (V2:Int) (V3:Int) RS nn w e w':=by
 have hlt:=hr.lt
 have HSQ:Hid ((¬EL=l.take nn->((strN EL).toList == (strN (l.take nn)).toList)=false)/\(EL=l.take nn->((strN EL).toList == (strN (l.take nn)).toList)=true)):=by
  have h1:=str_eq EL (l.take nn) (bF HEL.out) (fun x hx=>bF hlt x (List.mem_of_mem_take hx))
  exact⟨fun h=>by rw[h1,decide_eq_false h],fun h=>by rw[h1,decide_eq_true h]⟩
 have kt:∀y,(Instr.slice 22 (.slice (some ⟨pb,poff,none⟩) l.length cap) none (some (.int .i64 (nn:Int))) none).run Tryz.prog y=.ok (.slice (some ⟨pb,poff,none⟩) nn cap) y:=fun y=>fY y ⟨pb,poff,none⟩ l.length cap nn (by omega) hnn
 have HCV:Hid (∀y,Row y (some ⟨pb,poff,none⟩) l->(convert 22 9 (.slice (some ⟨pb,poff,none⟩) nn cap)).run Tryz.prog y=.ok (.string (strN (l.take nn))) y):=fun y h=>gO cap h (by omega)
 have HCW:Hid (∀y a2 k2,Row y a2 EL->(convert 22 9 (.slice a2 EL.length k2)).run Tryz.prog y=.ok (.string (strN EL)) y):=fun y a2 k2 h=>jN k2 h
 clear hlt
 obtain⟨g1,g2,g3,g4,g5,g6⟩:=hgo
 have HROW:Hid (Row w (some ⟨pb,poff,none⟩) l):=hr
 have HT:Hid (Tab w):=ht
 have HB2:Hid (∀y,Below ((w.alloc (.cells #[.int .i64 0,.int .i64 0,.int .i64 0,.int .i64 0,.slice none 0 0] 88)).alloc (.cells #[.int .i64 0,.int .i64 0,.int .i64 0,.int .i64 0,.slice none 0 0] 88)).heap.size ((w.alloc (.cells #[.int .i64 0,.int .i64 0,.int .i64 0,.int .i64 0,.slice none 0 0] 88)).alloc (.cells #[.int .i64 0,.int .i64 0,.int .i64 0,.int .i64 0,.slice none 0 0] 88)) y->y.heap[w.heap.size]? = some (.cells #[.int .i64 0,.int .i64 0,.int .i64 0,.int .i64 0,.slice none 0 0] 88 (0,0))/\y.heap[w.heap.size+1]? = some (.cells #[.int .i64 0,.int .i64 0,.int .i64 0,.int .i64 0,.slice none 0 0] 88 (0,0))/\Below w.heap.size w y):=by
  intro y hb
  obtain⟨t1,t2,t3⟩:=aAp w
  refine⟨by rw[hb.block w.heap.size (by simp;omega)];exact t2,by rw[hb.block (w.heap.size+1) (by simp)];exact t3,t1.trans (hb.mono t1.size)⟩
 have HW2:Hid (∀o1 o2,Below w.heap.size w ((w.alloc o1).alloc o2)):=fun o1 o2=>(aA o1).trans ((aA o2).mono (by simp))
 obtain⟨Zn,HZ⟩:∃Zn:Nat,Hid (l.length - 12=Zn):=⟨_,rfl⟩
 rw[HZ.out] at g5
 have z1:IntKind.i64.wrap ((l.length:Int) - 12)=(Zn:Int):=by have:=HZ.out;rw[IntKind.wrap_i64];omega
 have z2:IntKind.u64.wrap (Zn:Int)=(Zn:Int):=by have:=HZ.out;rw[IntKind.wrap_u64];omega
 have a1:¬(9223372036854775808:Int)<=(V2:Int):=by omega
 have a1d:decide ((9223372036854775808:Int)<=(V2:Int))=false:=decide_eq_false a1
 have a2:¬(9223372036854775808:Int)<=(V3:Int):=by omega
 have a2d:decide ((9223372036854775808:Int)<=(V3:Int))=false:=decide_eq_false a2
 have b1:¬(V1:Int) < 36:=by omega
 have b1d:decide ((V1:Int) < 36)=false:=decide_eq_false b1
 have b2:¬Zn < V1:=by omega
 have b2d:decide (Zn < V1)=false:=decide_eq_false b2
 have b3:¬(6000:Int) < (V1:Int):=by omega
 have b3d:decide ((6000:Int) < (V1:Int))=false:=decide_eq_false b3
 have m1:IntKind.i64.wrap (V1:Int)=(V1:Int):=by rw[IntKind.wrap_i64];omega
 have m2:IntKind.i64.wrap (V2:Int)=(V2:Int):=by rw[IntKind.wrap_i64];omega
 have m3:IntKind.i64.wrap (V3:Int)=(V3:Int):=by rw[IntKind.wrap_i64];omega
 by_cases a3:(V2:Int)<=4611686018427387904
 ·have a3d:decide ((V2:Int)<=4611686018427387904)=true:=decide_eq_true a3
  have a4:¬(V3:Int)<=4611686018427387904:=by omega
  have a4d:decide ((V3:Int)<=4611686018427387904)=false:=decide_eq_false a4
  clear g1 g2 g3 g4 g5 g6
  clear hr ht
  by_cases hck:ck=0
  ·subst hck
   by_cases hE:EL=l.take nn
   ·have HOK:Hid OK:=HF4.out hE rfl
    have hst:=HSQ.out.2 hE
    clear HF1 HF3 HF4 HSQ hE
    generalize strN (l.take nn)=S2 at *
    generalize strN EL=S1 at *
    go_enter Tryz.func64,Tryz.ntmps64
    go_wp2_with (first
     | (go_at_call 85;refine(HSM.out _ (Tab.below HT.out (HW2.out _ _)) (Row.below HROW.out (HW2.out _ _)) (HW2.out _ _).size).mono ?_;rintro e w3 ⟨a3',c3',rfl,hr3,hn3,hb3⟩;have HQ3:Hid _:=HB2.out _ hb3;have HR3:Hid (RRow w3 a3' RS):=hr3;have HN3:Hid (NwA w a3' c3'):=hn3;clear hb3 hr3 hn3)
     | (go_at_call 51;refine(HEN.out _ _ _ (Tab.below (Tab.below HT.out HQ3.out.2.2) (aA _)) (RRow.below HR3.out (aA _))).mono ?_;rintro e w4 ⟨v4,rfl,ho4,hb4⟩;obtain⟨a4',q4,rfl,hr4,_⟩:=bQ ho4 HEL.out;have HX4:Hid (BxS w3 #[.int .i64 x0,.int .i64 x1,.int .i64 (V2:Int),.int .i64 (V3:Int),.slice a3' RS.length c3'] w4):=BxS.below (BxS.new w3 _) hb4;have HR4:Hid (RRow w4 a3' RS):=RRow.below (RRow.below HR3.out (aA _)) hb4;have HRES:Hid (w4.heap[w.heap.size]? = some (.cells #[.int .i64 0,.int .i64 0,.int .i64 0,.int .i64 0,.slice none 0 0] 88 (0,0))):=(HX4.out.bel.block _ (Array.getElem?_eq_some_iff.1 HQ3.out.1).1).trans HQ3.out.1;have HNON:Hid (w4.heap[w.heap.size+1]? = some (.cells #[.int .i64 0,.int .i64 0,.int .i64 0,.int .i64 0,.slice none 0 0] 88 (0,0))):=(HX4.out.bel.block _ (Array.getElem?_eq_some_iff.1 HQ3.out.2.1).1).trans HQ3.out.2.1;have HB4:Hid (Below w.heap.size w w4):=HQ3.out.2.2.trans (HX4.out.bel.mono HQ3.out.2.2.size);have kc1:∀n,(convert 22 9 (.slice a4' EL.length q4)).run Tryz.prog (w4.drewN n)=.ok (.string S1) (w4.drewN n):=(fun n=>HCW.out _ _ _ (Row.drewN hr4 n));have kc2:∀n,(convert 22 9 (.slice (some ⟨pb,poff,none⟩) nn cap)).run Tryz.prog (w4.drewN n)=.ok (.string S2) (w4.drewN n):=(fun n=>HCV.out _ (Row.drewN (Row.below HROW.out HB4.out) n));obtain⟨n0,n1,n2,n3,n4,nz⟩:=aW HNON.out;obtain⟨k0,k1,k2,k3,k4,kz⟩:=aW HX4.out.box;clear ho4 hb4 hr4 HX4 HNON HQ3))
    go_quiet (fail)
    have HR5:Hid ((w4.drewN nq).heap[w.heap.size]? = some (.cells #[.int .i64 0,.int .i64 0,.int .i64 0,.int .i64 0,.slice none 0 0] 88 (0,0))):=HRES.out
    have HB5:Hid (Below w.heap.size w (w4.drewN nq)):=below_drewN HB4.out _
    go_wp2_with (have _t:=HR5;refine wpList_store_row rfl 88 _ _ rfl w.heap.size #[.int .i64 x0,.int .i64 x1,.int .i64 (V2:Int),.int .i64 (V3:Int),.slice a3' RS.length c3'] rfl rfl 88 _ HR5.out Tryz.info88 rfl (aO _ _ _ _ _ _ _) ?_)
    refine bodyPost_ret (v:=.tuple #[.agg #[.int .i64 x0,.int .i64 x1,.int .i64 (V2:Int),.int .i64 (V3:Int),.slice a3' RS.length c3'],.int .i64 (nn:Int),.int .i64 0]) ?_ rfl ⟨fun _=>⟨a3',c3',rfl,cM HR5.out (RRow.below HR4.out (below_drewN (Below.refl _ _) _)),HN3.out⟩,fun h=>absurd HOK.out h,below_setRow HB5.out (Nat.le_refl _) _⟩
    exact aE (p:=10) (u:=11) (u2:=12) (by rfl) _ _ w.heap.size _ _ _ (by rfl) (by rfl) (by rfl) rfl (setRow_heap _ _ _ _ _ _ HR5.out)
   ·have HNO:Hid (¬OK):=HF3.out hE
    have hst:=HSQ.out.1 hE
    clear HF1 HF3 HF4 HSQ hE
    generalize strN (l.take nn)=S2 at *
    generalize strN EL=S1 at *
    go_enter Tryz.func64,Tryz.ntmps64
    go_wp2_with (first
     | (go_at_call 85;refine(HSM.out _ (Tab.below HT.out (HW2.out _ _)) (Row.below HROW.out (HW2.out _ _)) (HW2.out _ _).size).mono ?_;rintro e w3 ⟨a3',c3',rfl,hr3,hn3,hb3⟩;have HQ3:Hid _:=HB2.out _ hb3;have HR3:Hid (RRow w3 a3' RS):=hr3;have HN3:Hid (NwA w a3' c3'):=hn3;clear hb3 hr3 hn3)
     | (go_at_call 51;refine(HEN.out _ _ _ (Tab.below (Tab.below HT.out HQ3.out.2.2) (aA _)) (RRow.below HR3.out (aA _))).mono ?_;rintro e w4 ⟨v4,rfl,ho4,hb4⟩;obtain⟨a4',q4,rfl,hr4,_⟩:=bQ ho4 HEL.out;have HX4:Hid (BxS w3 #[.int .i64 x0,.int .i64 x1,.int .i64 (V2:Int),.int .i64 (V3:Int),.slice a3' RS.length c3'] w4):=BxS.below (BxS.new w3 _) hb4;have HR4:Hid (RRow w4 a3' RS):=RRow.below (RRow.below HR3.out (aA _)) hb4;have HRES:Hid (w4.heap[w.heap.size]? = some (.cells #[.int .i64 0,.int .i64 0,.int .i64 0,.int .i64 0,.slice none 0 0] 88 (0,0))):=(HX4.out.bel.block _ (Array.getElem?_eq_some_iff.1 HQ3.out.1).1).trans HQ3.out.1;have HNON:Hid (w4.heap[w.heap.size+1]? = some (.cells #[.int .i64 0,.int .i64 0,.int .i64 0,.int .i64 0,.slice none 0 0] 88 (0,0))):=(HX4.out.bel.block _ (Array.getElem?_eq_some_iff.1 HQ3.out.2.1).1).trans HQ3.out.2.1;have HB4:Hid (Below w.heap.size w w4):=HQ3.out.2.2.trans (HX4.out.bel.mono HQ3.out.2.2.size);have kc1:∀n,(convert 22 9 (.slice a4' EL.length q4)).run Tryz.prog (w4.drewN n)=.ok (.string S1) (w4.drewN n):=(fun n=>HCW.out _ _ _ (Row.drewN hr4 n));have kc2:∀n,(convert 22 9 (.slice (some ⟨pb,poff,none⟩) nn cap)).run Tryz.prog (w4.drewN n)=.ok (.string S2) (w4.drewN n):=(fun n=>HCV.out _ (Row.drewN (Row.below HROW.out HB4.out) n));obtain⟨n0,n1,n2,n3,n4,nz⟩:=aW HNON.out;obtain⟨k0,k1,k2,k3,k4,kz⟩:=aW HX4.out.box;clear ho4 hb4 hr4 HX4 HNON HQ3))
    go_quiet (fail)
    have HR5:Hid ((w4.drewN nq).heap[w.heap.size]? = some (.cells #[.int .i64 0,.int .i64 0,.int .i64 0,.int .i64 0,.slice none 0 0] 88 (0,0))):=HRES.out
    have HB5:Hid (Below w.heap.size w (w4.drewN nq)):=below_drewN HB4.out _
    go_wp2_with (have _t:=HR5;refine wpList_store_row rfl 88 _ _ rfl w.heap.size #[.int .i64 0,.int .i64 0,.int .i64 0,.int .i64 0,.slice none 0 0] rfl rfl 88 _ HR5.out Tryz.info88 rfl (aO _ _ _ _ _ _ _) ?_)
    refine bodyPost_ret (v:=.tuple #[.agg #[.int .i64 0,.int .i64 0,.int .i64 0,.int .i64 0,.slice none 0 0],.int .i64 0,.int .i64 10]) ?_ rfl ⟨fun h=>absurd h HNO.out,fun _=>rfl,below_setRow HB5.out (Nat.le_refl _) _⟩
    exact aE (p:=10) (u:=11) (u2:=12) (by rfl) _ _ w.heap.size _ _ _ (by rfl) (by rfl) (by rfl) rfl (setRow_heap _ _ _ _ _ _ HR5.out)
  ·have HNO:Hid (¬OK):=HF1.out hck
   have hcn:(ck != 0)=true:=by rw[bne_iff_ne];exact hck
   clear HF1 HF3 HF4 HSQ hck HCV HCW kt
   go_enter Tryz.func64,Tryz.ntmps64
   go_wp2_with (first
    | (go_at_call 85;refine(HSM.out _ (Tab.below HT.out (HW2.out _ _)) (Row.below HROW.out (HW2.out _ _)) (HW2.out _ _).size).mono ?_;rintro e w3 ⟨a3',c3',rfl,hr3,hn3,hb3⟩;have HQ3:Hid _:=HB2.out _ hb3;have HR3:Hid (RRow w3 a3' RS):=hr3;have HN3:Hid (NwA w a3' c3'):=hn3;clear hb3 hr3 hn3)
    | (go_at_call 51;refine(HEN.out _ _ _ (Tab.below (Tab.below HT.out HQ3.out.2.2) (aA _)) (RRow.below HR3.out (aA _))).mono ?_;rintro e w4 ⟨v4,rfl,ho4,hb4⟩;obtain⟨a4',q4,rfl,hr4,_⟩:=bQ ho4 HEL.out;have HX4:Hid (BxS w3 #[.int .i64 x0,.int .i64 x1,.int .i64 (V2:Int),.int .i64 (V3:Int),.slice a3' RS.length c3'] w4):=BxS.below (BxS.new w3 _) hb4;have HR4:Hid (RRow w4 a3' RS):=RRow.below (RRow.below HR3.out (aA _)) hb4;have HRES:Hid (w4.heap[w.heap.size]? = some (.cells #[.int .i64 0,.int .i64 0,.int .i64 0,.int .i64 0,.slice none 0 0] 88 (0,0))):=(HX4.out.bel.block _ (Array.getElem?_eq_some_iff.1 HQ3.out.1).1).trans HQ3.out.1;have HNON:Hid (w4.heap[w.heap.size+1]? = some (.cells #[.int .i64 0,.int .i64 0,.int .i64 0,.int .i64 0,.slice none 0 0] 88 (0,0))):=(HX4.out.bel.block _ (Array.getElem?_eq_some_iff.1 HQ3.out.2.1).1).trans HQ3.out.2.1;have HB4:Hid (Below w.heap.size w w4):=HQ3.out.2.2.trans (HX4.out.bel.mono HQ3.out.2.2.size);obtain⟨n0,n1,n2,n3,n4,nz⟩:=aW HNON.out;obtain⟨k0,k1,k2,k3,k4,kz⟩:=aW HX4.out.box;clear ho4 hb4 hr4 HX4 HNON HQ3))
   go_quiet (fail)
   have HR5:Hid ((w4.drewN nq).heap[w.heap.size]? = some (.cells #[.int .i64 0,.int .i64 0,.int .i64 0,.int .i64 0,.slice none 0 0] 88 (0,0))):=HRES.out
   have HB5:Hid (Below w.heap.size w (w4.drewN nq)):=below_drewN HB4.out _
   go_wp2_with (have _t:=HR5;refine wpList_store_row rfl 88 _ _ rfl w.heap.size #[.int .i64 0,.int .i64 0,.int .i64 0,.int .i64 0,.slice none 0 0] rfl rfl 88 _ HR5.out Tryz.info88 rfl (aO _ _ _ _ _ _ _) ?_)
   refine bodyPost_ret (v:=.tuple #[.agg #[.int .i64 0,.int .i64 0,.int .i64 0,.int .i64 0,.slice none 0 0],.int .i64 0,.int .i64 10]) ?_ rfl ⟨fun h=>absurd h HNO.out,fun _=>rfl,below_setRow HB5.out (Nat.le_refl _) _⟩
   exact aE (p:=10) (u:=11) (u2:=12) (by rfl) _ _ w.heap.size _ _ _ (by rfl) (by rfl) (by rfl) rfl (setRow_heap _ _ _ _ _ _ HR5.out)
 ·have a3d:decide ((V2:Int)<=4611686018427387904)=false:=decide_eq_false a3
  clear g1 g2 g3 g4 g5 g6
  clear hr ht
  by_cases hck:ck=0
  ·subst hck
   by_cases hE:EL=l.take nn
   ·have HOK:Hid OK:=HF4.out hE rfl
    have hst:=HSQ.out.2 hE
    clear HF1 HF3 HF4 HSQ hE
    generalize strN (l.take nn)=S2 at *
    generalize strN EL=S1 at *
    go_enter Tryz.func64,Tryz.ntmps64
    go_wp2_with (first
     | (go_at_call 85;refine(HSM.out _ (Tab.below HT.out (HW2.out _ _)) (Row.below HROW.out (HW2.out _ _)) (HW2.out _ _).size).mono ?_;rintro e w3 ⟨a3',c3',rfl,hr3,hn3,hb3⟩;have HQ3:Hid _:=HB2.out _ hb3;have HR3:Hid (RRow w3 a3' RS):=hr3;have HN3:Hid (NwA w a3' c3'):=hn3;clear hb3 hr3 hn3)
     | (go_at_call 51;refine(HEN.out _ _ _ (Tab.below (Tab.below HT.out HQ3.out.2.2) (aA _)) (RRow.below HR3.out (aA _))).mono ?_;rintro e w4 ⟨v4,rfl,ho4,hb4⟩;obtain⟨a4',q4,rfl,hr4,_⟩:=bQ ho4 HEL.out;have HX4:Hid (BxS w3 #[.int .i64 x0,.int .i64 x1,.int .i64 (V2:Int),.int .i64 (V3:Int),.slice a3' RS.length c3'] w4):=BxS.below (BxS.new w3 _) hb4;have HR4:Hid (RRow w4 a3' RS):=RRow.below (RRow.below HR3.out (aA _)) hb4;have HRES:Hid (w4.heap[w.heap.size]? = some (.cells #[.int .i64 0,.int .i64 0,.int .i64 0,.int .i64 0,.slice none 0 0] 88 (0,0))):=(HX4.out.bel.block _ (Array.getElem?_eq_some_iff.1 HQ3.out.1).1).trans HQ3.out.1;have HNON:Hid (w4.heap[w.heap.size+1]? = some (.cells #[.int .i64 0,.int .i64 0,.int .i64 0,.int .i64 0,.slice none 0 0] 88 (0,0))):=(HX4.out.bel.block _ (Array.getElem?_eq_some_iff.1 HQ3.out.2.1).1).trans HQ3.out.2.1;have HB4:Hid (Below w.heap.size w w4):=HQ3.out.2.2.trans (HX4.out.bel.mono HQ3.out.2.2.size);have kc1:∀n,(convert 22 9 (.slice a4' EL.length q4)).run Tryz.prog (w4.drewN n)=.ok (.string S1) (w4.drewN n):=(fun n=>HCW.out _ _ _ (Row.drewN hr4 n));have kc2:∀n,(convert 22 9 (.slice (some ⟨pb,poff,none⟩) nn cap)).run Tryz.prog (w4.drewN n)=.ok (.string S2) (w4.drewN n):=(fun n=>HCV.out _ (Row.drewN (Row.below HROW.out HB4.out) n));obtain⟨n0,n1,n2,n3,n4,nz⟩:=aW HNON.out;obtain⟨k0,k1,k2,k3,k4,kz⟩:=aW HX4.out.box;clear ho4 hb4 hr4 HX4 HNON HQ3))
    go_quiet (fail)
    have HR5:Hid ((w4.drewN nq).heap[w.heap.size]? = some (.cells #[.int .i64 0,.int .i64 0,.int .i64 0,.int .i64 0,.slice none 0 0] 88 (0,0))):=HRES.out
    have HB5:Hid (Below w.heap.size w (w4.drewN nq)):=below_drewN HB4.out _
    go_wp2_with (have _t:=HR5;refine wpList_store_row rfl 88 _ _ rfl w.heap.size #[.int .i64 x0,.int .i64 x1,.int .i64 (V2:Int),.int .i64 (V3:Int),.slice a3' RS.length c3'] rfl rfl 88 _ HR5.out Tryz.info88 rfl (aO _ _ _ _ _ _ _) ?_)
    refine bodyPost_ret (v:=.tuple #[.agg #[.int .i64 x0,.int .i64 x1,.int .i64 (V2:Int),.int .i64 (V3:Int),.slice a3' RS.length c3'],.int .i64 (nn:Int),.int .i64 0]) ?_ rfl ⟨fun _=>⟨a3',c3',rfl,cM HR5.out (RRow.below HR4.out (below_drewN (Below.refl _ _) _)),HN3.out⟩,fun h=>absurd HOK.out h,below_setRow HB5.out (Nat.le_refl _) _⟩
    exact aE (p:=10) (u:=11) (u2:=12) (by rfl) _ _ w.heap.size _ _ _ (by rfl) (by rfl) (by rfl) rfl (setRow_heap _ _ _ _ _ _ HR5.out)
   ·have HNO:Hid (¬OK):=HF3.out hE
    have hst:=HSQ.out.1 hE
    clear HF1 HF3 HF4 HSQ hE
    generalize strN (l.take nn)=S2 at *
    generalize strN EL=S1 at *
    go_enter Tryz.func64,Tryz.ntmps64
    go_wp2_with (first
     | (go_at_call 85;refine(HSM.out _ (Tab.below HT.out (HW2.out _ _)) (Row.below HROW.out (HW2.out _ _)) (HW2.out _ _).size).mono ?_;rintro e w3 ⟨a3',c3',rfl,hr3,hn3,hb3⟩;have HQ3:Hid _:=HB2.out _ hb3;have HR3:Hid (RRow w3 a3' RS):=hr3;have HN3:Hid (NwA w a3' c3'):=hn3;clear hb3 hr3 hn3)
     | (go_at_call 51;refine(HEN.out _ _ _ (Tab.below (Tab.below HT.out HQ3.out.2.2) (aA _)) (RRow.below HR3.out (aA _))).mono ?_;rintro e w4 ⟨v4,rfl,ho4,hb4⟩;obtain⟨a4',q4,rfl,hr4,_⟩:=bQ ho4 HEL.out;have HX4:Hid (BxS w3 #[.int .i64 x0,.int .i64 x1,.int .i64 (V2:Int),.int .i64 (V3:Int),.slice a3' RS.length c3'] w4):=BxS.below (BxS.new w3 _) hb4;have HR4:Hid (RRow w4 a3' RS):=RRow.below (RRow.below HR3.out (aA _)) hb4;have HRES:Hid (w4.heap[w.heap.size]? = some (.cells #[.int .i64 0,.int .i64 0,.int .i64 0,.int .i64 0,.slice none 0 0] 88 (0,0))):=(HX4.out.bel.block _ (Array.getElem?_eq_some_iff.1 HQ3.out.1).1).trans HQ3.out.1;have HNON:Hid (w4.heap[w.heap.size+1]? = some (.cells #[.int .i64 0,.int .i64 0,.int .i64 0,.int .i64 0,.slice none 0 0] 88 (0,0))):=(HX4.out.bel.block _ (Array.getElem?_eq_some_iff.1 HQ3.out.2.1).1).trans HQ3.out.2.1;have HB4:Hid (Below w.heap.size w w4):=HQ3.out.2.2.trans (HX4.out.bel.mono HQ3.out.2.2.size);have kc1:∀n,(convert 22 9 (.slice a4' EL.length q4)).run Tryz.prog (w4.drewN n)=.ok (.string S1) (w4.drewN n):=(fun n=>HCW.out _ _ _ (Row.drewN hr4 n));have kc2:∀n,(convert 22 9 (.slice (some ⟨pb,poff,none⟩) nn cap)).run Tryz.prog (w4.drewN n)=.ok (.string S2) (w4.drewN n):=(fun n=>HCV.out _ (Row.drewN (Row.below HROW.out HB4.out) n));obtain⟨n0,n1,n2,n3,n4,nz⟩:=aW HNON.out;obtain⟨k0,k1,k2,k3,k4,kz⟩:=aW HX4.out.box;clear ho4 hb4 hr4 HX4 HNON HQ3))
    go_quiet (fail)
    have HR5:Hid ((w4.drewN nq).heap[w.heap.size]? = some (.cells #[.int .i64 0,.int .i64 0,.int .i64 0,.int .i64 0,.slice none 0 0] 88 (0,0))):=HRES.out
    have HB5:Hid (Below w.heap.size w (w4.drewN nq)):=below_drewN HB4.out _
    go_wp2_with (have _t:=HR5;refine wpList_store_row rfl 88 _ _ rfl w.heap.size #[.int .i64 0,.int .i64 0,.int .i64 0,.int .i64 0,.slice none 0 0] rfl rfl 88 _ HR5.out Tryz.info88 rfl (aO _ _ _ _ _ _ _) ?_)
    refine bodyPost_ret (v:=.tuple #[.agg #[.int .i64 0,.int .i64 0,.int .i64 0,.int .i64 0,.slice none 0 0],.int .i64 0,.int .i64 10]) ?_ rfl ⟨fun h=>absurd h HNO.out,fun _=>rfl,below_setRow HB5.out (Nat.le_refl _) _⟩
    exact aE (p:=10) (u:=11) (u2:=12) (by rfl) _ _ w.heap.size _ _ _ (by rfl) (by rfl) (by rfl) rfl (setRow_heap _ _ _ _ _ _ HR5.out)
  ·have HNO:Hid (¬OK):=HF1.out hck
   have hcn:(ck != 0)=true:=by rw[bne_iff_ne];exact hck
   clear HF1 HF3 HF4 HSQ hck HCV HCW kt
   go_enter Tryz.func64,Tryz.ntmps64
   go_wp2_with (first
    | (go_at_call 85;refine(HSM.out _ (Tab.below HT.out (HW2.out _ _)) (Row.below HROW.out (HW2.out _ _)) (HW2.out _ _).size).mono ?_;rintro e w3 ⟨a3',c3',rfl,hr3,hn3,hb3⟩;have HQ3:Hid _:=HB2.out _ hb3;have HR3:Hid (RRow w3 a3' RS):=hr3;have HN3:Hid (NwA w a3' c3'):=hn3;clear hb3 hr3 hn3)
    | (go_at_call 51;refine(HEN.out _ _ _ (Tab.below (Tab.below HT.out HQ3.out.2.2) (aA _)) (RRow.below HR3.out (aA _))).mono ?_;rintro e w4 ⟨v4,rfl,ho4,hb4⟩;obtain⟨a4',q4,rfl,hr4,_⟩:=bQ ho4 HEL.out;have HX4:Hid (BxS w3 #[.int .i64 x0,.int .i64 x1,.int .i64 (V2:Int),.int .i64 (V3:Int),.slice a3' RS.length c3'] w4):=BxS.below (BxS.new w3 _) hb4;have HR4:Hid (RRow w4 a3' RS):=RRow.below (RRow.below HR3.out (aA _)) hb4;have HRES:Hid (w4.heap[w.heap.size]? = some (.cells #[.int .i64 0,.int .i64 0,.int .i64 0,.int .i64 0,.slice none 0 0] 88 (0,0))):=(HX4.out.bel.block _ (Array.getElem?_eq_some_iff.1 HQ3.out.1).1).trans HQ3.out.1;have HNON:Hid (w4.heap[w.heap.size+1]? = some (.cells #[.int .i64 0,.int .i64 0,.int .i64 0,.int .i64 0,.slice none 0 0] 88 (0,0))):=(HX4.out.bel.block _ (Array.getElem?_eq_some_iff.1 HQ3.out.2.1).1).trans HQ3.out.2.1;have HB4:Hid (Below w.heap.size w w4):=HQ3.out.2.2.trans (HX4.out.bel.mono HQ3.out.2.2.size);obtain⟨n0,n1,n2,n3,n4,nz⟩:=aW HNON.out;obtain⟨k0,k1,k2,k3,k4,kz⟩:=aW HX4.out.box;clear ho4 hb4 hr4 HX4 HNON HQ3))
   go_quiet (fail)
   have HR5:Hid ((w4.drewN nq).heap[w.heap.size]? = some (.cells #[.int .i64 0,.int .i64 0,.int .i64 0,.int .i64 0,.slice none 0 0] 88 (0,0))):=HRES.out
   have HB5:Hid (Below w.heap.size w (w4.drewN nq)):=below_drewN HB4.out _
   go_wp2_with (have _t:=HR5;refine wpList_store_row rfl 88 _ _ rfl w.heap.size #[.int .i64 0,.int .i64 0,.int .i64 0,.int .i64 0,.slice none 0 0] rfl rfl 88 _ HR5.out Tryz.info88 rfl (aO _ _ _ _ _ _ _) ?_)
   refine bodyPost_ret (v:=.tuple #[.agg #[.int .i64 0,.int .i64 0,.int .i64 0,.int .i64 0,.slice none 0 0],.int .i64 0,.int .i64 10]) ?_ rfl ⟨fun h=>absurd h HNO.out,fun _=>rfl,below_setRow HB5.out (Nat.le_refl _) _⟩
   exact aE (p:=10) (u:=11) (u2:=12) (by rfl) _ _ w.heap.size _ _ _ (by rfl) (by rfl) (by rfl) rfl (setRow_heap _ _ _ _ _ _ HR5.out)
theorem sC (pb poff cap:Nat) (l:List Nat) (w:World) (ht:Tab w) (hr:Row w (some ⟨pb,poff,none⟩) l) (hl:l.length<=cap) (hc:cap<=maxLen) (hl2:l.length<=40000) (h48:48<=l.length) (hq:¬Ql l) :
 Calls Tryz.prog 64 #[.slice (some ⟨pb,poff,none⟩) l.length cap,.int .u64 ((getV l 0 8 true:Nat):Int),.int .u64 ((getV l 8 4 true:Nat):Int),.int .u64 ((getV l 16 8 true:Nat):Int),.int .u64 ((getV l 24 8 true:Nat):Int)] w fun e w'=>DecP l w e w':=by
 have hmem:∀x,x ∈ l->x < 256:=bF hr.lt
 by_cases hgo:getV l 16 8 true < 9223372036854775808/\getV l 24 8 true < 9223372036854775808/\¬(getV l 16 8 true<=4611686018427387904/\getV l 24 8 true<=4611686018427387904)/\36<=getV l 8 4 true/\getV l 8 4 true<=l.length - 12/\getV l 8 4 true<=6000
 ·obtain⟨hN48,hNl,hN6⟩:48<=lenN l/\lenN l<=l.length/\lenN l<=6012:=by
   obtain⟨_,_,_,s1,s2,s3⟩:=hgo
   have hN:lenN l=12+getV l 8 4 true:=rfl
   rw[hN]
   clear hN hq
   generalize getV l 8 4 true=X at *
   omega
  obtain⟨z1,z2⟩:=yC (l.take (lenN l)) (by rw[List.length_take,Nat.min_eq_left hNl];exact hN48)
  have hsl:(smL (l.take (lenN l))).length<=l.length:=by rw[uU,List.length_take];exact Nat.min_le_right _ _
  have hdb:∀y g c,Tab y->Row y (some ⟨g,0,none⟩) (smL (l.take (lenN l)))->(smL (l.take (lenN l))).length<=c->c<=maxLen->Calls Tryz.prog 43 #[.slice (some ⟨g,0,none⟩) (smL (l.take (lenN l))).length c] y fun e w'=>DecP (smL (l.take (lenN l))) y e w':=fun y g c t1 t2 t3 t4=>wN _ c _ y t1 t2 t3 t4 (Nat.le_trans hsl hl2) (by rw[z1];decide) (by rw[z2];decide)
  have hto:=fun h=>aEd hmem (l:=l) h
  have hp64:((getV l 16 8 true:Nat):Int)<=9223372036854775807/\((getV l 24 8 true:Nat):Int)<=9223372036854775807:=by
   have h1:=hgo.1
   have h2:=hgo.2.1
   clear hgo hq z1 z2 hto hdb hsl
   exact⟨by clear h2;generalize getV l 16 8 true=X at *;omega,by clear h1;generalize getV l 24 8 true=X at *;omega⟩
  by_cases hok:OkB (smL (l.take (lenN l)))
  ·generalize hQ:smL (l.take (lenN l))=Q at *
   have hnQ:lenN Q<=l.length:=Nat.le_trans hok.nl hsl
   have hi:In64B (wiP (bOf Q) (getV l 16 8 true:Nat) (getV l 24 8 true:Nat)):=hp64
   have hEB:∀i,(encBR (wiP (bOf Q) (getV l 16 8 true:Nat) (getV l 24 8 true:Nat))).getD i 0 < 256:=by
    unfold encBR
    split
    ·rename_i h;exact cG (fP (dD h).1)
    ·intro i;simp
   have hrl:(bOf Q).rs.length<=maxLen:=Nat.le_trans (iJ hok.wr).1 (by decide)
   have key:=aB0 pb poff cap l w ht hr hl hl2 h48 (getV l 0 8 true) (getV l 8 4 true) (getV l 16 8 true) (getV l 24 8 true) (lenN Q) hgo (OkB l) (bOf Q).base (bOf Q).span (bOf Q).prod (bOf Q).seq (bOf Q).rs (encBR (wiP (bOf Q) (getV l 16 8 true:Nat) (getV l 24 8 true:Nat))) (chkB (wiP (bOf Q) (getV l 16 8 true:Nat) (getV l 24 8 true:Nat))) hnQ
    (fun y t1 t2 t9=>lO pb poff cap l y t1 t2 (getV l 8 4 true) (lenN l) rfl hN48 hNl hN6 hl hc _ _ _ _ _ _ _ (fun a' c'=>NwA w a' c') (fun y g c t1 t2 t3 t4 t5=>by
     rw[hQ] at t2 t3 ⊢
     refine(hdb y g c t1 t2 t3 t4).mono ?_
     rintro e w' ⟨h1,_,hb⟩
     obtain⟨a',c',rfl,h2,h3⟩:=h1 hok
     exact⟨a',c',rfl,h2,⟨h3.1,fun g hg=>Nat.le_trans (Nat.le_trans t9 t5) (h3.2 g hg)⟩,hb⟩))
    (fun x a' c' t1 t2=>jW (wiP (bOf Q) (getV l 16 8 true:Nat) (getV l 24 8 true:Nat)) a' c' hi hrl x t1 t2)
    hEB
    (fun h h2=>h (by rw[(hto h2).2.1];exact(hto h2).2.2.2.1))
    (fun h h2=>h (by
     obtain⟨_,e1,e2,e3,e4⟩:=hto h2
     rw[e1]
     unfold encBR
     rw[if_pos e3,e2]
     exact e4))
    (fun h h2=>(vU hnQ hi h2 (by unfold encBR at h;rw[if_pos h2] at h;exact h)).1)
   refine key.mono ?_
   rintro e w' ⟨h1,h2,hb⟩
   refine⟨fun h=>?_,h2,hb⟩
   obtain⟨a',c',rfl,h3,h4⟩:=h1 h
   obtain⟨_,e1,e2,_⟩:=hto h
   rw[<-e1,<-e2]
   exact⟨a',c',rfl,h3,h4⟩
  ·have hnok:¬OkB l:=fun h=>hok (hto h).1
   refine(zG pb poff cap l w ht hr hl2 h48 (getV l 0 8 true) (getV l 8 4 true) (getV l 16 8 true) (getV l 24 8 true) hgo (fun y t1 t2=>?_)).mono ?_
   ·refine(lO pb poff cap l y t1 t2 (getV l 8 4 true) (lenN l) rfl hN48 hNl hN6 hl hc 0 0 0 0 0 10 [] (fun a' c'=>a'=none/\c'=0) (fun y g c t1 t2 t3 t4 t5=>?_)).mono ?_
    ·refine(hdb y g c t1 t2 t3 t4).mono ?_
     rintro e w' ⟨_,h1,hb⟩
     exact⟨none,0,h1 hok,RRow.nil _ _,⟨rfl,rfl⟩,hb⟩
    ·rintro e w' ⟨a',c',rfl,_,⟨rfl,rfl⟩,hb⟩
     exact⟨rfl,hb⟩
   ·rintro e w' ⟨rfl,hb⟩
    exact⟨fun h=>absurd h hnok,fun _=>rfl,hb⟩
 ·have hnok:¬OkB l:=fun h=>by
   obtain⟨b1,b2,b3,b4,b5,b6,b7,b8,b9,ba⟩:=kR hmem h
   apply hgo
   refine⟨Nat.lt_of_le_of_lt b5 (by decide),Nat.lt_of_le_of_lt b6 (by decide),fun hh=>hq ⟨b1,b2,b3,b4,hh.1,hh.2,b7,b8,b9,ba⟩,b1,b2,b3⟩
  refine(uI (some ⟨pb,poff,none⟩) cap l.length w (getV l 0 8 true) (getV l 8 4 true) (getV l 16 8 true) (getV l 24 8 true) (Nat.le_trans (by decide) h48) hl2 hgo).mono ?_
  rintro e w' ⟨rfl,hb⟩
  exact⟨fun h=>absurd h hnok,fun _=>rfl,hb⟩
theorem aCm (a:Option Addr) (cap:Nat) (l:List Nat) (w:World) (ht:Tab w) (hr:Row w a l) (hl:l.length<=cap) (hc:cap<=maxLen) (hl2:l.length<=40000) :
 Calls Tryz.prog 43 #[.slice a l.length cap] w fun e w'=>DecP l w e w':=by
 by_cases h48:l.length < 48
 ·refine(nP a cap l.length w h48).mono ?_
  rintro e w' ⟨rfl,hb⟩
  exact⟨fun h=>absurd h.l48 (Nat.not_le.2 h48),fun _=>rfl,hb⟩
 ·have h48':48<=l.length:=Nat.not_lt.1 h48
  obtain⟨pb,poff,rfl,_,_⟩:=hr 0 (Nat.lt_of_lt_of_le (by decide) h48')
  by_cases hq:Ql l
  ·exact aAi pb poff cap l w ht hr hl hc hl2 h48' hq
  ·have hqq:¬(36<=getV l 8 4 true/\getV l 8 4 true<=l.length - 12/\getV l 8 4 true<=6000/\getV l 0 8 true<=1125899906842624/\getV l 16 8 true<=4611686018427387904/\getV l 24 8 true<=4611686018427387904/\getV l 32 4 true<=100/\1<=getV l 36 4 true/\getV l 36 4 true<=100/\getV l 40 8 true<=1125899906842624):=fun⟨q1,q2,q3,q4,q5,q6,q7,q8,q9,qa⟩=>hq ⟨q1,q2,q3,q4,q5,q6,q7,q8,q9,qa⟩
   by_cases hok:OkB l
   ·refine(pA pb poff cap l w hr hl2 h48' ht (getV l 0 8 true) (getV l 8 4 true) (getV l 16 8 true) (getV l 24 8 true) (getV l 32 4 true) (getV l 36 4 true) (getV l 40 8 true) (bOf l).base (bOf l).span (bOf l).prod (bOf l).seq ((lenN l:Nat):Int) 0 (bOf l).rs (fun a' c'=>NwA w a' c')
    (fun y hy=>aZ (some ⟨pb,poff,none⟩) cap l 0 8 true y hy (Nat.le_trans hl2 (by decide)) (by decide) (by decide) (Nat.le_trans (by decide) h48'))
    (fun y hy=>aZ (some ⟨pb,poff,none⟩) cap l 8 4 true y hy (Nat.le_trans hl2 (by decide)) (by decide) (by decide) (Nat.le_trans (by decide) h48'))
    (fun y hy=>aZ (some ⟨pb,poff,none⟩) cap l 16 8 true y hy (Nat.le_trans hl2 (by decide)) (by decide) (by decide) (Nat.le_trans (by decide) h48'))
    (fun y hy=>aZ (some ⟨pb,poff,none⟩) cap l 24 8 true y hy (Nat.le_trans hl2 (by decide)) (by decide) (by decide) (Nat.le_trans (by decide) h48'))
    (fun y hy=>aZ (some ⟨pb,poff,none⟩) cap l 32 4 true y hy (Nat.le_trans hl2 (by decide)) (by decide) (by decide) (Nat.le_trans (by decide) h48'))
    (fun y hy=>aZ (some ⟨pb,poff,none⟩) cap l 36 4 true y hy (Nat.le_trans hl2 (by decide)) (by decide) (by decide) (Nat.le_trans (by decide) h48'))
    (fun y hy=>aZ (some ⟨pb,poff,none⟩) cap l 40 8 true y hy (Nat.le_trans hl2 (by decide)) (by decide) (by decide) (Nat.le_trans (by decide) h48'))
    (fun y ty hy hz=>?_) hqq).mono ?_
    ·refine(sC pb poff cap l y ty hy hl hc hl2 h48' hq).mono ?_
     rintro e w' ⟨h1,_,hb⟩
     obtain⟨a',c',rfl,h2,h3⟩:=h1 hok
     exact⟨a',c',rfl,h2,⟨h3.1,fun g hg=>Nat.le_trans hz (h3.2 g hg)⟩,hb⟩
    ·rintro e w' ⟨a',c',rfl,h2,h3,hb⟩
     exact⟨fun _=>⟨a',c',rfl,h2,h3⟩,fun h=>absurd hok h,hb⟩
   ·refine(pA pb poff cap l w hr hl2 h48' ht (getV l 0 8 true) (getV l 8 4 true) (getV l 16 8 true) (getV l 24 8 true) (getV l 32 4 true) (getV l 36 4 true) (getV l 40 8 true) 0 0 0 0 0 10 [] (fun a' c'=>a'=none/\c'=0)
    (fun y hy=>aZ (some ⟨pb,poff,none⟩) cap l 0 8 true y hy (Nat.le_trans hl2 (by decide)) (by decide) (by decide) (Nat.le_trans (by decide) h48'))
    (fun y hy=>aZ (some ⟨pb,poff,none⟩) cap l 8 4 true y hy (Nat.le_trans hl2 (by decide)) (by decide) (by decide) (Nat.le_trans (by decide) h48'))
    (fun y hy=>aZ (some ⟨pb,poff,none⟩) cap l 16 8 true y hy (Nat.le_trans hl2 (by decide)) (by decide) (by decide) (Nat.le_trans (by decide) h48'))
    (fun y hy=>aZ (some ⟨pb,poff,none⟩) cap l 24 8 true y hy (Nat.le_trans hl2 (by decide)) (by decide) (by decide) (Nat.le_trans (by decide) h48'))
    (fun y hy=>aZ (some ⟨pb,poff,none⟩) cap l 32 4 true y hy (Nat.le_trans hl2 (by decide)) (by decide) (by decide) (Nat.le_trans (by decide) h48'))
    (fun y hy=>aZ (some ⟨pb,poff,none⟩) cap l 36 4 true y hy (Nat.le_trans hl2 (by decide)) (by decide) (by decide) (Nat.le_trans (by decide) h48'))
    (fun y hy=>aZ (some ⟨pb,poff,none⟩) cap l 40 8 true y hy (Nat.le_trans hl2 (by decide)) (by decide) (by decide) (Nat.le_trans (by decide) h48'))
    (fun y ty hy hz=>?_) hqq).mono ?_
    ·refine(sC pb poff cap l y ty hy hl hc hl2 h48' hq).mono ?_
     rintro e w' ⟨_,h1,hb⟩
     exact⟨none,0,h1 hok,RRow.nil _ _,⟨rfl,rfl⟩,hb⟩
    ·rintro e w' ⟨a',c',rfl,_,⟨rfl,rfl⟩,hb⟩
     exact⟨fun h=>absurd h hok,fun _=>rfl,hb⟩
def wh (f:Nat):Int:=if kd f=2 then 1 else if kd f=0 then 2 else if kd f=1 then 3 else if kd f=3 then 4 else if kd f=6 then 5 else if kd f=4 then 6 else 7
def WBox (w:World) (a:Option Addr) (r:List Nat):Prop:=r=[]∨∃g cs,a=some ⟨g,0,none⟩/\w.heap[g]? = some (.cells cs 78 (0,0))/\∀j,j < r.length->cs[j * 2]? = some (.int .i64 (wh (r.getD j 0)))/\cs[j * 2+1]? = some (.int .i64 ((r.getD j 0:Nat):Int))
def RwP (r:List Nat) (w:World) (e:Ending) (w':World):Prop:=(∃a c,e=.returned (.slice a r.length c)/\WBox w' a r)/\Below w.heap.size w w'
theorem bT {x y:World} {B:Nat} {o:Obj} (h:x.heap[B]? = some o) (hb:Below x.heap.size x y):y.heap[B]? = some o:=(hb.block _ (Array.getElem?_eq_some_iff.1 h).1).trans h
theorem WBox.keep {w w':World} {a:Option Addr} {r:List Nat} (h:WBox w a r) (hk:∀(g:Nat) (cs:Array Value),w.heap[g]? = some (Obj.cells cs 78 (0,0))->w'.heap[g]? = some (Obj.cells cs 78 (0,0))):WBox w' a r:=by
 rcases h with e | ⟨g,cs,e,hx,hc⟩
 ·exact .inl e
 ·exact .inr ⟨g,cs,e,hk g cs hx,hc⟩
theorem tZ {P:Program} {L:List Oper} {Q:Exit->Act->World->Prop} {md:Region.Mode} {S:World->Prop} {n:Nat} (i:Nat) {o:Oper} {r:List Oper} {f:Nat} {l:Array Bool} {a:Act} {w:World} (hi:L.drop i=o::r) (hsel:Region.noSelect L.toArray=true)
 (hs:(Region.sinkB md L.toArray n && Region.chainB md L.toArray n && decide (n < L.toArray.size) && decide (i < n))=true) (hf:Region.free md L.toArray l i=true) (hr:(Region.ready md L.toArray l).contains i=true)
 (ty:TypeId) (x:Operand) (ho:o.op=.load ty x) (b:Nat) (cs:Array Value) (hQ:∀c a w,Q (.panic c) (a.put o.dst (.agg cs)) w->Q (.panic c) a w) (hw:Region.wanted o (yielded L.toArray a.tmps)=true)
 (hx:a.eval x=.pointer (some ⟨b,0,none⟩)) (t:TypeId) (d:TypeDesc) (hc:∀y,S y->y.heap[b]? = some (.cells cs t (0,0))) (hu:P.underlying ty=some d) (hd:(match d with | .struct _ | .array _ _=>true | _=>false)=true) (hi2:(P.info? ty).map (·.size)=some cs.size) (hS:S w)
 (h:LatI P md L.toArray Q S n f (l.setIfInBounds i true) (a.put o.dst (.agg cs)) w):LatI P md L.toArray Q S n (f+1) l a w:=
 LatI.take (dM hi) hsel hs hf hr hQ (.inl ⟨hw,fun y hy=>by
  unfold execOp
  simp only[ho,hx,Instr.loadAt,Instr.sureAddr,Sem.run_bind,Sem.run_pure,Result.andThen_ok,run_loadVar_row y b t ty cs (0,0) d (hc y hy) hu hd hi2]⟩) hS h
theorem cD (k i:Int) (x:World):(Instr.build 73 #[(0,.int .i64 k),(1,.int .i64 i)]).run Tryz.prog x=.ok (.agg (gbc k i (fun _=>⟨#[]⟩) (fun _=>0) false (.slice none 0 0) (.slice none 0 0) (.slice none 0 0) (.slice none 0 0))) x:=by
 refine run_build (P:=Tryz.prog) x 73 _ _ ?_
 kernel_rfl
end Go.Proofs.YtaooidckmepdeaaGreatDoor
