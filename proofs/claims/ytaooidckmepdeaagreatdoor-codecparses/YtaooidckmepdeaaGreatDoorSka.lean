/- Mem Zig Var Unv Str Rd Rt App Ck Jn Lat En Pd Pe Ds Rvr Tx Pf -/
import Derived.Test.YtaooidckmepdeaaGreatDoorRows
import Derived.ProofKit
import Derived.Below
import Derived.Deep.QuietTactic
import Derived.BigQuiet
import Derived.WalkSmall
import Derived.Laws.CopyOwn
import Derived.Laws.BitsAllLaws
import Derived.WalkKit
import Derived.OwnWalk
import Derived.Laws.BytesArg
import Derived.Laws.Rows
import Derived.Laws.Tables
import Derived.ArgAppend
import Derived.Laws.AppendOwnNone
import Derived.BigFrame
import Derived.Laws.IdiomStrings
import Derived.Deep.RegionHeld3
import Derived.StillTail
import Derived.Laws.ResultCell
namespace Go.Proofs.YtaooidckmepdeaaGreatDoor
set_option linter.unusedSimpArgs false
set_option linter.unusedVariables false
set_option maxRecDepth 100000
set_option maxHeartbeats 6400000
open Go.RowKit
def iof:Value->Int | .int _ q=>q | _=>0
theorem cN {k:IntKind} {a b:Int} (h:a=b):Ending.returned (.int k a)=.returned (.int k b):=by rw[h]
def Row (w:World) (a:Option Addr) (l:List Nat):Prop:=
 ∀i,i < l.length->∃b off,a=some ⟨b,off,none⟩/\w.cell? ⟨b,off+i,none⟩=some (.int .u8 ((l.getD i 0:Nat):Int))/\l.getD i 0 < 256
theorem Row.below {w w':World} {a:Option Addr} {l:List Nat} (h:Row w a l) (hb:Below w.heap.size w w'):Row w' a l:=by
 intro i hi
 obtain⟨b,off,e,hc,hl⟩:=h i hi
 exact⟨b,off,e,by rw[hb.cell (World.block_lt_of_cell? _ _ hc)];exact hc,hl⟩
theorem Row.drewN {w:World} {a:Option Addr} {l:List Nat} (h:Row w a l) (n:Nat):Row (w.drewN n) a l:=h
theorem Row.nil (w:World) (a:Option Addr):Row w a []:=by intro i hi;simp at hi
theorem jA {a b:Bool} (h:a=b):Ending.returned (.bool a)=.returned (.bool b):=by rw[h]
theorem hU (l:List Nat) (i:Nat) (h:l.length<=i):l.getD i 0=0:=by simp[List.getD,List.getElem?_eq_none h]
theorem gQ {l m:List Nat} (h:l.length=m.length) (h2:∀i,i < l.length->l.getD i 0=m.getD i 0):l=m:=by
 apply List.ext_getElem h
 intro i a b
 have:=h2 i a
 simpa [List.getD,a,b] using this
theorem Tryz.info5:(Tryz.prog.info? 5).map (fun i=>(i.zero,i.size,i.bytes))=some (some (.int .u8 0),1,1):=by kernel_rfl
def cv (l:List Nat):List Value:=l.map fun c=>Value.int .u8 ((c:Nat):Int)
theorem aQ (l:List Nat):(cv l).length=l.length:=by simp[cv]
theorem dR (l m:List Nat):cv (l++m)=cv l++cv m:=by simp[cv]
theorem iC (l:List Nat) (i:Nat) (h:i < l.length):(cv l)[i]? = some (.int .u8 ((l.getD i 0:Nat):Int)):=by simp[cv,List.getD,h]
theorem one_cell {wr:World} {x:Int} {c:Nat} (h:x=c):∀j u,(cv [c])[j]? = some u->(wr.alloc (Obj.cells #[Value.int .u8 x] 5)).cell? ((⟨wr.heap.size,0,none⟩:Addr).add j)=some u:=by
 intro j u hj
 match j,hj with
 | 0,hj=>simp[cv] at hj;subst hj;subst h;simp[Addr.add]
theorem eF (l:List Nat):∀u,u ∈ cv l->u.oneCell'=true:=by
 intro u hu
 simp only[cv,List.mem_map] at hu
 obtain⟨c,_,rfl⟩:=hu
 rfl
theorem iN {B:Nat} {w0 w w1:World} {v v':Value} {o:Obj} {acc:List Nat} {c:Nat} (hown:w.ownsRow B 5 1 v acc.length (cv acc)) (hB:Below B w0 w) (hBs:B<=w.heap.size)
 (h:w1.ownsRow B 5 1 v' (acc.length+1) (cv acc++cv [c])) (hg:(w.alloc o).grownBy w1 v.ownBlock) :
 w1.ownsRow B 5 1 v' (acc++[c]).length (cv (acc++[c]))/\Below B w0 w1:=by
 refine⟨by rw[dR,List.length_append];exact h,?_⟩
 exact(hB.alloc hBs o).grown hg (by simp;omega) (fun k hk=>(hown.lt k hk).1)
theorem aAh {w:World} {B:Nat} {v:Value} {l:List Nat} (h:w.ownsRow B 5 1 v l.length (cv l)) (hb:∀i,l.getD i 0 < 256):∃a cap,v=.slice a l.length cap/\Row w a l/\l.length<=maxLen:=by
 rcases h.2 with⟨rfl,h0⟩ | ⟨g,cap,cur,rfl,hB,hg,hle,hm,_,_⟩
 ·refine⟨none,0,by rw[h0],?_,by rw[h0];decide⟩
  intro i hi;omega
 ·refine⟨_,cap,rfl,?_,by omega⟩
  intro i hi
  refine⟨g,0,rfl,?_,hb i⟩
  have:=h.cells (g:=g) rfl i _ (iC l i hi)
  simpa [Addr.add_lit] using this
def Own (B:Nat) (w:World) (g cap:Nat) (l:List Nat):Prop:=w.ownsRow B 5 1 (.slice (some ⟨g,0,none⟩) l.length cap) l.length (cv l)
theorem Own.row {B:Nat} {w:World} {g cap:Nat} {l:List Nat} (h:Own B w g cap l) (hb:∀i,l.getD i 0 < 256):Row w (some ⟨g,0,none⟩) l:=by
 obtain⟨a,c,e,hr,_⟩:=aAh h hb
 injection e with e1 e2 e3
 rw[e1];exact hr
theorem Own.ge {B:Nat} {w:World} {g cap:Nat} {l:List Nat} (h:Own B w g cap l):B<=g/\g < w.heap.size:=World.ownsRow.lt h g rfl
theorem Own.le {B:Nat} {w:World} {g cap:Nat} {l:List Nat} (h:Own B w g cap l):l.length<=cap/\cap<=maxLen:=by
 rcases h.2 with⟨e,_⟩ | ⟨g',cap',cur,e,_,_,hle,hm,_,_⟩
 ·cases e
 ·injection e with e1 e2 e3;subst e3;exact⟨hle,hm⟩
theorem Own.cell {B:Nat} {w:World} {g cap:Nat} {l:List Nat} (h:Own B w g cap l) (i:Nat) (hi:i < l.length):w.cell? ⟨g,i,none⟩=some (.int .u8 ((l.getD i 0:Nat):Int)):=by
 rw[World.ownsRow.cellAt h i (by omega)];exact iC l i hi
theorem Own.free {B:Nat} {w:World} {g cap:Nat} {l:List Nat} (h:Own B w g cap l) (i:Nat):w.frozen? ⟨g,i,none⟩=false:=World.ownsRow.frozenAt h i
theorem aGp (l:List Nat) (i c:Nat):cv (l.set i c)=(cv l).set i (.int .u8 ((c:Nat):Int)):=by simp[cv,List.map_set]
theorem Own.store {B:Nat} {w:World} {g cap:Nat} {l:List Nat} (h:Own B w g cap l) (i c:Nat):Own B (w.setCell ⟨g,i,none⟩ (.int .u8 ((c:Nat):Int))) g cap (l.set i c):=by
 have:=World.ownsRow.stored h i (.int .u8 ((c:Nat):Int))
 unfold Own
 rw[aGp,List.length_set]
 exact this.1
theorem Own.below {B:Nat} {w w':World} {g cap:Nat} {l:List Nat} (h:Own B w g cap l) (hb:Below w.heap.size w w'):Own B w' g cap l:=
 World.ownsRow.kept (row:=none) h ⟨hb.os,hb.tape,hb.output,hb.size,fun k hk _=>hb.block k hk⟩ (Or.inr (by simp[Value.ownBlock]))
theorem Own.drewN {B:Nat} {w:World} {g cap:Nat} {l:List Nat} (h:Own B w g cap l) (n:Nat):Own B (w.drewN n) g cap l:=h
theorem aBe {B:Nat} {w:World} {g n:Nat} {cs:List Value} {l:List Nat} (hB:B<=g) (hn:n=l.length) (hm:n<=maxLen) (hc:cs=cv l) (h:w.heap[g]? = some (.cells cs.toArray 5 (0,0))):Own B w g n l:=by
 subst hc;subst hn
 exact⟨by simp[cv],.inr ⟨g,l.length,(cv l).toArray,rfl,hB,h,Nat.le_refl _,hm,by simp[cv],List.take_of_length_le (by simp[cv])⟩⟩
theorem jG {w w1:World} (hg:w.grownBy w1 none):Below w.heap.size w w1:=(Below.refl w.heap.size w).grown hg (Nat.le_refl _) (fun k hk=>by cases hk)
theorem qF {B g n:Nat} {w1:World} {xs:List Value} (h:w1.ownsRow B 5 1 (.slice (some ⟨g,0,none⟩) n n) n xs):∃cur:List Value,w1.heap[g]? = some (.cells cur.toArray 5 (0,0))/\cur.length=n:=by
 rcases h.2 with⟨e,_⟩ | ⟨g',cap',cur,e,_,hg,_,_,hcs,_⟩
 ·cases e
 ·injection e with e1 e2 e3
  injection e1 with e1
  injection e1 with e1
  subst e1;subst e3
  exact⟨cur.toList,by simpa using hg,by simpa using hcs⟩
theorem kD {w:World} {a:Option Addr} {l:List Nat} (h:Row w a l) (h0:0 < (cv l).length):∃ad,a=some ad/\∀j v,(cv l)[j]? = some v->w.cell? (ad.add j)=some v:=by
 rw[aQ] at h0
 obtain⟨b,off,rfl,_,_⟩:=h 0 h0
 refine⟨_,rfl,fun j v hj=>?_⟩
 have hjl:j < l.length:=by
  have:=(List.getElem?_eq_some_iff.1 hj).1
  rwa [aQ] at this
 obtain⟨b',off',e,hc,_⟩:=h j hjl
 simp only[Option.some.injEq,Addr.mk.injEq,and_true] at e
 obtain⟨rfl,rfl⟩:=e
 rw[iC l j hjl] at hj
 rw[Addr.add_lit,hc,hj]
theorem nA (cur cs:List Value) (h:cur.length=cs.length):splice cur 0 cs=cs:=by
 unfold splice
 rw[List.drop_eq_nil_of_le (by omega)]
 simp
theorem aC0 {a:Int} (h:(Lit.int .i64 a).wf=true):-9223372036854775808<=a/\a<=9223372036854775807:=by
 simpa [Lit.wf,IntKind.min,IntKind.max,IntKind.signed,IntKind.bits] using h
theorem aH6 {a:Int} (h:(Lit.int .u8 a).wf=true):0<=a/\a<=255:=by
 simpa [Lit.wf,IntKind.min,IntKind.max,IntKind.signed,IntKind.bits] using h
theorem pH {W:World} {x:Addr} {len cap:Nat} {zs:List Int} (hl:len<=cap) (hm:cap<=maxLen) (hz:zs.length=cap)
 (hcell:∀i,i < zs.length->W.cell? (x.add i)=some (.int .u8 (zs.getD i 0))) (hwz:∀n ∈ zs,(Lit.int .u8 n).wf=true) :
 ∃l:List Nat,len=l.length/\Row W (some x) l/\l.length<=maxLen:=by
 have hlen:(zs.take len).length=len:=by simp;omega
 refine⟨(zs.take len).map Int.toNat,by simp;omega,?_,by simp;omega⟩
 intro i hi
 have hi':i < len:=by simp at hi;omega
 have hiz:i < zs.length:=by omega
 have hc:=hcell i hiz
 have hb:=aH6 (hwz _ (List.getElem_mem hiz))
 obtain⟨b,off,spot⟩:=x
 have hspot:spot=none:=by
  have h0:=hcell 0 (by omega)
  simpa [Addr.add] using World.cell?_spot h0
 subst hspot
 have e:((zs.take len).map Int.toNat).getD i 0=(zs[i]).toNat:=by
  simp[List.getD,List.getElem?_take,hi',hiz]
 have e2:zs.getD i 0=zs[i]:=by simp[List.getD,hiz]
 rw[Addr.add_lit,e2] at hc
 refine⟨b,off,rfl,?_,?_⟩
 ·rw[hc,e]
  have:((zs[i].toNat:Nat):Int)=zs[i]:=by omega
  rw[this]
 ·rw[e];omega
theorem iB {w:World} {ad:Addr} {l:List Nat} (h:Row w (some ad) l):∀j u,(cv l)[j]? = some u->w.cell? (ad.add j)=some u:=by
 intro j u hj
 have hjl:j < l.length:=by
  have:=(List.getElem?_eq_some_iff.1 hj).1
  rwa [aQ] at this
 obtain⟨ad',e,h2⟩:=kD h (by rw[aQ];omega)
 injection e with e
 subst e
 exact h2 j u hj
theorem nF {w:World} {l:List Nat} (h:Row w none l):l=[]:=by
 match l,h with
 | [],_=>rfl
 | c::r,h=>
  obtain⟨_,_,e,_⟩:=h 0 (by simp)
  cases e
theorem xC {w:World} {a:Option Addr} {l t:List Nat} (h:Row w a (l++t)):Row w a l:=by
 intro i hi
 obtain⟨b,off,e,hc,hl⟩:=h i (by simp;omega)
 have e2:(l++t).getD i 0=l.getD i 0:=by simp[List.getD,List.getElem?_append,hi]
 rw[e2] at hc hl
 exact⟨b,off,e,hc,hl⟩
theorem kV {w:World} {B:Nat} {v:Value} {l:List Nat} (h:w.ownsRow B 5 1 v l.length (cv l)) (h0:0 < l.length):∃g cap,v=.slice (some ⟨g,0,none⟩) l.length cap/\Own B w g cap l:=by
 rcases h.2 with⟨rfl,e⟩ | ⟨g,cap,cur,rfl,_⟩
 ·omega
 ·exact⟨g,cap,rfl,h⟩
theorem aBu {B:Nat} {w0 w w1:World} {v:Value} {n:Nat} {xs:List Value} (hown:w.ownsRow B 5 1 v n xs) (hB:Below B w0 w) (hBs:B<=w.heap.size) (hg:w.grownBy w1 v.ownBlock):Below B w0 w1:=
 hB.grown hg hBs (fun k hk=>(hown.lt k hk).1)
theorem kP (w:World) (l:List Nat) (h:∀i,l.getD i 0 < 256):Row (w.alloc (.cells (cv l).toArray 5)) (some ⟨w.heap.size,0,none⟩) l:=by
 intro i hi
 refine⟨w.heap.size,0,rfl,?_,h i⟩
 rw[cell_of_row _ w.heap.size (0+i) (cv l).toArray 5 (0,0) (heap_alloc_new w _)]
 simpa using iC l i hi
theorem Row.lt {w:World} {a:Option Addr} {l:List Nat} (h:Row w a l) (i:Nat):l.getD i 0 < 256:=by
 by_cases hi:i < l.length
 ·obtain⟨_,_,_,_,h⟩:=h i hi;exact h
 ·rw[hU _ _ (by omega)];omega
theorem w64 (n:Int) (h0:-9223372036854775808<=n) (h1:n<=9223372036854775807):wrap64 n=n:=by unfold wrap64;omega
theorem wu64 (n:Int) (h0:0<=n) (h1:n<=18446744073709551615):IntKind.u64.wrap n=n:=by rw[IntKind.wrap_u64];omega
theorem aA8 (x:Nat) (h:x < 18446744073709551616):x ^^^ 18446744073709551615=18446744073709551615 - x:=by
 have e:=congrArg BitVec.toNat (BitVec.xor_allOnes (x:=BitVec.ofNat 64 x))
 simp only[BitVec.toNat_xor,BitVec.toNat_not,BitVec.toNat_ofNat,BitVec.toNat_allOnes] at e
 rw[Nat.mod_eq_of_lt (by omega)] at e
 exact e
def zig (v:Int):Int:=if 0<=v then 2 * v else -2 * v - 1
theorem pV (v:Int) (h0:-9223372036854775808<=v) (h1:v<=9223372036854775807):0<=zig v/\zig v<=18446744073709551615:=by unfold zig;split<;>omega
theorem aAb (v:Int) (h0:-9223372036854775808<=v) (h1:v<=9223372036854775807) :
 bits .xor .u64 (IntKind.u64.wrap (IntKind.u64.wrap v * 2)) (IntKind.u64.wrap (v / 9223372036854775808))=zig v:=by
 simp only[IntKind.wrap_u64]
 by_cases h:0<=v
 ·rw[show v / 9223372036854775808=0 by omega,show v % 18446744073709551616 * 2 % 18446744073709551616=2 * v by omega,u64_xor _ _ (by omega) (by omega) (by omega) (by omega)]
  simp[zig,h]
  omega
 ·rw[show v / 9223372036854775808 = -1 by omega,show v % 18446744073709551616 * 2 % 18446744073709551616=18446744073709551616+2 * v by omega,u64_xor _ _ (by omega) (by omega) (by omega) (by omega)]
  rw[show((-1:Int) % 18446744073709551616).toNat=18446744073709551615 by decide,aA8 _ (by omega)]
  simp[zig,h]
  omega
def zag (u:Int):Int:=if u % 2=0 then u / 2 else -(u / 2) - 1
theorem oQ (x:Int) (h0:0<=x) (h1:x<=9223372036854775807):bits .xor .i64 x 0=x:=by
 obtain⟨n,rfl⟩:=Int.eq_ofNat_of_zero_le h0
 have e2:(BitVec.ofInt 64 (n:Int)).toNat=n:=ofInt_u64 n (by omega)
 show IntKind.i64.wrap ((BitVec.ofInt 64 (n:Int) ^^^ BitVec.ofInt 64 0).toNat:Nat)=_
 rw[BitVec.toNat_xor,e2,show(BitVec.ofInt 64 0).toNat=0 by decide,Nat.xor_zero,IntKind.wrap_i64]
 omega
theorem pQ (x:Int) (h0:0<=x) (h1:x<=9223372036854775807):bits .xor .i64 x (-1) = -1 - x:=by
 obtain⟨n,rfl⟩:=Int.eq_ofNat_of_zero_le h0
 have e1:BitVec.ofInt 64 (-1)=BitVec.allOnes 64:=by decide
 have e2:(BitVec.ofInt 64 (n:Int)).toNat=n:=ofInt_u64 n (by omega)
 show IntKind.i64.wrap ((BitVec.ofInt 64 (n:Int) ^^^ BitVec.ofInt 64 (-1)).toNat:Nat)=_
 rw[e1,BitVec.xor_allOnes,BitVec.toNat_not,e2,IntKind.wrap_i64]
 omega
theorem aA1 (u:Int) (h0:0<=u) (h1:u<=18446744073709551615) :
 bits .xor .i64 (u / 2) (wrap64 (-wrap64 (bits .and .u64 u 1)))=zag u:=by
 have e:bits .and .u64 u 1=u % 2:=by
  rw[u64_and _ _ (by omega) (by omega) (by omega) (by omega)]
  rw[show((1:Int).toNat)=2 ^ 1 - 1 by decide,Nat.and_two_pow_sub_one_eq_mod]
  omega
 rw[e,w64 (u % 2) (by omega) (by omega),w64 (-(u % 2)) (by omega) (by omega)]
 unfold zag
 by_cases h:u % 2=0
 ·rw[h,if_pos rfl];exact oQ _ (by omega) (by omega)
 ·rw[if_neg h,show u % 2=1 by omega,pQ _ (by omega) (by omega)];omega
theorem aBr (v:Int):zag (zig v)=v:=by unfold zag zig;split<;>split<;>omega
theorem yE (v:Int) (w:World) (h0:-9223372036854775808<=v) (h1:v<=9223372036854775807) :
 Calls Tryz.prog 107 #[.int .i64 v] w fun e w'=>e=.returned (.int .u64 (zig v))/\w'=w:=by
 go_enter Tryz.func107,Tryz.ntmps107
 go_wp2
 go_ret
 exact⟨cN (aAb v h0 h1),rfl⟩
theorem aEk (u:Int) (w:World) (h0:0<=u) (h1:u<=18446744073709551615) :
 Calls Tryz.prog 116 #[.int .u64 u] w fun e w'=>e=.returned (.int .i64 (zag u))/\w'=w:=by
 go_enter Tryz.func116,Tryz.ntmps116
 go_wp2
 go_ret
 exact⟨cN (aA1 u h0 h1),rfl⟩
theorem zR (u:Int) (w:World) (h0:0<=u) (h1:u<=18446744073709551615) :
 Calls Tryz.prog 87 #[.int .u64 u] w fun e w'=>e=.returned (.int .i64 (zag u))/\w'=w:=by
 go_enter Tryz.func87,Tryz.ntmps87
 go_wp2
 go_ret
 exact⟨cN (aA1 u h0 h1),rfl⟩
def vr:Nat->Nat->List Nat
 | 0,v=>[v]
 | f+1,v=>if v < 128 then [v] else (v % 128+128)::vr f (v / 128)
def groups (v:Nat):List Nat:=vr 9 v
structure VrAt (out:List Nat) (acc:List Nat) (V:Nat):Prop where
 len:acc.length<=9
 lt:V < 2 ^ (64 - 7 * acc.length)
 go:acc++vr (9 - acc.length) V=out
theorem VrAt.start (V:Nat) (h:V<=18446744073709551615):VrAt (groups V) [] V:=⟨by simp,by simp;omega,rfl⟩
theorem VrAt.stop {out acc:List Nat} {V:Nat} (h:VrAt out acc V) (hV:V < 128):acc++[V]=out:=by
 rw[<-h.go]
 generalize 9 - acc.length=f
 cases f<;>simp[vr,hV]
theorem VrAt.more {out acc:List Nat} {V:Nat} (h:VrAt out acc V) (hV:128<=V):VrAt out (acc++[V % 128+128]) (V / 128):=by
 have h9:acc.length≠9:=by
  intro e
  have:=h.lt
  rw[e] at this
  have e2:2 ^ (64 - 7 * 9)=2:=by decide
  omega
 have hl:=h.len
 refine⟨by simp;omega,?_,?_⟩
 ·have:=h.lt
  rw[show 64 - 7 * acc.length=(64 - 7 * (acc++[V % 128+128]).length)+7 by simp;omega,Nat.pow_add] at this
  omega
 ·rw[<-h.go,show 9 - acc.length=(9 - (acc++[V % 128+128]).length)+1 by simp;omega]
  simp only[vr]
  rw[if_neg (by omega)]
  simp
theorem VrAt.bd {out acc:List Nat} {V:Nat} (h:VrAt out acc V):V<=18446744073709551615:=by
 have:=h.lt
 have h2:=Nat.pow_le_pow_right (n:=2) (by decide) (show 64 - 7 * acc.length<=64 by omega)
 omega
theorem or128_nat:∀x:Fin 256,x.val ||| 128=x.val % 128+128:=by decide +kernel
theorem aHn (f V:Nat) (h:V < 2 ^ (7 * f+7)):∀i,(vr f V).getD i 0 < 256:=by
 induction f generalizing V with
 | zero=>
  intro i
  match i with
  | 0=>simp[vr];omega
  | i+1=>simp[vr]
 | succ f ih=>
  intro i
  simp only[vr]
  split
  ·match i with
   | 0=>simp;omega
   | i+1=>simp
  ·match i with
   | 0=>simp;omega
   | i+1=>
    have:=ih (V / 128) (by rw[show 7 * (f+1)+7=(7 * f+7)+7 by omega,Nat.pow_add] at h;omega) i
    simpa using this
theorem fK (V:Nat) (h:V<=18446744073709551615):∀i,(groups V).getD i 0 < 256:=aHn 9 V (by omega)
theorem aF1 (f V:Nat):1<=(vr f V).length/\(vr f V).length<=f+1:=by
 induction f generalizing V with
 | zero=>simp[vr]
 | succ f ih=>
  simp only[vr]
  split
  ·simp
  ·have:=ih (V / 128);simp;omega
theorem aU (V:Nat):1<=(groups V).length/\(groups V).length<=10:=aF1 9 V
def uv:List Nat->Nat->Nat->Nat × Nat
 | [],_,_=>(0,0)
 | c::r,i,v=>if i=9/\1 < c then (0,0) else if 128<=c then uv r (i+1) (v+c % 128 * 128 ^ i) else if c=0/\0 < i then (0,0) else (v+c % 128 * 128 ^ i,i+1)
theorem drop_at (l:List Nat) (k:Nat) (h:k < l.length):l.drop k=l.getD k 0::l.drop (k+1):=by
 rw[List.drop_eq_getElem_cons h];simp[List.getD,h]
theorem aC3 (n:Nat) (h:n<=9):(128:Nat) ^ n<=9223372036854775808:=by
 have:=Nat.pow_le_pow_right (n:=128) (by decide) h
 omega
theorem u8_and127 (c:Nat) (h:c < 256):bits .and .u8 (c:Int) 127=((c % 128:Nat):Int):=by
 rw[u8_and _ _ (by omega) (by omega) (by omega) (by omega),show((127:Int).toNat)=2 ^ 7 - 1 by decide,Nat.and_two_pow_sub_one_eq_mod]
 simp
theorem or7 (V c k:Nat) (hk:k<=9) (h9:k=9->c<=1) (hV:V < 128 ^ k) (hc:c < 128):bits .or .u64 (V:Int) (IntKind.u64.wrap ((c:Int) * 2 ^ (7 * k)))=((V+c * 128 ^ k:Nat):Int):=by
 have hb:c * 128 ^ k+128 ^ k<=18446744073709551616:=by
  by_cases h:k=9
  ·have:c * 128 ^ k<=1 * 128 ^ k:=Nat.mul_le_mul_right _ (h9 h)
   have:=aC3 k hk
   omega
  ·have h1:c * 128 ^ k<=127 * 128 ^ k:=Nat.mul_le_mul_right _ (by omega)
   have h2:=aC3 (k+1) (by omega)
   rw[Nat.pow_succ] at h2
   omega
 have h3:=aC3 k hk
 have e:((c:Int) * 2 ^ (7 * k))=((c * 128 ^ k:Nat):Int):=by
  have:(128:Nat) ^ k=2 ^ (7 * k):=by rw[Nat.pow_mul]
  rw[this];simp
 rw[e,wu64 _ (by omega) (by omega),u64_or_nat _ _ (by omega) (by omega),Nat.or_comm,nat_join (7 * k) _ _ ?_ ?_,Nat.add_comm]
 ·rw[Nat.pow_mul];exact Nat.mul_mod_left _ _
 ·rw[Nat.pow_mul];exact hV
theorem uE (V c k:Nat) (hV:V < 128 ^ k):V+c % 128 * 128 ^ k < 128 ^ (k+1):=by
 have h1:c % 128 * 128 ^ k<=127 * 128 ^ k:=Nat.mul_le_mul_right _ (by omega)
 rw[Nat.pow_succ];omega
theorem oN {k j:IntKind} {a b c d:Int} (h:a=b) (h2:c=d):Ending.returned (.tuple #[.int k a,.int j c])=.returned (.tuple #[.int k b,.int j d]):=by rw[h,h2]
theorem dE (c:Nat) (r:List Nat) (i v:Nat):uv (c::r) i v=if i=9/\1 < c then (0,0) else if 128<=c then uv r (i+1) (v+c % 128 * 128 ^ i) else if c=0/\0 < i then (0,0) else (v+c % 128 * 128 ^ i,i+1):=rfl
structure UvAt (l:List Nat) (r:Nat × Nat) (k V:Nat):Prop where
 lt:V < 128 ^ k
 go:uv (l.drop k) k V=r
theorem aB8 (a:Option Addr) (cap:Nat) (l:List Nat) (w:World) (hr:Row w a l) (hl:l.length<=maxLen) :
 Calls Tryz.prog 123 #[.slice a l.length cap] w fun e w'=>e=.returned (.tuple #[.int .u64 ((uv l 0 0).1:Nat),.int .i64 ((uv l 0 0).2:Nat)])/\w'=w:=by
 unfold maxLen at hl
 obtain⟨r,HR⟩:∃r,Hid (uv l 0 0=r):=⟨_,rfl⟩
 rw[HR.out]
 go_enter Tryz.func123,Tryz.ntmps123
 go_wp2
 go_loop [2,8] (fun v i=>∃k V:Nat,k<=l.length/\k<=9/\i=.int .i64 k/\v=.int .u64 V/\UvAt l r k V) (fun _ i=>l.length - (intOf i).toNat)
 case atStart=>exact⟨0,0,by omega,by omega,rfl,rfl,by omega,HR.out⟩
 case round=>
  obtain⟨k,V,hk,hk9,rfl,rfl,hV,hu⟩:=hrel
  have HU:Hid (uv (l.drop k) k V=r):=hu
  clear hu HR
  by_cases hlt:k < l.length
  ·obtain⟨b,off,rfl,hc,hlt2⟩:=hr k hlt
   have HC:Hid (uv (l.getD k 0::l.drop (k+1)) k V=r):=by rw[<-drop_at l k hlt];exact HU
   clear hr HU
   generalize l.getD k 0=c at *
   have HV:Hid (V < 128 ^ k):=hV
   clear hV
   have h127:=u8_and127 c hlt2
   have hltI:(k:Int) < (l.length:Int):=by omega
   by_cases h9:k=9/\1 < c
   ·have HE:Hid (r=(0,0)):=by rw[<-HC.out,dE,if_pos h9];exact rfl
    have hk9':((k:Int) == 9)=true:=by rw[beq_iff_eq];omega
    have h1c:1 < (c:Int):=by omega
    clear HC h9
    go_wp2
    go_ret2
    rw[HE.out]
    exact⟨rfl,rfl⟩
   ·have HOR:Hid (bits .or .u64 (V:Int) (IntKind.u64.wrap ((c:Int) % 128 * 2 ^ (7 * k)))=((V+c % 128 * 128 ^ k:Nat):Int)):=
     or7 V (c % 128) k hk9 (by
      intro e;have:c<=1:=by omega
      omega) HV.out (by omega)
    have hd9:((k:Int) == 9 && decide (1 < (c:Int)))=false:=by
     by_cases h:k=9
     ·have:c<=1:=by omega
      simp;intro _;omega
     ·simp;intro e;omega
    by_cases h128:128<=c
    ·have HE:Hid (uv (l.drop (k+1)) (k+1) (V+c % 128 * 128 ^ k)=r):=by rw[<-HC.out,dE,if_neg h9,if_pos h128];exact rfl
     have hk9':k≠9:=by intro e;exact h9 ⟨e,by omega⟩
     have hkb:((k:Int) == 9)=false:=by rw[beq_eq_false_iff_ne];omega
     clear HC h9 hd9
     go_wp2
     go_round
     case rel=>exact⟨k+1,V+c % 128 * 128 ^ k,by omega,by omega,by go_num,by rw[HOR.out],uE V c k HV.out,HE.out⟩
     case measure=>simp[intOf];omega
    ·by_cases h00:c=0/\0 < k
     ·have HE:Hid (r=(0,0)):=by rw[<-HC.out,dE,if_neg h9,if_neg h128,if_pos h00];exact rfl
      obtain⟨rfl,hk0⟩:=h00
      clear HC h9
      by_cases hk9':((k:Int) == 9)=true
      ·go_wp2
       go_ret2
       rw[HE.out]
       exact⟨rfl,rfl⟩
      ·have hk9'':((k:Int) == 9)=false:=by simpa using hk9'
       clear hk9'
       go_wp2
       go_ret2
       rw[HE.out]
       exact⟨rfl,rfl⟩
     ·have HE:Hid (r=(V+c % 128 * 128 ^ k,k+1)):=by rw[<-HC.out,dE,if_neg h9,if_neg h128,if_neg h00];exact rfl
      clear HC
      have hc1:¬128<=(c:Int):=by omega
      by_cases hk9':((k:Int) == 9)=true
      ·have hk:k=9:=by have:=WalkArith.int_eq hk9';omega
       have hc1:¬1 < (c:Int):=by intro e;exact h9 ⟨hk,by omega⟩
       have hc0:((c:Int) == 0)=false:=by rw[beq_eq_false_iff_ne];intro e;exact h00 ⟨by omega,by omega⟩
       clear h9 h00 hk hd9
       go_wp2
       go_ret2
       rw[HE.out]
       exact⟨oN (by rw[HOR.out]) (by omega),rfl⟩
      ·have hk9'':((k:Int) == 9)=false:=by simpa using hk9'
       clear hk9'
       by_cases hc0:((c:Int) == 0)=true
       ·have hk0:¬(0:Int) < k:=by have:=WalkArith.int_eq hc0;intro e;exact h00 ⟨by omega,by omega⟩
        clear h9 h00 hd9
        go_wp2
        go_ret2
        rw[HE.out]
        exact⟨oN (by rw[HOR.out]) (by omega),rfl⟩
       ·have hc0':((c:Int) == 0)=false:=by simpa using hc0
        clear h9 h00 hc0 hd9
        go_wp2
        go_ret2
        rw[HE.out]
        exact⟨oN (by rw[HOR.out]) (by omega),rfl⟩
  ·have HE:Hid (r=(0,0)):=by rw[<-HU.out,List.drop_eq_nil_of_le (by omega)];exact rfl
   go_wp2
   go_ret2
   rw[HE.out]
   exact⟨rfl,rfl⟩
def Buf (B:Nat) (w:World) (g cap:Nat) (l:List Nat):Prop:=Own B w g cap l∨(Row w (some ⟨g,0,none⟩) l/\cap=l.length)
theorem Buf.row {B:Nat} {w:World} {g cap:Nat} {l:List Nat} (h:Buf B w g cap l) (hb:∀i,l.getD i 0 < 256):Row w (some ⟨g,0,none⟩) l:=by
 rcases h with h | h
 ·exact h.row hb
 ·exact h.1
theorem Buf.below {B:Nat} {w w':World} {g cap:Nat} {l:List Nat} (h:Buf B w g cap l) (hb:Below w.heap.size w w'):Buf B w' g cap l:=by
 rcases h with h | h
 ·exact .inl (h.below hb)
 ·exact .inr ⟨h.1.below hb,h.2⟩
def strN (l:List Nat):ByteArray:=strOfNums (l.map fun(c:Nat)=>(c:Int))
theorem jN {w:World} {a:Option Addr} {l:List Nat} (cap:Nat) (hr:Row w a l):(convert 22 9 (.slice a l.length cap)).run Tryz.prog w=.ok (.string (strN l)) w:=by
 by_cases h0:0 < l.length
 ·obtain⟨b,off,rfl,_,_⟩:=hr 0 h0
  refine run_convert_bytes_arg (P:=Tryz.prog) w 22 5 Tryz.underlying22 Tryz.underlying5 b off l.length cap (l.map fun(c:Nat)=>(c:Int)) (by simp) ?_ 9 Tryz.underlying9
  intro i hi
  obtain⟨b',off',e,hc,_⟩:=hr i hi
  simp only[Option.some.injEq,Addr.mk.injEq,and_true] at e
  obtain⟨rfl,rfl⟩:=e
  rw[hc]
  simp[List.getD,hi]
 ·obtain rfl:l=[]:=List.eq_nil_of_length_eq_zero (by omega)
  rw[run_convert_bytes_string w 22 9 5 _ _ cap Tryz.underlying22 Tryz.underlying5 Tryz.underlying9]
  cases a<;>simp[Conv.bytesToString,loadCells,strN,strOfNums]
  all_goals rfl
theorem str_eq (l m:List Nat) (hl:∀x,x ∈ l->x < 256) (hm:∀x,x ∈ m->x < 256):((strN l).toList == (strN m).toList)=decide (l=m):=by
 rw[ByteArray.toList_eq,ByteArray.toList_eq]
 unfold strN
 rw[strOfNums_data,strOfNums_data,List.map_map,List.map_map]
 have inj:∀l m:List Nat,(∀x,x ∈ l->x < 256)->(∀x,x ∈ m->x < 256)->l.map ((fun n:Int=>UInt8.ofNat n.toNat) ∘ fun(c:Nat)=>(c:Int))=m.map ((fun n:Int=>UInt8.ofNat n.toNat) ∘ fun(c:Nat)=>(c:Int))->l=m:=by
  intro l
  induction l with
  | nil=>intro m _ _ h;cases m with
   | nil=>rfl
   | cons y s=>simp at h
  | cons x r ih=>
   intro m hl hm h
   cases m with
   | nil=>simp at h
   | cons y s=>
    simp only[List.map_cons,List.cons.injEq] at h
    have hx:=hl x (by simp)
    have hy:=hm y (by simp)
    have e:x=y:=by
     have:=congrArg UInt8.toNat h.1
     simp only[Function.comp,Int.toNat_natCast,UInt8.toNat_ofNat'] at this
     omega
    rw[e,ih s (fun z hz=>hl z (by simp[hz])) (fun z hz=>hm z (by simp[hz])) h.2]
 by_cases h:l=m
 ·rw[decide_eq_true h,h];simp
 ·rw[decide_eq_false h]
  apply beq_false_of_ne
  intro c
  exact h (inj l m hl hm c)
theorem aE6 (l:List Nat):∀(i v:Nat),v < 128 ^ i->i<=9->(uv l i v).1<=18446744073709551615/\(uv l i v).2<=i+l.length:=by
 induction l with
 | nil=>intro i v _ _;simp[uv]
 | cons c r ih=>
  intro i v hv hi
  rw[dE]
  split
  ·simp
  ·rename_i h9
   split
   ·rename_i h128
    have hi9:i≠9:=fun e=>h9 ⟨e,by omega⟩
    have:=ih (i+1) (v+c % 128 * 128 ^ i) (uE v c i hv) (by omega)
    simp only[List.length_cons]
    omega
   ·rename_i h128
    split
    ·simp
    ·have hg:=uE v c i hv
     simp only[List.length_cons]
     refine⟨?_,by omega⟩
     by_cases e:i=9
     ·subst e
      have hc:c<=1:=by
       have:¬1 < c:=fun q=>h9 ⟨rfl,q⟩
       omega
      have:c % 128 * 128 ^ 9<=1 * 128 ^ 9:=Nat.mul_le_mul_right _ (by omega)
      omega
     ·have:=aC3 (i+1) (by omega)
      omega
def numV (l:List Nat):Nat:=(uv l 0 0).1
def numN (l:List Nat):Nat:=(uv l 0 0).2
theorem fD (l:List Nat):numV l<=18446744073709551615:=(aE6 l 0 0 (by simp) (by omega)).1
theorem kL (l:List Nat):numN l<=l.length:=by
 have:=(aE6 l 0 0 (by simp) (by omega)).2
 unfold numN
 omega
def cutA (a:Option Addr) (cap n:Nat):Option Addr:=if cap=n then a else a.map (fun x=>x.add n)
theorem dG {w:World} {a:Option Addr} {l:List Nat} (cap n:Nat) (hr:Row w a l) (hl:l.length<=cap):Row w (cutA a cap n) (l.drop n):=by
 unfold cutA
 intro i hi
 have hi2:n+i < l.length:=by simp at hi;omega
 obtain⟨b,off,rfl,hc,hl2⟩:=hr (n+i) hi2
 rw[if_neg (by omega)]
 have e:(l.drop n).getD i 0=l.getD (n+i) 0:=by simp[List.getD,List.getElem?_drop]
 rw[e]
 exact⟨b,off+n,by simp[Addr.add],by rw[Nat.add_assoc];exact hc,hl2⟩
theorem kA {a:Option Addr} {cap n M:Nat} (h:∀x,a=some x->x.block < M):∀x,cutA a cap n=some x->x.block < M:=by
 unfold cutA
 intro x hx
 split at hx
 ·exact h x hx
 ·cases a with
  | none=>cases hx
  | some y=>
   simp only[Option.map_some,Option.some.injEq] at hx
   subst hx
   have:=h y rfl
   unfold Addr.add
   split<;>exact this
theorem kO {w w':World} {a:Option Addr} {l:List Nat} {M:Nat} (hr:Row w a l) (ha:∀x,a=some x->x.block < M) (hb:Below M w w'):Row w' a l:=by
 intro i hi
 obtain⟨b,off,e,hc,hl⟩:=hr i hi
 exact⟨b,off,e,by rw[hb.cell (p:=⟨b,off+i,none⟩) (show b < M from ha ⟨b,off,none⟩ e)];exact hc,hl⟩
structure RdS (w:World) (B M:Nat) (l:List Nat) (bad:Bool):Prop where
 ex:∃a cap,w.cell? ⟨B,0,none⟩=some (.slice a l.length cap)/\Row w a l/\l.length<=cap/\cap<=maxLen/\∀x,a=some x->x.block < M
 c1:w.cell? ⟨B,1,none⟩=some (.bool bad)
 f0:w.frozen? ⟨B,0,none⟩=false
 f1:w.frozen? ⟨B,1,none⟩=false
theorem RdS.turn {w w':World} {B M:Nat} {l:List Nat} {bad:Bool} (h:RdS w B M l bad) (hb:Below M w w') (hc:∀i,w'.cell? ⟨B,i,none⟩=w.cell? ⟨B,i,none⟩) (hf:∀i,w'.frozen? ⟨B,i,none⟩=w.frozen? ⟨B,i,none⟩):RdS w' B M l bad:=by
 obtain⟨⟨a,cap,c0,hr,h1,h2,h3⟩,c1,f0,f1⟩:=h
 exact⟨⟨a,cap,by rw[hc];exact c0,kO hr h3 hb,h1,h2,h3⟩,by rw[hc];exact c1,by rw[hf];exact f0,by rw[hf];exact f1⟩
theorem below_two {w:World} {B:Nat} {u v:Value}:Below B w ((w.setCell ⟨B,1,none⟩ u).setCell ⟨B,0,none⟩ v):=((Below.refl B w).setCell (p:=⟨B,1,none⟩) (Nat.le_refl B) u).setCell (p:=⟨B,0,none⟩) (Nat.le_refl B) v
theorem aE9 {w:World} {B M:Nat} {a:Option Addr} {cap n:Nat} {l:List Nat} {b1 b2:Bool} {v:Value} (hM:M<=B) (hr:Row w a l) (hl:l.length<=cap) (hc:cap<=maxLen) (hn:n<=l.length) (ha:∀x,a=some x->x.block < M)
 (c0:w.cell? ⟨B,0,none⟩=some v) (c1:w.cell? ⟨B,1,none⟩=some (.bool b1)) (f0:w.frozen? ⟨B,0,none⟩=false) (f1:w.frozen? ⟨B,1,none⟩=false) :
 RdS ((w.setCell ⟨B,1,none⟩ (.bool b2)).setCell ⟨B,0,none⟩ (.slice (cutA a cap n) (l.length - n) (cap - n))) B M (l.drop n) b2:=by
 have hb:Below M w ((w.setCell ⟨B,1,none⟩ (.bool b2)).setCell ⟨B,0,none⟩ (.slice (cutA a cap n) (l.length - n) (cap - n))):=below_two.mono hM
 refine⟨⟨cutA a cap n,cap - n,?_,kO (dG cap n hr hl) (kA ha) hb,by simp;omega,by omega,kA ha⟩,?_,?_,?_⟩
 ·rw[List.length_drop]
  refine World.cell?_setCell_same (u:=v) _ _ _ ?_
  rw[World.cell?_setCell_other _ _ _ _ (fun e=>by cases e)]
  exact c0
 ·rw[World.cell?_setCell_other _ _ _ _ (fun e=>by cases e)]
  exact World.cell?_setCell_same _ _ _ c1
 ·rw[World.frozen?_setCell,World.frozen?_setCell];exact f0
 ·rw[World.frozen?_setCell,World.frozen?_setCell];exact f1
theorem mO (B M:Nat) (l:List Nat) (bad:Bool) (w:World) (hM:M<=B) (h:RdS w B M l bad) :
 Calls Tryz.prog 115 #[.pointer (some ⟨B,0,none⟩)] w fun e w'=>e=.returned (.int .u64 ((numV l:Nat):Int))/\RdS w' B M (l.drop (numN l)) (bad || numN l == 0)/\Below B w w'/\w'.heap.size=w.heap.size:=by
 obtain⟨⟨a,cap,c0,hr,hl,hc,ha⟩,c1,f0,f1⟩:=h
 have HU:Hid _:=aB8 a cap l w hr (by omega)
 have h1:=kL l
 have h2:=fD l
 change Hid (Calls Tryz.prog 123 #[.slice a l.length cap] w fun e w'=>e=.returned (.tuple #[.int .u64 (numV l:Nat),.int .i64 (numN l:Nat)])/\w'=w) at HU
 generalize numN l=n at *
 generalize numV l=V at *
 have HR:Hid (∀b2,RdS ((w.setCell ⟨B,1,none⟩ (.bool b2)).setCell ⟨B,0,none⟩ (.slice (cutA a cap n) (l.length - n) (cap - n))) B M (l.drop n) b2):=fun b2=>aE9 hM hr hl hc h1 ha c0 c1 f0 f1
 unfold maxLen at hc
 have hnI:(n:Int)<=(l.length:Int):=by omega
 have hnC:(l.length:Int)<=(cap:Int):=by omega
 clear hr ha
 have HX:Hid (((n:Int) == 0)=(n == 0)):=by
  show _=_
  rw[Bool.eq_iff_iff]
  simp
 by_cases hcn:cap=n
 ·have HA:Hid (cutA a cap n=a):=by show _=_;simp[cutA,hcn]
  rw[HA.out] at HR
  subst hcn
  cases bad
  ·go_enter Tryz.func115,Tryz.ntmps115
   go_wp2_with (go_at_call 123;refine Calls.mono HU.out ?_;rintro e w' ⟨rfl,hw⟩;subst w')
   go_ret
   refine⟨rfl,?_,below_two,by simp⟩
   have:=HR.out (cap == 0)
   rw[HX.out,Bool.false_or]
   rw[show l.length - cap=0 by omega,Nat.sub_self] at this
   exact this
  ·go_enter Tryz.func115,Tryz.ntmps115
   go_wp2_with (go_at_call 123;refine Calls.mono HU.out ?_;rintro e w' ⟨rfl,hw⟩;subst w')
   go_ret
   refine⟨rfl,?_,below_two,by simp⟩
   have:=HR.out true
   rw[show l.length - cap=0 by omega,Nat.sub_self] at this
   exact this
 ·have HA:Hid (cutA a cap n=a.map (fun x=>x.add n)):=by show _=_;simp[cutA,hcn]
  rw[HA.out] at HR
  cases bad
  ·go_enter Tryz.func115,Tryz.ntmps115
   go_wp2_with (go_at_call 123;refine Calls.mono HU.out ?_;rintro e w' ⟨rfl,hw⟩;subst w')
   go_ret
   refine⟨rfl,?_,below_two,by simp⟩
   have:=HR.out (n == 0)
   rw[HX.out,Bool.false_or]
   exact this
  ·go_enter Tryz.func115,Tryz.ntmps115
   go_wp2_with (go_at_call 123;refine Calls.mono HU.out ?_;rintro e w' ⟨rfl,hw⟩;subst w')
   go_ret
   refine⟨rfl,?_,below_two,by simp⟩
   exact HR.out true
def txO (l:List Nat):Bool:=decide ((l.drop (numN l)).length < numV l)
def txV (there:Bool) (l:List Nat):List Nat:=if there then (if txO l then [] else (l.drop (numN l)).take (numV l)) else []
def txL (there:Bool) (l:List Nat):List Nat:=if there then (if txO l then l.drop (numN l) else (l.drop (numN l)).drop (numV l)) else l
def txB (there:Bool) (l:List Nat) (bad:Bool):Bool:=if there then ((bad || numN l == 0) || txO l) else bad
theorem aFw {w:World} {B M:Nat} {l:List Nat} {bad:Bool} (h:RdS w B M l bad) (hM:M<=B):RdS (w.setCell ⟨B,1,none⟩ (.bool true)) B M l true:=by
 obtain⟨⟨a,cap,c0,hr,h1,h2,h3⟩,c1,f0,f1⟩:=h
 refine⟨⟨a,cap,?_,kO hr h3 ((Below.refl M w).setCell (p:=⟨B,1,none⟩) hM _),h1,h2,h3⟩,World.cell?_setCell_same _ _ _ c1,?_,?_⟩
 ·rw[World.cell?_setCell_other _ _ _ _ (fun e=>by cases e)];exact c0
 ·rw[World.frozen?_setCell];exact f0
 ·rw[World.frozen?_setCell];exact f1
theorem aCe {w:World} {B M:Nat} {a:Option Addr} {cap n:Nat} {l:List Nat} {bad:Bool} {v:Value} (hM:M<=B) (hr:Row w a l) (hl:l.length<=cap) (hc:cap<=maxLen) (hn:n<=l.length) (ha:∀x,a=some x->x.block < M)
 (c0:w.cell? ⟨B,0,none⟩=some v) (c1:w.cell? ⟨B,1,none⟩=some (.bool bad)) (f0:w.frozen? ⟨B,0,none⟩=false) (f1:w.frozen? ⟨B,1,none⟩=false) :
 RdS (w.setCell ⟨B,0,none⟩ (.slice (cutA a cap n) (l.length - n) (cap - n))) B M (l.drop n) bad:=by
 have hb:Below M w (w.setCell ⟨B,0,none⟩ (.slice (cutA a cap n) (l.length - n) (cap - n))):=(Below.refl M w).setCell (p:=⟨B,0,none⟩) hM _
 refine⟨⟨cutA a cap n,cap - n,?_,kO (dG cap n hr hl) (kA ha) hb,by simp;omega,by omega,kA ha⟩,?_,?_,?_⟩
 ·rw[List.length_drop]
  exact World.cell?_setCell_same _ _ _ c0
 ·rw[World.cell?_setCell_other _ _ _ _ (fun e=>by cases e)]
  exact c1
 ·rw[World.frozen?_setCell];exact f0
 ·rw[World.frozen?_setCell];exact f1
theorem gP {w:World} {a:Option Addr} {l:List Nat} (n:Nat) (hr:Row w a l):Row w a (l.take n):=by
 rw[<-List.take_append_drop n l] at hr
 exact xC hr
theorem gO {w:World} {a:Option Addr} {l:List Nat} (cap:Nat) {V:Nat} (hr:Row w a l) (hV:¬l.length < V):(convert 22 9 (.slice a V cap)).run Tryz.prog w=.ok (.string (strN (l.take V))) w:=by
 have:=jN cap (gP V hr)
 rw[show(l.take V).length=V by simp;omega] at this
 exact this
theorem aD8 (there:Bool) (B M:Nat) (l:List Nat) (bad:Bool) (w:World) (hM:M<=B) (h:RdS w B M l bad) :
 Calls Tryz.prog 117 #[.pointer (some ⟨B,0,none⟩),.bool there] w fun e w'=>e=.returned (.string (strN (txV there l)))/\RdS w' B M (txL there l) (txB there l bad)/\Below B w w'/\w'.heap.size=w.heap.size:=by
 cases there
 ·go_enter Tryz.func117,Tryz.ntmps117
  go_wp2_with fail
  go_ret
  exact⟨rfl,h,Below.refl _ _,rfl⟩
 ·have HN:Hid _:=mO B M l bad w hM h
  have hV:=fD l
  by_cases hb:(l.drop (numN l)).length < numV l
  ·rw[show txV true l=[] by simp only[txV,txO,if_true,decide_eq_true hb],show txL true l=l.drop (numN l) by simp only[txL,txO,if_true,decide_eq_true hb],show txB true l bad=true by simp only[txB,txO,if_true,decide_eq_true hb,Bool.or_true]]
   generalize (bad || numN l == 0)=b1 at *
   generalize l.drop (numN l)=l1 at *
   generalize numV l=V at *
   clear h
   have hbI:(l1.length:Int) < (V:Int):=by omega
   have tok:=trivial
   go_enter Tryz.func117,Tryz.ntmps117
   go_wp2_with (go_at_call 115;refine Calls.mono HN.out ?_;rintro e w1 ⟨rfl,hR,hB1,hz1⟩;have HR:Hid _:=aFw hR hM;obtain⟨⟨a,cap,c0,hr,h1,h2,h3⟩,c1,f0,f1⟩:=hR;unfold maxLen at h2;have hw:IntKind.u64.wrap (l1.length:Int)=(l1.length:Int):=(by rw[IntKind.wrap_u64];omega);clear hr)
   go_ret
   exact⟨rfl,HR.out,hB1.setCell (p:=⟨B,1,none⟩) (Nat.le_refl B) _,by simp;exact hz1⟩
  ·rw[show txV true l=(l.drop (numN l)).take (numV l) by simp only[txV,txO,if_true,decide_eq_false hb];simp,show txL true l=(l.drop (numN l)).drop (numV l) by simp only[txL,txO,if_true,decide_eq_false hb];simp,show txB true l bad=(bad || numN l == 0) by simp only[txB,txO,if_true,decide_eq_false hb,Bool.or_false]]
   generalize (bad || numN l == 0)=b1 at *
   generalize l.drop (numN l)=l1 at *
   generalize numV l=V at *
   clear h
   have hbI:(V:Int)<=(l1.length:Int):=by omega
   go_enter Tryz.func117,Tryz.ntmps117
   go_wp2_with (go_at_call 115;refine Calls.mono HN.out ?_;rintro e w1 ⟨rfl,hR,hB1,hz1⟩;obtain⟨⟨a,cap,c0,hr,h1,h2,h3⟩,c1,f0,f1⟩:=hR;unfold maxLen at h2;have hw:IntKind.u64.wrap (l1.length:Int)=(l1.length:Int):=(by rw[IntKind.wrap_u64];omega);have hcI:(l1.length:Int)<=(cap:Int):=(by omega);have hvc:(V:Int)<=(cap:Int):=(by omega);have kc:=gO cap hr hb;have HR:Hid _:=aCe hM hr h1 h2 (Nat.le_of_not_lt hb) h3 c0 c1 f0 f1;clear hr h3)
   ·have hne:cap=V:=by assumption
    go_ret
    have:=HR.out
    simp only[cutA,if_pos hne,hne,Nat.sub_self] at this
    exact⟨rfl,this,hB1.setCell (p:=⟨B,0,none⟩) (Nat.le_refl B) _,by simp;exact hz1⟩
   ·have hne:¬cap=V:=by assumption
    go_ret
    have:=HR.out
    simp only[cutA,if_neg hne] at this
    exact⟨rfl,this,hB1.setCell (p:=⟨B,0,none⟩) (Nat.le_refl B) _,by simp;exact hz1⟩
theorem aS {w:World} {ops:Array Oper} {rest:List Oper} {o:Oper} {a:Act} {Q:Exit->Act->World->Prop} (hw:Region.wanted o (yielded ops a.tmps)=true) (s x:Operand)
 (ho:o.op=.call {callee:=.builtin .append,args:=#[s,x],argTypes:=#[22,22]}) (B:Nat) (w0:World)
 (v:Value) (n:Nat) (xs:List Value) (hs:a.eval s=v) (hown:w.ownsRow B 5 1 v n xs) (hB:Below B w0 w) (hBs:B<=w.heap.size)
 (a':Option Addr) (cap:Nat) (l:List Nat) (hx:a.eval x=.slice a' l.length cap) (hr:Row w a' l) (hn:a'=none->cap=0) (h63:n+l.length<=1000000)
 (h:∀v' w',w'.ownsRow B 5 1 v' (n+l.length) (xs++cv l)->Below B w0 w'->wpList Tryz.prog ops Q rest (a.put o.dst v') w'):wpList Tryz.prog ops Q (o::rest) a w:=by
 obtain⟨i0,hi,hz0,hz1,hz2⟩:=info_parts Tryz.info5
 cases a' with
 | none=>
  obtain rfl:=nF hr
  obtain rfl:=hn rfl
  refine BigFrame.wpList_want hw fun K hK=>?_
  have hrun:=run_append_owned_none (P:=Tryz.prog) (w:=w) B 22 o.type 5 i0 1 Tryz.underlying22 hi v n xs hown
  have h0:wpList Tryz.prog ops Q rest (a.put o.dst v) w:=h v w (by simpa [cv] using hown) hB
  unfold Oper.wp
  simp[execOp,ho,resolve,invoke,builtin,hs,hx,hrun,Result.andThen]
  exact hK _ _ h0
 | some ad=>
  refine BigFrame.wpList_want hw fun K hK=>?_
  refine wp_append_own w s x 22 ho B 5 i0 (.int .u8 0) 1 1 Tryz.underlying22 hi hz0 hz1 hz2 rfl (by decide) v n xs hs hown ad l.length cap (cv l) hx (by rw[aQ];omega) (iB hr) (eF _) (by unfold maxLen;omega) (by omega) hBs ?_
  intro v' w' h2 h3 _
  exact hK _ _ (h v' w' h2 (hB.grown h3 hBs (fun k hk=>(hown.lt k hk).1)))
theorem eS {w:World} {o:Oper} {a:Act} {K:Act->World->Prop} {Q:Exit->Act->World->Prop} (s x:Operand)
 (ho:o.op=.call {callee:=.builtin .append,args:=#[s,x],argTypes:=#[22,22]}) (B:Nat) (w0:World)
 (v:Value) (n:Nat) (xs:List Value) (hs:a.eval s=v) (hown:w.ownsRow B 5 1 v n xs) (hB:Below B w0 w) (hBs:B<=w.heap.size)
 (a':Option Addr) (cap:Nat) (l:List Nat) (hx:a.eval x=.slice a' l.length cap) (hr:Row w a' l) (hn:a'=none->cap=0) (h63:n+l.length<=1000000)
 (h:∀v' w',w'.ownsRow B 5 1 v' (n+l.length) (xs++cv l)->Below B w0 w'->K (a.put o.dst v') w'):o.wp Tryz.prog a w K Q:=by
 obtain⟨i0,hi,hz0,hz1,hz2⟩:=info_parts Tryz.info5
 cases a' with
 | none=>
  obtain rfl:=nF hr
  obtain rfl:=hn rfl
  have hrun:=run_append_owned_none (P:=Tryz.prog) (w:=w) B 22 o.type 5 i0 1 Tryz.underlying22 hi v n xs hown
  have h0:=h v w (by simpa [cv] using hown) hB
  unfold Oper.wp
  simp[execOp,ho,resolve,invoke,builtin,hs,hx,hrun,Result.andThen]
  exact h0
 | some ad=>
  refine wp_append_own w s x 22 ho B 5 i0 (.int .u8 0) 1 1 Tryz.underlying22 hi hz0 hz1 hz2 rfl (by decide) v n xs hs hown ad l.length cap (cv l) hx (by rw[aQ];omega) (iB hr) (eF _) (by unfold maxLen;omega) (by omega) hBs ?_
  intro v' w' h2 h3 _
  exact h v' w' h2 (hB.grown h3 hBs (fun k hk=>(hown.lt k hk).1))
structure Rc where
 hk:Bool
 k:ByteArray
 hv:Bool
 v:ByteArray
 t:Int
 o:Int
def Rc.cells (r:Rc):Array Value:=#[.bool r.hk,.string r.k,.bool r.hv,.string r.v,.int .i64 r.t,.int .i64 r.o]
def timeB (t:Int):Bool:=decide (0<=t/\t<=1125899906842624)
theorem jQ {W w1:World} (hb:Below W.heap.size W w1):(∀b o,b < W.heap.size->w1.cell? ⟨b,o,none⟩=W.cell? ⟨b,o,none⟩)/\(∀b o,b < W.heap.size->w1.frozen? ⟨b,o,none⟩=W.frozen? ⟨b,o,none⟩):=
 ⟨fun b o h=>hb.cell (p:=⟨b,o,none⟩) h,fun b o h=>hb.frozen (p:=⟨b,o,none⟩) h⟩
theorem gX (t:Int) (w:World):Calls Tryz.prog 114 #[.int .i64 t] w fun e w'=>e=.returned (.bool (timeB t))/\w'=w:=by
 by_cases h1:0<=t
 ·by_cases h2:t<=1125899906842624
  all_goals
   go_enter Tryz.func114,Tryz.ntmps114
   go_wp2
   go_ret
   simp[timeB,h1,h2]
 ·go_enter Tryz.func114,Tryz.ntmps114
  go_wp2
  go_ret
  simp[timeB]
  omega
def oddB (r:Rc):Bool:=(r.hk == false && !(r.k.toList == [])) || (r.hv == false && !(r.v.toList == [])) || timeB r.t == false || decide (r.o < 0) || decide (99 < r.o)
def chk (r:Rc):Int:=if oddB r=true then 1 else if 2000 < (r.k.size:Int)∨2000 < (r.v.size:Int) then 2 else 0
theorem aA {w:World} (o:Obj):Below w.heap.size w (w.alloc o):=(Below.refl _ _).alloc (Nat.le_refl _) _
theorem check_any (r:Rc) (w:World):Calls Tryz.prog 112 #[.agg r.cells] w fun e w'=>e=.returned (.int .i64 (chk r))/\Below w.heap.size w w':=by
 obtain⟨hk,k,hv,v,t,o⟩:=r
 simp only[Rc.cells]
 obtain⟨c,HC⟩:∃c,Hid (chk ⟨hk,k,hv,v,t,o⟩=c):=⟨_,rfl⟩
 rw[HC.out]
 go_enter Tryz.func112,Tryz.ntmps112
 go_wp2_with (go_at_call 114;refine(gX _ _).mono ?_;rintro e w' ⟨rfl,rfl⟩)
 all_goals
  go_ret
  refine⟨cN ?_,aA _⟩
  rw[<-HC.out]
  clear HC
  simp only[chk,oddB]
  grind
theorem aDk (r:Rc) (w:World):Calls Tryz.prog 105 #[.agg r.cells] w fun e w'=>e=.returned (.bool (oddB r))/\Below w.heap.size w w':=by
 obtain⟨hk,k,hv,v,t,o⟩:=r
 simp only[Rc.cells]
 obtain⟨c,HC⟩:∃c,Hid (oddB ⟨hk,k,hv,v,t,o⟩=c):=⟨_,rfl⟩
 rw[HC.out]
 go_enter Tryz.func105,Tryz.ntmps105
 go_wp2_with fail
 all_goals
  go_ret
  refine⟨jA ?_,aA _⟩
  rw[<-HC.out]
  clear HC
  simp only[oddB,timeB]
  grind
theorem nI (r:Rc) (w:World):Calls Tryz.prog 93 #[.agg r.cells] w fun e w'=>e=.returned (.int .i64 (chk r))/\Below w.heap.size w w':=by
 have HO:Hid _:=aDk r
 obtain⟨c,HC⟩:∃c,Hid (chk r=c):=⟨_,rfl⟩
 rw[HC.out]
 obtain⟨hk,k,hv,v,t,o⟩:=r
 have HD:Hid (chk ⟨hk,k,hv,v,t,o⟩=if oddB ⟨hk,k,hv,v,t,o⟩=true then 1 else if 2000 < (k.size:Int)∨2000 < (v.size:Int) then 2 else 0):=rfl
 simp only[Rc.cells] at HO ⊢
 generalize oddB ⟨hk,k,hv,v,t,o⟩=b at *
 go_enter Tryz.func93,Tryz.ntmps93
 go_wp2_with (go_at_call 105;refine(HO.out _).mono ?_;rintro e w1 ⟨rfl,hb⟩;obtain⟨hc,hf⟩:=jQ hb;have hz:w.heap.size < w1.heap.size:=by(have:=hb.size;simp at this;omega))
 all_goals
  go_ret
  refine⟨cN ?_,(aA _).trans (hb.mono (by simp))⟩
  rw[<-HC.out,HD.out]
  clear HC HD HO hc hf hb
  grind
def pz:Option Addr × Nat × List Nat:=(none,0,[])
def PcAt (w:World) (P:Nat) (ps:List (Option Addr × Nat × List Nat)):Prop:=
 ∀k,k < ps.length->∃a c l,ps.getD k pz=(a,c,l)/\w.cell? ⟨P,k,none⟩=some (.slice a l.length c)/\Row w a l/\(a=none->c=0)
theorem PcAt.below {w w':World} {P:Nat} {ps:List (Option Addr × Nat × List Nat)} (h:PcAt w P ps) (hb:Below w.heap.size w w'):PcAt w' P ps:=by
 intro k hk
 obtain⟨a,c,l,e,hc,hr,hn⟩:=h k hk
 exact⟨a,c,l,e,by rw[hb.cell (World.block_lt_of_cell? _ _ hc)];exact hc,hr.below hb,hn⟩
def headB (hk hv:Bool):Nat:=(if hk then 1 else 0)+(if hv then 2 else 0)
def headN (r:Rc):Nat:=headB r.hk r.hv
def sb (s:ByteArray):List Nat:=s.data.toList.map (·.toNat)
theorem dO (s:ByteArray):(sb s).length=s.size:=by simp[sb]
theorem aEv (s:ByteArray):∀i,(sb s).getD i 0 < 256:=by
 intro i
 unfold sb
 rw[List.getD_eq_getElem?_getD,List.getElem?_map]
 cases s.data.toList[i]? with
 | none=>simp
 | some x=>simpa using x.toNat_lt
def textL (there:Bool) (s:ByteArray):List Nat:=if there then groups s.size++sb s else []
theorem cJ {B B':Nat} {w:World} {v:Value} {n:Nat} {xs:List Value} (h:w.ownsRow B 5 1 v n xs) (hb:B'<=B):w.ownsRow B' 5 1 v n xs:=
 ⟨h.1,h.2.elim Or.inl (fun⟨g,cap,cur,hv,hg,r⟩=>Or.inr ⟨g,cap,cur,hv,Nat.le_trans hb hg,r⟩)⟩
section
section
variable {P:Program} {ops:Array Oper} {Q:Exit->Act->World->Prop} {md:Region.Mode} {S:World->Prop} {n:Nat}
def Lat (P:Program) (md:Region.Mode) (ops:Array Oper) (Q:Exit->Act->World->Prop) (S:World->Prop) (n:Nat):Nat->Array Bool->Act->World->Prop
 | 0,l,a,w=>Region.ready md ops l=[]/\Q .normal a w
 | f+1,l,a,w=>(Region.ready md ops l=[]->Q .normal a w)/\∀i ∈ Region.ready md ops l,wpOp P ops Q i (fun a' w'=>(i < n->S w')/\Lat P md ops Q S n f (l.setIfInBounds i true) a' w') a w
theorem Lat.any:∀(f:Nat) (l:Array Bool) (a:Act) (w:World),Lat P md ops Q S n f l a w->wpAny P md ops Q f l a w
 | 0,_,_,_,h=>h
 | f+1,_,_,_,h=>⟨h.1,fun i hi=>wpOp_mono (fun a' w' h'=>Lat.any f _ a' w' h'.2) (h.2 i hi)⟩
theorem Lat.first {i:Nat} {oi:Oper} {v:Value} (hi:ops[i]? = some oi) (hsel:∀(j:Nat) (o:Oper) cs b,ops[j]? = some o->o.op≠.select cs b)
 (hs:Region.sinkB md ops n=true) (hc:Region.chainB md ops n=true) (hn:n < ops.size) (hin:i < n) (hQ:∀c a w,Q (.panic c) (a.put oi.dst v) w->Q (.panic c) a w) (f:Nat) :
 ∀(l:Array Bool) (a:Act) (w:World),HeadInv md ops n l->(∀j oj,ops[j]? = some oj->j≠i->l.getD j true=false->(∀e ∈ oj.after,Region.binds md e=true->e.on≠i)->oi.apart ops oj=true)->
  i ∈ Region.ready md ops l->YieldsIf P ops S oi v a->S w->Lat P md ops Q S n f (l.setIfInBounds i true) (a.put oi.dst v) w->Lat P md ops Q S n (f+1) l a w:=by
 induction f with
 | zero=>
  intro l a w inv hfree hr hy hS H
  refine⟨fun h=>absurd hr (by rw[h];simp),fun j hj=>?_⟩
  by_cases hji:j=i
  ·subst hji;exact hy.wpOp hi hS ⟨fun _=>hS,H⟩
  ·exact absurd (ready_mono hj hji) (by rw[H.1];simp)
 | succ f ih=>
  intro l a w inv hfree hr hy hS H
  refine⟨fun h=>absurd hr (by rw[h];simp),fun j hj=>?_⟩
  have hun:=(mem_ready.1 hr).1
  by_cases hji:j=i
  ·subst hji;exact hy.wpOp hi hS ⟨fun _=>hS,H⟩
  have hjn:j < n:=by
   rcases Nat.lt_or_ge j n with h | h
   ·exact h
   ·exact absurd hj (tail_waits hs hc hn inv _ i rfl hin hun j h)
  obtain⟨hjun,oj,hoj,hall⟩:=mem_ready.1 hj
  have hnot:∀e ∈ oj.after,Region.binds md e=true->e.on≠i:=fun e he hb heq=>by
   have h1:=hall e he hb
   rw[heq,getD_both hun] at h1
   cases h1
  have h2:=wpOp_putIf hoj (hfree j oj hoj hji hjun hnot) (fun cs b=>hsel i oi cs b hi) (fun cs b=>hsel j oj cs b hoj) hQ hy (H.2 j (ready_mono hj hji))
  refine wpOp_mono (fun a' w' h3=>⟨h3.2.1,ih _ a' w' (inv.set hj hjn) (fun k ok hk hki hun2 hno=>hfree k ok hk hki ?_ hno) (ready_mono hr (Ne.symm hji)) h3.1 (h3.2.1 hjn) ?_⟩) h2
  ·by_cases hjk:j=k
   ·subst hjk;exact hjun
   ·rw[getD_set_ne true hjk] at hun2;exact hun2
  ·rw[Array.setIfInBounds_comm _ _ hji]
   exact h3.2.2
def LatI (P:Program) (md:Region.Mode) (ops:Array Oper) (Q:Exit->Act->World->Prop) (S:World->Prop) (n f:Nat) (l:Array Bool) (a:Act) (w:World):Prop:=HeadInv md ops n l->Lat P md ops Q S n f l a w
theorem LatI.take {i:Nat} {oi:Oper} {v:Value} {f:Nat} {l:Array Bool} {a:Act} {w:World} (hi:ops[i]? = some oi) (hsel:Region.noSelect ops=true)
 (hs:(Region.sinkB md ops n && Region.chainB md ops n && decide (n < ops.size) && decide (i < n))=true) (hf:Region.free md ops l i=true) (hr:(Region.ready md ops l).contains i=true)
 (hQ:∀c a w,Q (.panic c) (a.put oi.dst v) w->Q (.panic c) a w) (hy:YieldsIf P ops S oi v a) (hS:S w)
 (h:LatI P md ops Q S n f (l.setIfInBounds i true) (a.put oi.dst v) w):LatI P md ops Q S n (f+1) l a w:=fun inv=>by
 simp only[Bool.and_eq_true,decide_eq_true_eq] at hs
 obtain⟨⟨⟨h1,h2⟩,h3⟩,h4⟩:=hs
 have hr':i ∈ Region.ready md ops l:=by simpa using hr
 exact Lat.first hi (Region.noSelect_spec hsel) h1 h2 h3 h4 hQ f l a w inv (Region.free_spec hi hf) hr' hy hS (h (inv.set hr' h4))
theorem LatI.one {i:Nat} {o:Oper} {f:Nat} {l:Array Bool} {a:Act} {w:World} (ho:ops[i]? = some o) (hr:Region.ready md ops l=[i]) (hin:i < n)
 (h:∀K:Act->World->Prop,Shut (∀a w,S w->(S w->LatI P md ops Q S n f (l.setIfInBounds i true) a w)->K a w)->if Region.wanted o (yielded ops a.tmps)=true then Oper.wp P o a w K Q else K (a.put o.dst undef) w) :
 LatI P md ops Q S n (f+1) l a w:=fun inv=>by
 refine⟨fun h0=>absurd h0 (by rw[hr];simp),fun j hj=>?_⟩
 rw[hr] at hj
 obtain rfl:j=i:=by simpa using hj
 exact wpOp_step ho fun K hK=>h K fun a w hS hW=>hK a w ⟨fun _=>hS,hW hS (inv.set (by rw[hr];simp) hin)⟩
theorem LatI.two {i j:Nat} {oi oj:Oper} {f:Nat} {l:Array Bool} {a:Act} {w:World} (hoi:ops[i]? = some oi) (hoj:ops[j]? = some oj) (hr:Region.ready md ops l=[i,j]) (hin:i < n) (hjn:j < n)
 (h1:∀K:Act->World->Prop,Shut (∀a w,S w->(S w->LatI P md ops Q S n f (l.setIfInBounds i true) a w)->K a w)->if Region.wanted oi (yielded ops a.tmps)=true then Oper.wp P oi a w K Q else K (a.put oi.dst undef) w)
 (h2:∀K:Act->World->Prop,Shut (∀a w,S w->(S w->LatI P md ops Q S n f (l.setIfInBounds j true) a w)->K a w)->if Region.wanted oj (yielded ops a.tmps)=true then Oper.wp P oj a w K Q else K (a.put oj.dst undef) w) :
 LatI P md ops Q S n (f+1) l a w:=fun inv=>by
 refine⟨fun h0=>absurd h0 (by rw[hr];simp),fun k hk=>?_⟩
 have hk':=hk
 rw[hr] at hk
 rcases List.mem_cons.1 hk with rfl | hk
 ·exact wpOp_step hoi fun K hK=>h1 K fun a w hS hW=>hK a w ⟨fun _=>hS,hW hS (inv.set hk' hin)⟩
 ·obtain rfl:k=j:=by simpa using hk
  exact wpOp_step hoj fun K hK=>h2 K fun a w hS hW=>hK a w ⟨fun _=>hS,hW hS (inv.set hk' hjn)⟩
theorem LatI.last {i:Nat} {o:Oper} {f:Nat} {l:Array Bool} {a:Act} {w:World} (ho:ops[i]? = some o) (hr:Region.ready md ops l=[i]) (hin:n<=i) (he:Region.ready md ops (l.setIfInBounds i true)=[])
 (h:∀K:Act->World->Prop,Shut (∀a w,Q .normal a w->K a w)->if Region.wanted o (yielded ops a.tmps)=true then Oper.wp P o a w K Q else K (a.put o.dst undef) w) :
 LatI P md ops Q S n (f+1) l a w:=fun inv=>by
 refine⟨fun h0=>absurd h0 (by rw[hr];simp),fun j hj=>?_⟩
 rw[hr] at hj
 obtain rfl:j=i:=by simpa using hj
 refine wpOp_step ho fun K hK=>h K fun a w hW=>hK a w ⟨fun h=>by omega,?_⟩
 cases f with
 | zero=>exact⟨he,hW⟩
 | succ f=>exact⟨fun _=>hW,fun k hk=>by rw[he] at hk;cases hk⟩
theorem aD (S:World->Prop) (n:Nat) {id:Nat} {a:Act} {w:World} (hm:P.follows .mixedOrders=true) (hS:S w.drew) (h:S w.drew->LatI P .any ops Q S n ops.size (Array.replicate ops.size false) a w.drew):(Code.region id ops true).wp P Q a w:=
 wp_region_any hm (Lat.any _ _ _ _ (h hS ⟨by simp,fun j oj _ hl=>(by rw[getD_replicate_false] at hl;cases hl),fun t _ ht=>getD_in (by simpa using ht) (getD_replicate_false _ _)⟩))
end
section
variable {P:Program} {L:List Oper} {Q:Exit->Act->World->Prop} {md:Region.Mode} {S:World->Prop} {n:Nat}
theorem dM {i:Nat} {o:Oper} {r:List Oper} (h:L.drop i=o::r):L.toArray[i]? = some o:=by
 have:L[i]? = some o:=by
  have h2:=congrArg (fun x=>x[0]?) h
  simpa using h2
 simpa using this
theorem aHr (i:Nat) {o:Oper} {r:List Oper} {v:Value} {f:Nat} {l:Array Bool} {a:Act} {w:World} (hi:L.drop i=o::r) (hsel:Region.noSelect L.toArray=true)
 (hs:(Region.sinkB md L.toArray n && Region.chainB md L.toArray n && decide (n < L.toArray.size) && decide (i < n))=true) (hf:Region.free md L.toArray l i=true) (hr:(Region.ready md L.toArray l).contains i=true)
 (hQ:∀c a w,Q (.panic c) (a.put o.dst v) w->Q (.panic c) a w) (hw:Region.wanted o (yielded L.toArray a.tmps)=true) (hy:∀w,S w->(execOp a.eval o).run P w=.ok (.value v) w) (hS:S w)
 (h:LatI P md L.toArray Q S n f (l.setIfInBounds i true) (a.put o.dst v) w):LatI P md L.toArray Q S n (f+1) l a w:=LatI.take (dM hi) hsel hs hf hr hQ (.inl ⟨hw,hy⟩) hS h
theorem aEq (i:Nat) {o:Oper} {r:List Oper} {f:Nat} {l:Array Bool} {a:Act} {w:World} (hi:L.drop i=o::r) (hr:Region.ready md L.toArray l=[i]) (hin:i < n) (hw:Region.wanted o (yielded L.toArray a.tmps)=true)
 (h:∀K:Act->World->Prop,Shut (∀a w,S w->(S w->LatI P md L.toArray Q S n f (l.setIfInBounds i true) a w)->K a w)->Oper.wp P o a w K Q) :
 LatI P md L.toArray Q S n (f+1) l a w:=LatI.one (dM hi) hr hin fun K hK=>by rw[if_pos hw];exact h K hK
theorem gU (i j:Nat) {oi oj:Oper} {ri rj:List Oper} {f:Nat} {l:Array Bool} {a:Act} {w:World} (hi:L.drop i=oi::ri) (hj:L.drop j=oj::rj) (hr:Region.ready md L.toArray l=[i,j]) (hin:i < n) (hjn:j < n) (hwi:Region.wanted oi (yielded L.toArray a.tmps)=true) (hwj:Region.wanted oj (yielded L.toArray a.tmps)=true)
 (h1:∀K:Act->World->Prop,Shut (∀a w,S w->(S w->LatI P md L.toArray Q S n f (l.setIfInBounds i true) a w)->K a w)->Oper.wp P oi a w K Q)
 (h2:∀K:Act->World->Prop,Shut (∀a w,S w->(S w->LatI P md L.toArray Q S n f (l.setIfInBounds j true) a w)->K a w)->Oper.wp P oj a w K Q) :
 LatI P md L.toArray Q S n (f+1) l a w:=LatI.two (dM hi) (dM hj) hr hin hjn (fun K hK=>by rw[if_pos hwi];exact h1 K hK) (fun K hK=>by rw[if_pos hwj];exact h2 K hK)
theorem zK (i:Nat) {o:Oper} {r:List Oper} {f:Nat} {l:Array Bool} {a:Act} {w:World} (hi:L.drop i=o::r) (hr:Region.ready md L.toArray l=[i]) (hin:n<=i) (he:Region.ready md L.toArray (l.setIfInBounds i true)=[]) (hw:Region.wanted o (yielded L.toArray a.tmps)=true)
 (h:∀K:Act->World->Prop,Shut (∀a w,Q .normal a w->K a w)->Oper.wp P o a w K Q) :
 LatI P md L.toArray Q S n (f+1) l a w:=LatI.last (dM hi) hr hin he fun K hK=>by rw[if_pos hw];exact h K hK
end
theorem sP {α:Type}:(∀(l:List α) (i:Nat) (x:α),l.toArray.setIfInBounds i x=(l.set i x).toArray)/\(∀(a:α) (s:List α) (b:α),(a::s).set 0 b=b::s)/\(∀(a:α) (s:List α) (n:Nat) (b:α),(a::s).set (n+1) b=a::s.set n b):=⟨fun _ _ _=>List.setIfInBounds_toArray ..,fun _ _ _=>rfl,fun _ _ _ _=>rfl⟩
section
variable {P:Program} {L:List Oper} {Q:Exit->Act->World->Prop} {md:Region.Mode} {S:World->Prop} {n:Nat}
theorem lA (i:Nat) {o:Oper} {r:List Oper} {v:Value} {f:Nat} {l:Array Bool} {a:Act} {w:World} (h:LatI P md L.toArray Q S n f (l.setIfInBounds i true) (a.put o.dst v) w) (hi:L.drop i=o::r:=by exact rfl) (hsel:Region.noSelect L.toArray=true:=by kernel_rfl) (hs:(Region.sinkB md L.toArray n && Region.chainB md L.toArray n && decide (n < L.toArray.size) && decide (i < n))=true:=by kernel_rfl) (hf:Region.free md L.toArray l i=true:=by kernel_rfl) (hr:(Region.ready md L.toArray l).contains i=true:=by kernel_rfl) (hQ:∀c a w,Q (.panic c) (a.put o.dst v) w->Q (.panic c) a w:=by exact fun _ _ _ h=>h) (hw:Region.wanted o (yielded L.toArray a.tmps)=true:=by rfl) (hy:∀w,S w->(execOp a.eval o).run P w=.ok (.value v) w:=by intro w hSw;obtain zc:=yM hSw hc0;go_simp<;>with_reducible rfl) (hS:S w:=by assumption):LatI P md L.toArray Q S n (f+1) l a w:=LatI.take (dM hi) hsel hs hf hr hQ (.inl ⟨hw,hy⟩) hS h
theorem lB (i:Nat) {o:Oper} {r:List Oper} {v:Value} {f:Nat} {l:Array Bool} {a:Act} {w:World} (h:LatI P md L.toArray Q S n f (l.setIfInBounds i true) (a.put o.dst v) w) (hi:L.drop i=o::r:=by exact rfl) (hsel:Region.noSelect L.toArray=true:=by kernel_rfl) (hs:(Region.sinkB md L.toArray n && Region.chainB md L.toArray n && decide (n < L.toArray.size) && decide (i < n))=true:=by kernel_rfl) (hf:Region.free md L.toArray l i=true:=by kernel_rfl) (hr:(Region.ready md L.toArray l).contains i=true:=by kernel_rfl) (hQ:∀c a w,Q (.panic c) (a.put o.dst v) w->Q (.panic c) a w:=by exact fun _ _ _ h=>h) (hw:Region.wanted o (yielded L.toArray a.tmps)=true:=by rfl) (hy:∀w,S w->(execOp a.eval o).run P w=.ok (.value v) w:=by intro y hSy;have kl:=HLD.out y hSy;go_simp<;>with_reducible rfl) (hS:S w:=by assumption):LatI P md L.toArray Q S n (f+1) l a w:=LatI.take (dM hi) hsel hs hf hr hQ (.inl ⟨hw,hy⟩) hS h
theorem lC (i:Nat) {o:Oper} {r:List Oper} {v:Value} {f:Nat} {l:Array Bool} {a:Act} {w:World} (h:LatI P md L.toArray Q S n f (l.setIfInBounds i true) (a.put o.dst v) w) (hi:L.drop i=o::r:=by exact rfl) (hsel:Region.noSelect L.toArray=true:=by kernel_rfl) (hs:(Region.sinkB md L.toArray n && Region.chainB md L.toArray n && decide (n < L.toArray.size) && decide (i < n))=true:=by kernel_rfl) (hf:Region.free md L.toArray l i=true:=by kernel_rfl) (hr:(Region.ready md L.toArray l).contains i=true:=by kernel_rfl) (hQ:∀c a w,Q (.panic c) (a.put o.dst v) w->Q (.panic c) a w:=by exact fun _ _ _ h=>h) (hw:Region.wanted o (yielded L.toArray a.tmps)=true:=by rfl) (hy:∀w,S w->(execOp a.eval o).run P w=.ok (.value v) w:=by intro y hSy;(try dsimp only at hSy);(try obtain⟨q0,q1⟩:=hSy);go_simp<;>with_reducible rfl) (hS:S w:=by assumption):LatI P md L.toArray Q S n (f+1) l a w:=LatI.take (dM hi) hsel hs hf hr hQ (.inl ⟨hw,hy⟩) hS h
theorem lD (i:Nat) {o:Oper} {r:List Oper} {v:Value} {f:Nat} {l:Array Bool} {a:Act} {w:World} (h:LatI P md L.toArray Q S n f (l.setIfInBounds i true) (a.put o.dst v) w) (hi:L.drop i=o::r:=by exact rfl) (hsel:Region.noSelect L.toArray=true:=by kernel_rfl) (hs:(Region.sinkB md L.toArray n && Region.chainB md L.toArray n && decide (n < L.toArray.size) && decide (i < n))=true:=by kernel_rfl) (hf:Region.free md L.toArray l i=true:=by kernel_rfl) (hr:(Region.ready md L.toArray l).contains i=true:=by kernel_rfl) (hQ:∀c a w,Q (.panic c) (a.put o.dst v) w->Q (.panic c) a w:=by exact fun _ _ _ h=>h) (hw:Region.wanted o (yielded L.toArray a.tmps)=true:=by rfl) (hy:∀w,S w->(execOp a.eval o).run P w=.ok (.value v) w:=by intro y hSy;(try dsimp only at hSy);(try obtain q0:=hSy);go_simp<;>with_reducible rfl) (hS:S w:=by assumption):LatI P md L.toArray Q S n (f+1) l a w:=LatI.take (dM hi) hsel hs hf hr hQ (.inl ⟨hw,hy⟩) hS h
theorem lE (i:Nat) {o:Oper} {r:List Oper} {v:Value} {f:Nat} {l:Array Bool} {a:Act} {w:World} (h:LatI P md L.toArray Q S n f (l.setIfInBounds i true) (a.put o.dst v) w) (hi:L.drop i=o::r:=by exact rfl) (hsel:Region.noSelect L.toArray=true:=by kernel_rfl) (hs:(Region.sinkB md L.toArray n && Region.chainB md L.toArray n && decide (n < L.toArray.size) && decide (i < n))=true:=by kernel_rfl) (hf:Region.free md L.toArray l i=true:=by kernel_rfl) (hr:(Region.ready md L.toArray l).contains i=true:=by kernel_rfl) (hQ:∀c a w,Q (.panic c) (a.put o.dst v) w->Q (.panic c) a w:=by exact fun _ _ _ h=>h) (hw:Region.wanted o (yielded L.toArray a.tmps)=true:=by rfl) (hy:∀w,S w->(execOp a.eval o).run P w=.ok (.value v) w:=by intro w hSw;obtain⟨⟨z0,z1,z2,z3,z4,z5⟩,zb⟩:=hSw;go_simp<;>with_reducible rfl) (hS:S w:=by assumption):LatI P md L.toArray Q S n (f+1) l a w:=LatI.take (dM hi) hsel hs hf hr hQ (.inl ⟨hw,hy⟩) hS h
theorem lF (i:Nat) {o:Oper} {r:List Oper} {v:Value} {f:Nat} {l:Array Bool} {a:Act} {w:World} (h:LatI P md L.toArray Q S n f (l.setIfInBounds i true) (a.put o.dst v) w) (hi:L.drop i=o::r:=by exact rfl) (hsel:Region.noSelect L.toArray=true:=by kernel_rfl) (hs:(Region.sinkB md L.toArray n && Region.chainB md L.toArray n && decide (n < L.toArray.size) && decide (i < n))=true:=by kernel_rfl) (hf:Region.free md L.toArray l i=true:=by kernel_rfl) (hr:(Region.ready md L.toArray l).contains i=true:=by kernel_rfl) (hQ:∀c a w,Q (.panic c) (a.put o.dst v) w->Q (.panic c) a w:=by exact fun _ _ _ h=>h) (hw:Region.wanted o (yielded L.toArray a.tmps)=true:=by rfl) (hy:∀w,S w->(execOp a.eval o).run P w=.ok (.value v) w:=by intro y hSy;(try dsimp only at hSy);go_simp<;>with_reducible rfl) (hS:S w:=by assumption):LatI P md L.toArray Q S n (f+1) l a w:=LatI.take (dM hi) hsel hs hf hr hQ (.inl ⟨hw,hy⟩) hS h
theorem lG (i:Nat) {o:Oper} {r:List Oper} {v:Value} {f:Nat} {l:Array Bool} {a:Act} {w:World} (h:LatI P md L.toArray Q S n f (l.setIfInBounds i true) (a.put o.dst v) w) (hi:L.drop i=o::r:=by exact rfl) (hsel:Region.noSelect L.toArray=true:=by kernel_rfl) (hs:(Region.sinkB md L.toArray n && Region.chainB md L.toArray n && decide (n < L.toArray.size) && decide (i < n))=true:=by kernel_rfl) (hf:Region.free md L.toArray l i=true:=by kernel_rfl) (hr:(Region.ready md L.toArray l).contains i=true:=by kernel_rfl) (hQ:∀c a w,Q (.panic c) (a.put o.dst v) w->Q (.panic c) a w:=by exact fun _ _ _ h=>h) (hw:Region.wanted o (yielded L.toArray a.tmps)=true:=by rfl) (hy:∀w,S w->(execOp a.eval o).run P w=.ok (.value v) w:=by intro w hSw;obtain⟨zh,zx,zb⟩:=hSw;obtain⟨z0,z1,z2,z3,z4,z5⟩:=wZ zh;clear zh zb;simp only at z0 z1 z2 z3 z4 z5;go_simp<;>with_reducible rfl) (hS:S w:=by assumption):LatI P md L.toArray Q S n (f+1) l a w:=LatI.take (dM hi) hsel hs hf hr hQ (.inl ⟨hw,hy⟩) hS h
theorem lH (i:Nat) {o:Oper} {r:List Oper} {v:Value} {f:Nat} {l:Array Bool} {a:Act} {w:World} (h:LatI P md L.toArray Q S n f (l.setIfInBounds i true) (a.put o.dst v) w) (hi:L.drop i=o::r:=by exact rfl) (hsel:Region.noSelect L.toArray=true:=by kernel_rfl) (hs:(Region.sinkB md L.toArray n && Region.chainB md L.toArray n && decide (n < L.toArray.size) && decide (i < n))=true:=by kernel_rfl) (hf:Region.free md L.toArray l i=true:=by kernel_rfl) (hr:(Region.ready md L.toArray l).contains i=true:=by kernel_rfl) (hQ:∀c a w,Q (.panic c) (a.put o.dst v) w->Q (.panic c) a w:=by exact fun _ _ _ h=>h) (hw:Region.wanted o (yielded L.toArray a.tmps)=true:=by rfl) (hy:∀w,S w->(execOp a.eval o).run P w=.ok (.value v) w) (hS:S w:=by assumption):LatI P md L.toArray Q S n (f+1) l a w:=LatI.take (dM hi) hsel hs hf hr hQ (.inl ⟨hw,hy⟩) hS h
theorem lo (i:Nat) {o:Oper} {r:List Oper} {f:Nat} {l:Array Bool} {a:Act} {w:World} (h:∀K:Act->World->Prop,Shut (∀a w,S w->(S w->LatI P md L.toArray Q S n f (l.setIfInBounds i true) a w)->K a w)->Oper.wp P o a w K Q) (hi:L.drop i=o::r:=by exact rfl) (hr:Region.ready md L.toArray l=[i]:=by kernel_rfl) (hin:i < n:=by decide) (hw:Region.wanted o (yielded L.toArray a.tmps)=true:=by rfl):LatI P md L.toArray Q S n (f+1) l a w:=aEq i hi hr hin hw h
theorem ll (i:Nat) {o:Oper} {r:List Oper} {f:Nat} {l:Array Bool} {a:Act} {w:World} (h:∀K:Act->World->Prop,Shut (∀a w,Q .normal a w->K a w)->Oper.wp P o a w K Q) (hi:L.drop i=o::r:=by exact rfl) (hr:Region.ready md L.toArray l=[i]:=by kernel_rfl) (hin:n<=i:=by decide) (he:Region.ready md L.toArray (l.setIfInBounds i true)=[]:=by kernel_rfl) (hw:Region.wanted o (yielded L.toArray a.tmps)=true:=by rfl):LatI P md L.toArray Q S n (f+1) l a w:=zK i hi hr hin he hw h
end
end
def encL (r:Rc) (first:Int):List Nat:=headN r::(groups r.o.toNat++(groups (zig (r.t - first)).toNat++(textL r.hk r.k++textL r.hv r.v)))
def encE (r:Rc) (first:Int):Int:=if chk r=0 then (if timeB first=true then 0 else 1) else chk r
def encR (r:Rc) (first:Int):List Nat:=if encE r first=0 then encL r first else []
def SE (w:World) (b:Nat) (hk:Bool) (k:ByteArray) (hv:Bool) (v:ByteArray) (t o:Int) (y:World):Prop:=
 (y.cell? ⟨b,0,none⟩=some (.bool hk)/\y.cell? ⟨b,1,none⟩=some (.string k)/\y.cell? ⟨b,2,none⟩=some (.bool hv)/\y.cell? ⟨b,3,none⟩=some (.string v)/\y.cell? ⟨b,4,none⟩=some (.int .i64 t)/\y.cell? ⟨b,5,none⟩=some (.int .i64 o))/\Below w.heap.size w y
theorem SE.below {w y y':World} {b:Nat} {hk:Bool} {k:ByteArray} {hv:Bool} {v:ByteArray} {t o:Int} (h:SE w b hk k hv v t o y) (hb:Below y.heap.size y y'):SE w b hk k hv v t o y':=by
 obtain⟨⟨h0,h1,h2,h3,h4,h5⟩,hB⟩:=h
 exact⟨⟨(hb.cell (World.block_lt_of_cell? _ _ h0)).trans h0,(hb.cell (World.block_lt_of_cell? _ _ h1)).trans h1,(hb.cell (World.block_lt_of_cell? _ _ h2)).trans h2,(hb.cell (World.block_lt_of_cell? _ _ h3)).trans h3,(hb.cell (World.block_lt_of_cell? _ _ h4)).trans h4,(hb.cell (World.block_lt_of_cell? _ _ h5)).trans h5⟩,hB.trans (hb.mono hB.size)⟩
theorem SE.new (w:World) (r:Rc):SE w w.heap.size r.hk r.k r.hv r.v r.t r.o (w.alloc (.cells r.cells 84)):=by
 have hc:∀j,(w.alloc (.cells r.cells 84)).cell? ⟨w.heap.size,j,none⟩=r.cells[j]?:=fun j=>cell_of_row _ w.heap.size j r.cells 84 (0,0) (heap_alloc_new w _)
 exact⟨⟨by rw[hc];rfl,by rw[hc];rfl,by rw[hc];rfl,by rw[hc];rfl,by rw[hc];rfl,by rw[hc];rfl⟩,aA _⟩
theorem bQ {w:World} {B:Nat} {v:Value} {l:List Nat} (h:w.ownsRow B 5 1 v l.length (cv l)) (hb:∀i,l.getD i 0 < 256):∃a c,v=.slice a l.length c/\Row w a l/\(a=none->c=0):=by
 rcases h.2 with⟨rfl,h0⟩ | ⟨g,cap,cur,rfl,hB,hg,hle,hm,_,_⟩
 ·refine⟨none,0,by rw[h0],?_,fun _=>rfl⟩
  intro i hi;omega
 ·exact⟨_,cap,rfl,Own.row (B:=B) (cap:=cap) h hb,fun c=>by cases c⟩
theorem mX {l m:List Nat} (h:∀i,l.getD i 0 < 256) (h2:∀i,m.getD i 0 < 256):∀i,(l++m).getD i 0 < 256:=by
 intro i
 have h1:=h i
 have h3:=h2 (i - l.length)
 simp only[List.getD,List.getElem?_append] at *
 split<;>assumption
theorem pJ (there:Bool) (s:ByteArray) (hs:s.size<=2000):∀i,(textL there s).getD i 0 < 256:=by
 unfold textL
 split
 ·exact mX (fK _ (by omega)) (aEv s)
 ·intro i;simp
def Makes (f:Nat) (args:Array Value) (l:List Nat):Prop:=∀w',Calls Tryz.prog f args w' fun e w2=>∃a c,e=.returned (.slice a l.length c)/\Row w2 a l/\(a=none->c=0)/\Below w'.heap.size w' w2
theorem fO (w:World) (h:Nat) (hh:h < 256):Row (w.alloc (.cells #[.int .u8 (h:Int)] 5)) (some ⟨w.heap.size,0,none⟩) [h]/\Below w.heap.size w (w.alloc (.cells #[.int .u8 (h:Int)] 5)):=
 ⟨kP w [h] (by
  intro i;match i with
  | 0=>simpa
  | i+1=>simp),aA _⟩
theorem bZ (t:Int):timeB t=true↔0<=t/\t<=1125899906842624:=by simp[timeB]
theorem dN {r:Rc} (h:chk r=0):0<=r.t/\r.t<=1125899906842624/\0<=r.o/\r.o<=99/\r.k.size<=2000/\r.v.size<=2000/\(r.hk=false->r.k.toList=[])/\(r.hv=false->r.v.toList=[]):=by
 unfold chk at h
 split at h
 ·omega
 ·rename_i ho
  split at h
  ·omega
  ·rename_i hs
   simp only[oddB,timeB] at ho
   grind
theorem qI (r:Rc):headN r < 256:=by
 unfold headN headB
 split<;>split<;>omega
theorem qP (there:Bool) (s:ByteArray):(textL there s).length<=10+s.size:=by
 unfold textL
 split
 ·have:=(aU s.size).2
  simp only[List.length_append,dO]
  omega
 ·simp
theorem jT (r:Rc) (first:Int) (h1:r.k.size<=2000) (h2:r.v.size<=2000):(encL r first).length<=5000:=by
 unfold encL
 have a1:=(aU r.o.toNat).2
 have a2:=(aU (zig (r.t - first)).toNat).2
 have a3:=qP r.hk r.k
 have a4:=qP r.hv r.v
 simp only[List.length_cons,List.length_append]
 omega
def rz:Rc:=⟨false,⟨#[]⟩,false,⟨#[]⟩,0,0⟩
def gate (l:List Nat) (first:Int):Bool:=timeB first && decide (0 < l.length) && decide (l.getD 0 0<=3)
def hkOf (l:List Nat):Bool:=l.getD 0 0 % 2 == 1
def hvOf (l:List Nat):Bool:=l.getD 0 0 / 2 == 1
def p0 (l:List Nat):List Nat:=l.drop 1
def p1 (l:List Nat):List Nat:=(p0 l).drop (numN (p0 l))
def p2 (l:List Nat):List Nat:=(p1 l).drop (numN (p1 l))
def p3 (l:List Nat):List Nat:=txL (hkOf l) (p2 l)
def p4 (l:List Nat):List Nat:=txL (hvOf l) (p3 l)
def b2 (l:List Nat):Bool:=numN (p0 l) == 0 || numN (p1 l) == 0
def badAt (l:List Nat):Bool:=txB (hvOf l) (p3 l) (txB (hkOf l) (p2 l) (b2 l))
def rcOf (l:List Nat) (first:Int):Rc:=⟨hkOf l,strN (txV (hkOf l) (p2 l)),hvOf l,strN (txV (hvOf l) (p3 l)),wrap64 (first+zag (numV (p1 l))),wrap64 (numV (p0 l))⟩
def okD (l:List Nat) (first:Int):Bool:=gate l first && !(badAt l) && (chk (rcOf l first) == 0)
def decR (l:List Nat) (first:Int):Rc:=if okD l first=true then rcOf l first else rz
def decN (l:List Nat) (first:Int):Nat:=if okD l first=true then l.length - (p4 l).length else 0
def decE (l:List Nat) (first:Int):Int:=if okD l first=true then 0 else 10
theorem tU (there:Bool) (l:List Nat):(txL there l).length<=l.length:=by
 unfold txL
 split
 ·split<;>simp<;>omega
 ·exact Nat.le_refl _
theorem zS (l:List Nat):(p4 l).length<=l.length - 1:=by
 unfold p4
 refine Nat.le_trans (tU _ _) ?_
 unfold p3
 refine Nat.le_trans (tU _ _) ?_
 simp only[p2,p1,p0,List.length_drop]
 omega
theorem aHy (f i V v:Nat) (t:List Nat) (hi:i+f=9) (hV:V < 2 ^ (64 - 7 * i)) (h0:0 < i->V≠0):uv (vr f V++t) i v=(v+V * 128 ^ i,i+(vr f V).length):=by
 induction f generalizing i V v with
 | zero=>
  have e9:i=9:=by omega
  subst e9
  have hV2:V < 2:=by simpa using hV
  have:=h0 (by omega)
  obtain rfl:V=1:=by omega
  simp[vr,dE]
 | succ f ih=>
  simp only[vr]
  split
  ·rename_i h128
   simp only[List.cons_append,List.nil_append,dE]
   rw[if_neg (by omega),if_neg (by omega),if_neg (by rintro⟨a,b⟩;exact h0 b a),Nat.mod_eq_of_lt h128]
   simp
  ·rename_i h128
   have hV2:V / 128 < 2 ^ (64 - 7 * (i+1)):=by
    have e:64 - 7 * i=(64 - 7 * (i+1))+7:=by omega
    rw[e,Nat.pow_add] at hV
    omega
   simp only[List.cons_append,dE]
   rw[if_neg (by omega),if_pos (by omega),ih (i+1) (V / 128) _ (by omega) hV2 (by intro _;omega)]
   have e1:(V % 128+128) % 128=V % 128:=by omega
   rw[e1]
   have e2:V * 128 ^ i=V % 128 * 128 ^ i+V / 128 * 128 ^ (i+1):=by
    rw[Nat.pow_succ,<-Nat.mul_assoc,Nat.mul_right_comm (V / 128),<-Nat.add_mul]
    congr 1
    omega
   simp only[List.length_cons,Prod.mk.injEq]
   omega
theorem uW (V:Nat) (t:List Nat) (h:V<=18446744073709551615):uv (groups V++t) 0 0=(V,(groups V).length):=by
 have:=aHy 9 0 V 0 t (by omega) (by simp;omega) (by omega)
 simpa [groups] using this
theorem jD (V:Nat) (t:List Nat) (h:V<=18446744073709551615):numV (groups V++t)=V/\numN (groups V++t)=(groups V).length/\(groups V++t).drop (numN (groups V++t))=t:=by
 have e:=uW V t h
 have h2:numN (groups V++t)=(groups V).length:=by unfold numN;rw[e]
 exact⟨by unfold numV;rw[e],h2,by rw[h2,List.drop_left]⟩
theorem lX (s:ByteArray):strN (sb s)=s:=by
 have h:(strN (sb s)).data.toList=s.data.toList:=by
  unfold strN sb
  rw[strOfNums_data,List.map_map,List.map_map]
  conv=>rhs;rw[<-List.map_id s.data.toList]
  apply List.map_congr_left
  intro a _
  simp
 cases s with
 | mk d=>
  cases h2:strN (sb ⟨d⟩) with
  | mk d2=>
   rw[h2] at h
   simp only at h
   rw[Array.toList_inj.1 h]
theorem iV (there:Bool) (s:ByteArray) (t:List Nat) (bad:Bool) (hs:s.size<=2000):txV there (textL there s++t)=(if there then sb s else [])/\txL there (textL there s++t)=t/\txB there (textL there s++t) bad=bad:=by
 cases there
 ·simp[txV,txL,txB,textL]
 ·simp only[textL,if_true,List.append_assoc]
  obtain⟨e1,e2,e3⟩:=jD s.size (sb s++t) (by omega)
  have hO:txO (groups s.size++(sb s++t))=false:=by
   unfold txO
   rw[e1,e3]
   apply decide_eq_false
   simp only[List.length_append,dO]
   omega
  have hne:(numN (groups s.size++(sb s++t)) == 0)=false:=by
   rw[e2,beq_eq_false_iff_ne]
   have:=(aU s.size).1
   omega
  simp only[txV,txL,txB,if_true,hO,hne,e1,e3,Bool.or_false]
  refine⟨?_,?_,trivial⟩
  ·rw[<-dO,List.take_left];rfl
  ·rw[<-dO,List.drop_left];rfl
theorem empty_of {s:ByteArray} (h:s.toList=[]):s=⟨#[]⟩:=by
 rw[ByteArray.toList_eq] at h
 cases s with
 | mk d=>rw[show d=#[] from Array.toList_inj.1 h]
theorem aCp (r:Rc):headN r<=3/\(headN r % 2 == 1)=r.hk/\(headN r / 2 == 1)=r.hv:=by
 unfold headN headB
 cases r.hk<;>cases r.hv<;>decide
def mv (r:Rc) (t:Int):Rc:=⟨r.hk,r.k,r.hv,r.v,t,r.o⟩
theorem aDw (r:Rc) (first other:Int) (t:List Nat) (hc:chk r=0) (hf:timeB first=true) (ho:timeB other=true) :
 badAt (encL r first++t)=false/\gate (encL r first++t) other=true/\p4 (encL r first++t)=t/\rcOf (encL r first++t) other=mv r (r.t - first+other):=by
 obtain⟨t0,t1,o0,o1,k1,v1,hk,hv⟩:=dN hc
 obtain⟨f0,f1⟩:=(bZ first).1 hf
 obtain⟨q0,q1⟩:=(bZ other).1 ho
 obtain⟨h3,ek,ev⟩:=aCp r
 have hz:=pV (r.t - first) (by omega) (by omega)
 have e0:p0 (encL r first++t)=groups r.o.toNat++(groups (zig (r.t - first)).toNat++(textL r.hk r.k++(textL r.hv r.v++t))):=by
  unfold p0 encL
  simp[List.append_assoc]
 have g0:(encL r first++t).getD 0 0=headN r:=rfl
 have hkk:hkOf (encL r first++t)=r.hk:=by unfold hkOf;rw[g0];exact ek
 have hvv:hvOf (encL r first++t)=r.hv:=by unfold hvOf;rw[g0];exact ev
 obtain⟨a1,a2,a3⟩:=jD r.o.toNat (groups (zig (r.t - first)).toNat++(textL r.hk r.k++(textL r.hv r.v++t))) (by omega)
 have e1:p1 (encL r first++t)=groups (zig (r.t - first)).toNat++(textL r.hk r.k++(textL r.hv r.v++t)):=by
  unfold p1;rw[e0,a3]
 obtain⟨c1,c2,c3⟩:=jD (zig (r.t - first)).toNat (textL r.hk r.k++(textL r.hv r.v++t)) (by omega)
 have e2:p2 (encL r first++t)=textL r.hk r.k++(textL r.hv r.v++t):=by
  unfold p2;rw[e1,c3]
 have eb:b2 (encL r first++t)=false:=by
  unfold b2
  rw[e0,e1,a2,c2]
  have x1:=(aU r.o.toNat).1
  have x2:=(aU (zig (r.t - first)).toNat).1
  rw[Bool.or_eq_false_iff,beq_eq_false_iff_ne,beq_eq_false_iff_ne]
  omega
 have e3:p3 (encL r first++t)=textL r.hv r.v++t:=by
  unfold p3;rw[e2,hkk];exact(iV r.hk r.k _ false k1).2.1
 have e4:p4 (encL r first++t)=t:=by
  unfold p4;rw[e3,hvv];exact(iV r.hv r.v t false v1).2.1
 refine⟨?_,?_,e4,?_⟩
 ·unfold badAt
  rw[eb,e2,e3,hkk,hvv,(iV r.hk r.k _ false k1).2.2,(iV r.hv r.v t false v1).2.2]
 ·unfold gate
  rw[ho,g0]
  simp[encL,h3]
 ·unfold rcOf mv
  rw[hkk,hvv,e0,e1,e2,e3,(iV r.hk r.k _ false k1).1,(iV r.hv r.v t false v1).1,a1,c1]
  have s1:strN (if r.hk=true then sb r.k else [])=r.k:=by
   by_cases h:r.hk=true
   ·rw[if_pos h];exact lX r.k
   ·rw[if_neg h,empty_of (hk (by simpa using h))];rfl
  have s2:strN (if r.hv=true then sb r.v else [])=r.v:=by
   by_cases h:r.hv=true
   ·rw[if_pos h];exact lX r.v
   ·rw[if_neg h,empty_of (hv (by simpa using h))];rfl
  rw[s1,s2,show(((zig (r.t - first)).toNat:Nat):Int)=zig (r.t - first) by omega,aBr,show((r.o.toNat:Nat):Int)=r.o by omega]
  have w1:wrap64 (other+(r.t - first))=r.t - first+other:=by rw[w64 _ (by omega) (by omega)];omega
  rw[w1,w64 r.o (by omega) (by omega)]
theorem qM (r:Rc) (first:Int) (t:List Nat) (hc:chk r=0) (hf:timeB first=true):okD (encL r first++t) first=true/\decR (encL r first++t) first=r/\decN (encL r first++t) first=(encL r first).length/\decE (encL r first++t) first=0:=by
 obtain⟨h1,h2,h3,h4⟩:=aDw r first first t hc hf hf
 have e:mv r (r.t - first+first)=r:=by
  unfold mv
  rw[show r.t - first+first=r.t by omega]
 rw[e] at h4
 have ok:okD (encL r first++t) first=true:=by
  unfold okD
  rw[h1,h2,h4,hc]
  rfl
 refine⟨ok,?_,?_,?_⟩
 ·unfold decR;rw[if_pos ok,h4]
 ·unfold decN;rw[if_pos ok,h3];simp
 ·unfold decE;rw[if_pos ok]
theorem aH {w:World} {g:Nat} {cs:Array Value} {t:TypeId} {fr:Nat × Nat} (h:w.heap[g]? = some (.cells cs t fr)) (i:Nat) (v:Value):(w.setCell ⟨g,i,none⟩ v).heap[g]? = some (.cells (cs.setIfInBounds i v) t fr):=by
 have hlt:g < w.heap.size:=(Array.getElem?_eq_some_iff.1 h).1
 have hv:w.heap[g]=.cells cs t fr:=(Array.getElem?_eq_some_iff.1 h).2
 unfold World.setCell
 rw[Array.getElem?_eq_getElem (by simpa using hlt),Array.getElem_modify]
 simp[hv]
structure DS (M R B:Nat) (w0 w:World) (r:Rc) (l:List Nat) (bad:Bool):Prop where
 box:w.heap[R]? = some (.cells r.cells 84 (0,0))
 rd:RdS w B M l bad
 bel:Below M w0 w
 mr:M<=R
 rb:R < B
theorem DS.cells {M R B:Nat} {w0 w:World} {r:Rc} {l:List Nat} {bad:Bool} (h:DS M R B w0 w r l bad) :
 w.cell? ⟨R,0,none⟩=some (.bool r.hk)/\w.cell? ⟨R,1,none⟩=some (.string r.k)/\w.cell? ⟨R,2,none⟩=some (.bool r.hv)/\w.cell? ⟨R,3,none⟩=some (.string r.v)/\w.cell? ⟨R,4,none⟩=some (.int .i64 r.t)/\w.cell? ⟨R,5,none⟩=some (.int .i64 r.o)/\∀i,w.frozen? ⟨R,i,none⟩=false:=by
 have hc:∀j,w.cell? ⟨R,j,none⟩=r.cells[j]?:=fun j=>cell_of_row _ R j r.cells 84 (0,0) h.box
 refine⟨by rw[hc];rfl,by rw[hc];rfl,by rw[hc];rfl,by rw[hc];rfl,by rw[hc];rfl,by rw[hc];rfl,fun i=>?_⟩
 simp[World.frozen?,h.box]
theorem DS.put {M R B:Nat} {w0 w:World} {r:Rc} {l:List Nat} {bad:Bool} (h:DS M R B w0 w r l bad) (i:Nat) (v:Value) (r':Rc) (he:r.cells.setIfInBounds i v=r'.cells):DS M R B w0 (w.setCell ⟨R,i,none⟩ v) r' l bad:=by
 have hne:∀j,(⟨R,i,none⟩:Addr)≠⟨B,j,none⟩:=fun j e=>by
  injection e with e1
  have:=h.rb
  omega
 refine⟨by rw[aH h.box,he],RdS.turn h.rd ((Below.refl M w).setCell (p:=⟨R,i,none⟩) h.mr v) (fun j=>World.cell?_setCell_other _ _ _ _ (hne j)) (fun j=>World.frozen?_setCell _ _ _ _),h.bel.setCell (p:=⟨R,i,none⟩) h.mr v,h.mr,h.rb⟩
theorem oD {M R B:Nat} {w0 w:World} {r:Rc} {l:List Nat} {bad:Bool} (h:DS M R B w0 w r l bad) :
 Calls Tryz.prog 115 #[.pointer (some ⟨B,0,none⟩)] w fun e w'=>e=.returned (.int .u64 ((numV l:Nat):Int))/\DS M R B w0 w' r (l.drop (numN l)) (bad || numN l == 0):=by
 have hmr:=h.mr
 have hrb:=h.rb
 refine(mO B M l bad w (by omega) h.rd).mono ?_
 rintro e w' ⟨rfl,hr,hb,hz⟩
 exact⟨rfl,by rw[hb.block R hrb];exact h.box,hr,h.bel.trans (hb.mono (by omega)),hmr,hrb⟩
theorem yN {M R B:Nat} {w0 w:World} {r:Rc} {l:List Nat} {bad:Bool} (h:DS M R B w0 w r l bad) (there:Bool) :
 Calls Tryz.prog 117 #[.pointer (some ⟨B,0,none⟩),.bool there] w fun e w'=>e=.returned (.string (strN (txV there l)))/\DS M R B w0 w' r (txL there l) (txB there l bad):=by
 have hmr:=h.mr
 have hrb:=h.rb
 refine(aD8 there B M l bad w (by omega) h.rd).mono ?_
 rintro e w' ⟨rfl,hr,hb,hz⟩
 exact⟨rfl,by rw[hb.block R hrb];exact h.box,hr,h.bel.trans (hb.mono (by omega)),hmr,hrb⟩
theorem Tryz.info84:(Tryz.prog.info? 84).map (·.size)=some 6:=by kernel_rfl
theorem jB {fn:Func} {p u u2:Tmp} {ty:TypeId} (h:fn.results=#[.cell p ty,.tmp u,.tmp u2]) (tmps:Array Value) (P:Program) (w:World) :
 (results fn tmps).run P w =
  ((asAddr (tmps.getD p undef)).run P w).andThen fun a w₁=>((loadVar ty a).run P w₁).andThen fun v w₂=>.ok (.tuple #[v,tmps.getD u undef,tmps.getD u2 undef]) w₂:=by
 simp only[results,h]
 simp[Sem.run_bind,Result.andThen]
theorem aN {fn:Func} {p u u2:Tmp} (h:fn.results=#[.cell p 84,.tmp u,.tmp u2]) (tmps:Array Value) (w:World) (g:Nat) (r:Rc) (v v2:Value) (hp:tmps.getD p undef=.pointer (some ⟨g,0,none⟩)) (hv:tmps.getD u undef=v) (hv2:tmps.getD u2 undef=v2) (hg:w.heap[g]? = some (.cells r.cells 84 (0,0))) :
 (results fn tmps).run Tryz.prog w=.ok (.tuple #[.agg r.cells,v,v2]) w:=by
 have h2:=run_loadVar_row (P:=Tryz.prog) w g 84 84 r.cells (0,0) _ hg Tryz.underlying84 rfl Tryz.info84
 subst hv
 subst hv2
 rw[jB h,hp]
 simp[asAddr,h2,Result.andThen]
theorem below_setRow {B:Nat} {a w:World} (h:Below B a w) {g:Nat} (hg:B<=g) (cs:Array Value):Below B a (w.setRow g cs):=
 ⟨h.os,h.tape,h.output,by simp;exact h.size,fun k hk=>(setRow_other w g k cs (by omega)).trans (h.block k hk)⟩
theorem bM (r:Rc):r.cells.all (·.oneCell')=true:=by simp[Rc.cells,Value.oneCell']
theorem Tryz.info5s:(Tryz.prog.info? 5).map (·.size)=some 1:=by kernel_rfl
theorem eM (w:World) (a:Option Addr) (len cap n:Nat) (k:IntKind) (h:n<=len):(Instr.slice 22 (.slice a len cap) (some (.int k (n:Int))) none none).run Tryz.prog w=.ok (.slice (cutA a cap n) (len - n) (cap - n)) w:=by
 have hs:(sizeOf 5).run Tryz.prog w=.ok 1 w:=by
  obtain⟨i,hi,e⟩:=Option.map_eq_some_iff.1 Tryz.info5s
  simp[sizeOf,typeInfo,hi,e]
 have h1:(0:Int)<=(n:Int)/\(n:Int)<=(len:Int):=by omega
 simp[Instr.slice,run_underlying Tryz.underlying22,Instr.sliceBounds,Instr.sliceBound,asIntOf,h1,hs,cutA]
 intro hh
 omega
theorem yI (a:Option Addr) (cap:Nat) (l:List Nat) (w:World) (hr:Row w a l) (hl:l.length<=maxLen) :
 Calls Tryz.prog 86 #[.slice a l.length cap] w fun e w'=>e=.returned (.tuple #[.int .u64 ((uv l 0 0).1:Nat),.int .i64 ((uv l 0 0).2:Nat)])/\w'=w:=by
 unfold maxLen at hl
 obtain⟨r,HR⟩:∃r,Hid (uv l 0 0=r):=⟨_,rfl⟩
 rw[HR.out]
 go_enter Tryz.func86,Tryz.ntmps86
 go_wp2
 go_loop [4,5] (fun v i=>∃k V:Nat,k<=l.length/\k<=9/\i=.int .i64 k/\v=.int .u64 V/\UvAt l r k V) (fun _ i=>l.length - (intOf i).toNat)
 case atStart=>exact⟨0,0,by omega,by omega,rfl,rfl,by omega,HR.out⟩
 case round=>
  obtain⟨k,V,hk,hk9,rfl,rfl,hV,hu⟩:=hrel
  have HU:Hid (uv (l.drop k) k V=r):=hu
  clear hu HR
  by_cases hlt:k < l.length
  ·obtain⟨b,off,rfl,hc,hlt2⟩:=hr k hlt
   have HC:Hid (uv (l.getD k 0::l.drop (k+1)) k V=r):=by rw[<-drop_at l k hlt];exact HU
   clear hr HU
   generalize l.getD k 0=c at *
   have HV:Hid (V < 128 ^ k):=hV
   clear hV
   have h127:=u8_and127 c hlt2
   have hltI:(k:Int) < (l.length:Int):=by omega
   by_cases h9:k=9/\1 < c
   ·have HE:Hid (r=(0,0)):=by rw[<-HC.out,dE,if_pos h9];exact rfl
    have hk9':((k:Int) == 9)=true:=by rw[beq_iff_eq];omega
    have h1c:1 < (c:Int):=by omega
    clear HC h9
    go_wp2
    go_ret2
    rw[HE.out]
    exact⟨rfl,rfl⟩
   ·have HOR:Hid (bits .or .u64 (V:Int) (IntKind.u64.wrap ((c:Int) % 128 * 2 ^ (7 * k)))=((V+c % 128 * 128 ^ k:Nat):Int)):=
     or7 V (c % 128) k hk9 (by
      intro e;have:c<=1:=by omega
      omega) HV.out (by omega)
    have hd9:((k:Int) == 9 && decide (1 < (c:Int)))=false:=by
     by_cases h:k=9
     ·have:c<=1:=by omega
      simp;intro _;omega
     ·simp;intro e;omega
    by_cases h128:128<=c
    ·have HE:Hid (uv (l.drop (k+1)) (k+1) (V+c % 128 * 128 ^ k)=r):=by rw[<-HC.out,dE,if_neg h9,if_pos h128];exact rfl
     have hk9':k≠9:=by intro e;exact h9 ⟨e,by omega⟩
     have hkb:((k:Int) == 9)=false:=by rw[beq_eq_false_iff_ne];omega
     clear HC h9 hd9
     go_wp2
     go_round
     case rel=>exact⟨k+1,V+c % 128 * 128 ^ k,by omega,by omega,by go_num,by rw[HOR.out],uE V c k HV.out,HE.out⟩
     case measure=>simp[intOf];omega
    ·by_cases h00:c=0/\0 < k
     ·have HE:Hid (r=(0,0)):=by rw[<-HC.out,dE,if_neg h9,if_neg h128,if_pos h00];exact rfl
      obtain⟨rfl,hk0⟩:=h00
      clear HC h9
      by_cases hk9':((k:Int) == 9)=true
      ·go_wp2
       go_ret2
       rw[HE.out]
       exact⟨rfl,rfl⟩
      ·have hk9'':((k:Int) == 9)=false:=by simpa using hk9'
       clear hk9'
       go_wp2
       go_ret2
       rw[HE.out]
       exact⟨rfl,rfl⟩
     ·have HE:Hid (r=(V+c % 128 * 128 ^ k,k+1)):=by rw[<-HC.out,dE,if_neg h9,if_neg h128,if_neg h00];exact rfl
      clear HC
      have hc1:¬128<=(c:Int):=by omega
      by_cases hk9':((k:Int) == 9)=true
      ·have hk:k=9:=by have:=WalkArith.int_eq hk9';omega
       have hc1:¬1 < (c:Int):=by intro e;exact h9 ⟨hk,by omega⟩
       have hc0:((c:Int) == 0)=false:=by rw[beq_eq_false_iff_ne];intro e;exact h00 ⟨by omega,by omega⟩
       clear h9 h00 hk hd9
       go_wp2
       go_ret2
       rw[HE.out]
       exact⟨oN (by rw[HOR.out]) (by omega),rfl⟩
      ·have hk9'':((k:Int) == 9)=false:=by simpa using hk9'
       clear hk9'
       by_cases hc0:((c:Int) == 0)=true
       ·have hk0:¬(0:Int) < k:=by have:=WalkArith.int_eq hc0;intro e;exact h00 ⟨by omega,by omega⟩
        clear h9 h00 hd9
        go_wp2
        go_ret2
        rw[HE.out]
        exact⟨oN (by rw[HOR.out]) (by omega),rfl⟩
       ·have hc0':((c:Int) == 0)=false:=by simpa using hc0
        clear h9 h00 hc0 hd9
        go_wp2
        go_ret2
        rw[HE.out]
        exact⟨oN (by rw[HOR.out]) (by omega),rfl⟩
  ·have HE:Hid (r=(0,0)):=by rw[<-HU.out,List.drop_eq_nil_of_le (by omega)];exact rfl
   go_wp2
   go_ret2
   rw[HE.out]
   exact⟨rfl,rfl⟩
theorem tJ (V:Nat) (h:V<=18446744073709551615):bits .and .u64 (V:Int) 127=((V % 128:Nat):Int):=by
 rw[u64_and _ _ (by omega) (by omega) (by omega) (by omega),show((127:Int).toNat)=2 ^ 7 - 1 by decide,Nat.and_two_pow_sub_one_eq_mod]
 simp
theorem wR (V:Nat) (h:V<=18446744073709551615):bits .or .u64 ((V:Int) % 128) 128=((V % 128+128:Nat):Int):=by
 rw[u64_or _ _ (by omega) (by omega) (by omega) (by omega)]
 have:=or128_nat ⟨V % 128,by omega⟩
 simp only at this
 rw[show((V:Int) % 128).toNat=V % 128 by omega,show((128:Int).toNat)=128 by decide,this]
 omega
theorem rJ (V0:Nat) (w:World) (hV:V0<=18446744073709551615) :
 Calls Tryz.prog 106 #[.int .u64 V0] w fun e w'=>∃v,e=.returned v/\w'.ownsRow w.heap.size 5 1 v (groups V0).length (cv (groups V0))/\Below w.heap.size w w':=by
 obtain⟨i0,hi,hz0,hz1,hz2⟩:=info_parts Tryz.info5
 obtain⟨out,HO⟩:∃out,Hid (out=groups V0):=⟨_,rfl⟩
 rw[<-HO.out]
 go_enter Tryz.func106,Tryz.ntmps106
 go_wp2
 go_loopw [0,3] (fun v b wr=>∃(V:Nat) (acc:List Nat),v=.int .u64 V/\VrAt out acc V/\wr.ownsRow w.heap.size 5 1 b acc.length (cv acc)/\Below w.heap.size w wr) (fun v _ _=>(intOf v).toNat)
 case atStart=>exact⟨V0,[],rfl,by rw[HO.out];exact VrAt.start V0 hV,World.ownsRow_nil _ _ _ _,Below.refl _ _⟩
 case round=>
  obtain⟨V,acc,rfl,hA,hown,hbel⟩:=hrel
  have hVb:=hA.bd
  have hlen:=hA.len
  have hsz:=hbel.size
  by_cases h128:128<=V
  ·have hm:=hA.more h128
   have HM:Hid (VrAt out (acc++[V % 128+128]) (V / 128)):=hm
   have hor:=wR V hVb
   have hand:=tJ V hVb
   clear hm hA
   go_wp2_with (at_builtin;refine wpList_append_own _ rfl _ _ 22 rfl w.heap.size 5 i0 (.int .u8 0) 1 1 Tryz.underlying22 hi hz0 hz1 hz2 rfl (by decide) _ _ _ rfl (hown.alloc _) ⟨wr.heap.size,0,none⟩ 1 1 (cv [V % 128+128]) rfl rfl (one_cell (by omega)) (eF _) (by unfold maxLen;omega) (by omega) (by simp;omega) ?_)
   intro v' w1 hown' hgrow _
   have R:=iN hown hbel hsz hown' hgrow
   clear hown' hgrow hown hbel
   go_wp2
   exact⟨⟨V / 128,acc++[V % 128+128],by go_num,HM.out,R.1,R.2⟩,by simp[intOf];omega⟩
  ·have hst:=hA.stop (by omega)
   have HS:Hid (acc++[V]=out):=hst
   clear hst hA
   have hv1:¬128<=(V:Int):=by omega
   go_wp2_with (at_builtin;refine wpList_append_own _ rfl _ _ 22 rfl w.heap.size 5 i0 (.int .u8 0) 1 1 Tryz.underlying22 hi hz0 hz1 hz2 rfl (by decide) _ _ _ rfl (hown.alloc _) ⟨wr.heap.size,0,none⟩ 1 1 (cv [V]) rfl rfl (one_cell rfl) (eF _) (by unfold maxLen;omega) (by omega) (by simp;omega) ?_)
   intro v' w1 hown' hgrow _
   have R:=iN hown hbel hsz hown' hgrow
   clear hown' hgrow hown hbel
   go_wp2
   go_ret
   exact⟨v',rfl,by rw[<-HS.out];exact R.1,R.2⟩
def okT (q:List Nat):Bool:=!(numN q == 0) && decide (numV q<=2000) && !(txO q)
theorem lJ (a:Option Addr) (cap:Nat) (l:List Nat) (i:Nat) (w:World) (hr:Row w a l) (hl:l.length<=cap) (hc:cap<=maxLen) :
 Calls Tryz.prog 86 #[.slice (cutA a cap i) (l.length - i) (cap - i)] w fun e w'=>e=.returned (.tuple #[.int .u64 ((numV (l.drop i):Nat):Int),.int .i64 ((numN (l.drop i):Nat):Int)])/\w'=w:=by
 have:=yI (cutA a cap i) (cap - i) (l.drop i) w (dG cap i hr hl) (by rw[List.length_drop];omega)
 rw[List.length_drop] at this
 exact this
theorem aBf {w:World} {a:Option Addr} {l:List Nat} (cap i n:Nat) (hr:Row w a l) (hl:l.length<=cap) (hn:n<=l.length - i) (c:Nat):(convert 22 9 (.slice (cutA a cap i) n c)).run Tryz.prog w=.ok (.string (strN ((l.drop i).take n))) w:=by
 have:=jN c (gP n (dG cap i hr hl))
 rw[show((l.drop i).take n).length=n by simp;omega] at this
 exact this
theorem yQ (b off cap len i:Nat) (u:World) (hl:len<=6000) (hlc:len<=cap) (hcm:cap<=9223372036854775807) (hi:i<=len) (V n:Nat) (hV:V<=18446744073709551615) (hn:n<=len - i) (s:ByteArray) (z:Bool)
 (HU:Hid (Calls Tryz.prog 86 #[.slice (cutA (some ⟨b,off,none⟩) cap i) (len - i) (cap - i)] u fun e w'=>e=.returned (.tuple #[.int .u64 (V:Int),.int .i64 (n:Int)])/\w'=u))
 (HS:Hid (z=true->∀c,(convert 22 9 (.slice (cutA (some ⟨b,off,none⟩) cap (i+n)) V c)).run Tryz.prog u=.ok (.string s) u))
 (HZ:Hid (z=(!(n == 0) && decide (V<=2000) && decide (V<=len - i - n)))) :
 Calls Tryz.prog 88 #[.slice (some ⟨b,off,none⟩) len cap,.int .i64 (i:Int)] u fun e w'=>e=.returned (.tuple #[.string (if z=true then s else ⟨#[]⟩),.int .i64 (if z=true then ((i+n+V:Nat):Int) else -1)])/\w'=u:=by
 have hiI:(i:Int)<=(len:Int):=by omega
 have hlI:(len:Int)<=6000:=by omega
 have hlcI:(len:Int)<=(cap:Int):=by omega
 have hnI:(n:Int)<=(len:Int) - (i:Int):=by omega
 have hicI:(i:Int)<=(cap:Int):=by omega
 by_cases hci:cap=i
 ·obtain rfl:cap=len:=by omega
  subst hci
  have hn0:n=0:=by omega
  subst hn0
  have hz:z=false:=by rw[HZ.out];rfl
  subst hz
  clear HS HZ
  simp only[Bool.false_eq_true,if_false]
  have e1:cutA (some ⟨b,off,none⟩) cap cap=some ⟨b,off,none⟩:=by unfold cutA;rw[if_pos rfl]
  rw[e1,Nat.sub_self] at HU
  go_enter Tryz.func88,Tryz.ntmps88
  go_wp2_with (go_at_call 86;refine Calls.mono HU.out ?_;rintro e w1 ⟨rfl,hw⟩;subst w1)
  go_ret2
  exact⟨rfl,rfl⟩
 ·have e1:cutA (some ⟨b,off,none⟩) cap i=some ⟨b,off+i,none⟩:=by unfold cutA;rw[if_neg hci,Option.map_some,Addr.add_lit]
  rw[e1] at HU
  clear e1
  cases z
  ·have hz:=HZ.out
   simp only[Bool.false_eq_true,if_false]
   by_cases hn0:n=0
   ·subst hn0
    clear HS HZ hz
    go_enter Tryz.func88,Tryz.ntmps88
    go_wp2_with (go_at_call 86;refine Calls.mono HU.out ?_;rintro e w1 ⟨rfl,hw⟩;subst w1)
    go_ret2
    exact⟨rfl,rfl⟩
   ·have hn1:((n:Int) == 0)=false:=by rw[beq_eq_false_iff_ne];omega
    have hn2:(n == 0)=false:=by rw[beq_eq_false_iff_ne];omega
    by_cases hv:V<=2000
    ·have hv2:¬(2000:Int) < (V:Int):=by omega
     have hwV:IntKind.i64.wrap (V:Int)=(V:Int):=by rw[IntKind.wrap_i64];omega
     have hb:¬V<=len - i - n:=by
      rw[hn2,decide_eq_true hv] at hz
      exact of_decide_eq_false (by simpa using hz.symm)
     have hbI:(len:Int) - (i:Int) - (n:Int) < (V:Int):=by omega
     clear HS HZ hz hn2 hb
     go_enter Tryz.func88,Tryz.ntmps88
     go_wp2_with (go_at_call 86;refine Calls.mono HU.out ?_;rintro e w1 ⟨rfl,hw⟩;subst w1)
     go_ret2
     exact⟨rfl,rfl⟩
    ·have hv2:(2000:Int) < (V:Int):=by omega
     clear HS HZ hz hn2
     go_enter Tryz.func88,Tryz.ntmps88
     go_wp2_with (go_at_call 86;refine Calls.mono HU.out ?_;rintro e w1 ⟨rfl,hw⟩;subst w1)
     go_ret2
     exact⟨rfl,rfl⟩
  ·have hz:=HZ.out
   have hs:=HS.out rfl
   have hz2:(!(n == 0) && decide (V<=2000) && decide (V<=len - i - n))=true:=hz.symm
   simp only[Bool.and_eq_true,Bool.not_eq_true',decide_eq_true_eq,beq_eq_false_iff_ne] at hz2
   obtain⟨⟨hn0,hv⟩,hb⟩:=hz2
   have hn1:((n:Int) == 0)=false:=by rw[beq_eq_false_iff_ne];omega
   have hv2:¬(2000:Int) < (V:Int):=by omega
   have hwV:IntKind.i64.wrap (V:Int)=(V:Int):=by rw[IntKind.wrap_i64];omega
   have hbI:(V:Int)<=(len:Int) - (i:Int) - (n:Int):=by omega
   have hIc:(i:Int)+(n:Int)+(V:Int)<=(cap:Int):=by omega
   have hVI:(V:Int)<=2000:=by omega
   clear HS HZ hz
   by_cases hcn:cap=i+n
   ·have hV0:V=0:=by omega
    subst hV0
    have e2:cutA (some ⟨b,off,none⟩) cap (i+n)=some ⟨b,off,none⟩:=by unfold cutA;rw[if_pos hcn]
    rw[e2] at hs
    obtain rfl:len=i+n:=by omega
    subst hcn
    rw[Nat.add_sub_cancel_left] at HU
    clear e2
    go_enter Tryz.func88,Tryz.ntmps88
    go_wp2_with (go_at_call 86;refine Calls.mono HU.out ?_;rintro e w1 ⟨rfl,hw⟩;subst w1)
    go_ret2
    exact⟨rfl,rfl⟩
   ·have e2:cutA (some ⟨b,off,none⟩) cap (i+n)=some ⟨b,off+(i+n),none⟩:=by unfold cutA;rw[if_neg hcn,Option.map_some,Addr.add_lit]
    rw[e2] at hs
    go_enter Tryz.func88,Tryz.ntmps88
    go_wp2_with (go_at_call 86;refine Calls.mono HU.out ?_;rintro e w1 ⟨rfl,hw⟩;subst w1)
    go_ret2
    exact⟨rfl,rfl⟩
theorem xD (b off cap:Nat) (l:List Nat) (i:Nat) (u:World) (hr:Row u (some ⟨b,off,none⟩) l) (hl:l.length<=6000) (hlc:l.length<=cap) (hcm:cap<=maxLen) (hi:i<=l.length) :
 Calls Tryz.prog 88 #[.slice (some ⟨b,off,none⟩) l.length cap,.int .i64 (i:Int)] u fun e w'=>e=.returned (.tuple #[.string (if okT (l.drop i)=true then strN (((l.drop i).drop (numN (l.drop i))).take (numV (l.drop i))) else ⟨#[]⟩),.int .i64 (if okT (l.drop i)=true then ((i+numN (l.drop i)+numV (l.drop i):Nat):Int) else -1)])/\w'=u:=by
 have hn:=kL (l.drop i)
 rw[List.length_drop] at hn
 refine yQ b off cap l.length i u hl hlc (by unfold maxLen at hcm;exact hcm) hi (numV (l.drop i)) (numN (l.drop i)) (fD _) hn _ (okT (l.drop i)) (lJ _ cap l i u hr hlc hcm) ?_ ?_
 ·intro hz c
  have h2:numV (l.drop i)<=l.length - (i+numN (l.drop i)):=by
   simp only[okT,txO,Bool.and_eq_true,Bool.not_eq_true',decide_eq_false_iff_not,List.length_drop] at hz
   omega
  have:=aBf cap (i+numN (l.drop i)) (numV (l.drop i)) hr hlc h2 c
  rw[<-List.drop_drop] at this
  exact this
 ·show _=_
  unfold okT txO
  congr 1
  rw[Bool.eq_iff_iff]
  simp only[Bool.not_eq_true',decide_eq_false_iff_not,decide_eq_true_eq,List.length_drop]
  omega
theorem lL (l:List Nat):(strN l).size=l.length:=by
 have h:(strN l).data.toList.length=l.length:=by
  unfold strN
  rw[strOfNums_data]
  simp
 rw[<-h]
 simp
theorem zV:strN []=⟨#[]⟩:=rfl
theorem fW:(strN []).size<=2000/\(strN []).toList=[]:=⟨by decide,by decide +kernel⟩
theorem zQ (V:Nat) (h:V<=18446744073709551615):-9223372036854775808<=zag V/\zag V<=9223372036854775807:=by
 unfold zag
 split<;>omega
theorem wrap_in {x:Int} (h0:-9223372036854775808<=x) (h1:x<=9224497936761618431) (h:0<=wrap64 x/\wrap64 x<=1125899906842624):0<=x/\x<=1125899906842624:=by
 unfold wrap64 at h
 omega
theorem aAt {V:Nat} (h0:V<=18446744073709551615) (h:0<=wrap64 V/\wrap64 V<=99):V<=99:=by
 unfold wrap64 at h
 omega
theorem uL {q:List Nat} {bad:Bool} (h:txB true q bad=false) (hs:(strN (txV true q)).size<=2000):okT q=true/\bad=false:=by
 simp only[txB,if_true,Bool.or_eq_false_iff] at h
 obtain⟨⟨h1,h2⟩,h3⟩:=h
 refine⟨?_,h1⟩
 have h4:=of_decide_eq_false h3
 rw[lL] at hs
 simp only[txV,if_true,h3] at hs
 rw[if_neg (by simp),List.length_take] at hs
 unfold okT
 rw[h2,h3]
 simp only[Bool.not_false,Bool.and_true,Bool.true_and,decide_eq_true_eq]
 omega
theorem oK {q:List Nat} (h:okT q=true) (bad:Bool):txB true q bad=bad/\txV true q=(q.drop (numN q)).take (numV q)/\txL true q=q.drop (numN q+numV q)/\(strN (txV true q)).size<=2000/\numN q+numV q<=q.length:=by
 simp only[okT,Bool.and_eq_true,Bool.not_eq_true',decide_eq_true_eq] at h
 obtain⟨⟨h1,h2⟩,h3⟩:=h
 have h4:=of_decide_eq_false h3
 have e:txV true q=(q.drop (numN q)).take (numV q):=by
  unfold txV
  rw[if_pos rfl,h3]
  rfl
 have hn:=kL q
 rw[List.length_drop] at h4
 refine⟨?_,e,?_,?_,by omega⟩
 ·unfold txB
  rw[if_pos rfl,h1,h3]
  simp
 ·unfold txL
  rw[if_pos rfl,h3,<-List.drop_drop]
  rfl
 ·rw[e,lL,List.length_take]
  omega
structure Reads (l:List Nat) (first:Int):Prop where
 n0:numN (p0 l)≠0
 v0:numV (p0 l)<=99
 n1:numN (p1 l)≠0
 t0:0<=first+zag (numV (p1 l))
 t1:first+zag (numV (p1 l))<=1125899906842624
 k:hkOf l=true->okT (p2 l)=true
 v:hvOf l=true->okT (p3 l)=true
theorem rL {l:List Nat} {first:Int} (f0:0<=first) (f1:first<=1125899906842624) (h:okD l first=true):Reads l first:=by
 unfold okD at h
 simp only[Bool.and_eq_true,Bool.not_eq_true',beq_iff_eq] at h
 obtain⟨⟨_,hb⟩,hc⟩:=h
 obtain⟨t0,t1,o0,o1,k1,v1,_,_⟩:=dN hc
 simp only[rcOf] at t0 t1 o0 o1 k1 v1
 have z:=zQ (numV (p1 l)) (fD _)
 have ht:=wrap_in (by omega) (by omega) ⟨t0,t1⟩
 unfold badAt at hb
 have hkv:(hvOf l=true->okT (p3 l)=true)/\txB (hkOf l) (p2 l) (b2 l)=false:=by
  cases hv:hvOf l
  ·rw[hv] at hb
   exact⟨fun c=>(by cases c),hb⟩
  ·rw[hv] at hb v1
   exact⟨fun _=>(uL hb v1).1,(uL hb v1).2⟩
 have hkk:(hkOf l=true->okT (p2 l)=true)/\b2 l=false:=by
  have hb2:=hkv.2
  cases hk:hkOf l
  ·rw[hk] at hb2
   exact⟨fun c=>(by cases c),hb2⟩
  ·rw[hk] at hb2 k1
   exact⟨fun _=>(uL hb2 k1).1,(uL hb2 k1).2⟩
 have h2:=hkk.2
 simp only[b2,Bool.or_eq_false_iff,beq_eq_false_iff_ne] at h2
 exact⟨h2.1,aAt (fD _) ⟨o0,o1⟩,h2.2,ht.1,ht.2,hkk.1,hkv.1⟩
theorem kH {l:List Nat} {first:Int} (hg:gate l first=true) (h:Reads l first):okD l first=true/\
 rcOf l first=⟨hkOf l,if hkOf l=true then strN (((p2 l).drop (numN (p2 l))).take (numV (p2 l))) else ⟨#[]⟩,hvOf l,if hvOf l=true then strN (((p3 l).drop (numN (p3 l))).take (numV (p3 l))) else ⟨#[]⟩,first+zag (numV (p1 l)),((numV (p0 l):Nat):Int)⟩:=by
 obtain⟨n0,v0,n1,t0,t1,k,v⟩:=h
 have e1:wrap64 (first+zag (numV (p1 l)))=first+zag (numV (p1 l)):=w64 _ (by omega) (by omega)
 have e2:wrap64 ((numV (p0 l):Nat):Int)=((numV (p0 l):Nat):Int):=w64 _ (by omega) (by omega)
 have s1:strN (txV (hkOf l) (p2 l))=(if hkOf l=true then strN (((p2 l).drop (numN (p2 l))).take (numV (p2 l))) else ⟨#[]⟩)/\(strN (txV (hkOf l) (p2 l))).size<=2000/\(hkOf l=false->(strN (txV (hkOf l) (p2 l))).toList=[])/\txB (hkOf l) (p2 l) (b2 l)=b2 l:=by
  cases hk:hkOf l
  ·exact⟨rfl,fW.1,fun _=>fW.2,rfl⟩
  ·obtain⟨a1,a2,a3,a4,a5⟩:=oK (k hk) (b2 l)
   exact⟨by rw[a2,if_pos rfl],a4,fun c=>(by cases c),a1⟩
 have s2:strN (txV (hvOf l) (p3 l))=(if hvOf l=true then strN (((p3 l).drop (numN (p3 l))).take (numV (p3 l))) else ⟨#[]⟩)/\(strN (txV (hvOf l) (p3 l))).size<=2000/\(hvOf l=false->(strN (txV (hvOf l) (p3 l))).toList=[])/\txB (hvOf l) (p3 l) (b2 l)=b2 l:=by
  cases hv:hvOf l
  ·exact⟨rfl,fW.1,fun _=>fW.2,rfl⟩
  ·obtain⟨a1,a2,a3,a4,a5⟩:=oK (v hv) (b2 l)
   exact⟨by rw[a2,if_pos rfl],a4,fun c=>(by cases c),a1⟩
 have eb:b2 l=false:=by
  unfold b2
  rw[Bool.or_eq_false_iff,beq_eq_false_iff_ne,beq_eq_false_iff_ne]
  exact⟨n0,n1⟩
 have hbad:badAt l=false:=by
  unfold badAt
  rw[s1.2.2.2,s2.2.2.2,eb]
 have hchk:chk (rcOf l first)=0:=by
  unfold chk oddB rcOf
  simp only[e1,e2]
  have c1:timeB (first+zag (numV (p1 l)))=true:=(bZ _).2 ⟨t0,t1⟩
  rw[c1]
  have q1:=s1.2.1
  have q2:=s1.2.2.1
  have q3:=s2.2.1
  have q4:=s2.2.2.1
  generalize strN (txV (hkOf l) (p2 l))=x at *
  generalize strN (txV (hvOf l) (p3 l))=y at *
  generalize hkOf l=a at *
  generalize hvOf l=b at *
  generalize numV (p0 l)=V at *
  clear s1 s2 k v
  grind
 refine⟨?_,?_⟩
 ·unfold okD
  rw[hg,hbad,hchk]
  rfl
 ·unfold rcOf
  rw[e1,e2,s1.1,s2.1]
end Go.Proofs.YtaooidckmepdeaaGreatDoor
