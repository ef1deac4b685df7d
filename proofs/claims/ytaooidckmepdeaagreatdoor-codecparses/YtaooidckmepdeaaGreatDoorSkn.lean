/- Ss Yw -/
import Derived.Test.YtaooidckmepdeaaGreatDoorSkm
namespace Go.Proofs.YtaooidckmepdeaaGreatDoor
set_option linter.unusedSimpArgs false
set_option linter.unusedVariables false
set_option maxRecDepth 100000
set_option maxHeartbeats 6400000
open Go.RowKit
theorem aGs (w:World) (n m:Nat):(w.drewN n).drewN m=w.drewN (n+m):=by simp
theorem aAy {ss ss':List Bs} (e:ss.map (·.b)=ss'.map (·.b)):∀i,i < ss.length->(ss.getD i bsz).b=(ss'.getD i bsz).b:=by
 intro i hi
 have hl:ss.length=ss'.length:=by have:=congrArg List.length e;simpa using this
 have h1:(ss.map (·.b))[i]? = (ss'.map (·.b))[i]?:=by rw[e]
 rw[List.getElem?_map,List.getElem?_map,List.getElem?_eq_getElem hi,List.getElem?_eq_getElem (by omega)] at h1
 rw[List.getD_eq_getElem?_getD,List.getD_eq_getElem?_getD,List.getElem?_eq_getElem hi,List.getElem?_eq_getElem (by omega)]
 simpa using h1
theorem rZ (a a':Option Addr) (ca ca':Nat) (ss ss':List Bs) (w:World) (h:BRow w a ss) (h':BRow w a' ss') (e:ss.map (·.b)=ss'.map (·.b)) (hl:ss.length<=maxLen) :
 Calls Tryz.prog 28 #[.slice a ss.length ca,.slice a' ss'.length ca'] w fun e w'=>e=.returned (.bool true)/\∃n,w'=w.drewN n:=by
 have hlen:ss'.length=ss.length:=by have:=congrArg List.length e;simpa using this.symm
 have HE:Hid (∀i,i < ss.length->(ss.getD i bsz).b=(ss'.getD i bsz).b):=aAy e
 have HL:Hid (ss'.length=ss.length):=hlen
 have HB:Hid (BRow w a ss):=h
 have HB':Hid (BRow w a' ss'):=h'
 rw[hlen]
 clear h h' e hlen
 unfold maxLen at hl
 go_enter Tryz.func28,Tryz.ntmps28
 simp only[List.append]
 go_wp2
 go_loopw [5] (fun i wr=>∃k n:Nat,k<=ss.length/\i=.int .i64 k/\wr=w.drewN n) (fun i _=>ss.length - (iof i).toNat)
 case atStart=>exact⟨0,0,by omega,rfl,rfl⟩
 case round=>
  obtain⟨k,n,hk,rfl,rfl⟩:=hrel
  by_cases hlt:k < ss.length
  ·have hltI:(k:Int) < (ss.length:Int):=by omega
   obtain⟨g1,o1,rfl,y0,y1,y2,y3,y4⟩:=HB.out.1 k hlt
   obtain⟨g2,o2,rfl,z0,z1,z2,z3,z4⟩:=HB'.out.1 k (by rw[HL.out];exact hlt)
   obtain⟨r1,_,l1,_⟩:=HB.out.2 k hlt
   obtain⟨r2,_,l2,_⟩:=HB'.out.2 k (by rw[HL.out];exact hlt)
   rw[<-HE.out k hlt] at z0 z1 z2 z3 z4 r2 l2
   generalize (ss.getD k bsz).b=bb at *
   generalize (ss.getD k bsz).a=a1 at *
   generalize (ss.getD k bsz).cap=c1 at *
   generalize (ss'.getD k bsz).a=a2 at *
   generalize (ss'.getD k bsz).cap=c2 at *
   obtain⟨base,span,prod,seq,rs⟩:=bb
   simp only at y0 y1 y2 y3 y4 z0 z1 z2 z3 z4 r1 r2 l1
   have HR1:Hid (RRow w a1 rs):=r1
   have HR2:Hid (RRow w a2 rs):=r2
   unfold maxLen at l1
   clear r1 r2 l2 HB HB' HE
   go_wp2
   go_quiet (fail)
   go_wp2
   go_loopw [6] (fun i wr=>∃j m:Nat,j<=rs.length/\i=.int .i64 j/\wr=w.drewN m) (fun i _=>rs.length - (iof i).toNat)
   case atStart=>exact⟨0,n+nq,by omega,rfl,aGs _ _ _⟩
   case round=>
    obtain⟨j,m,hj,rfl,rfl⟩:=hrel
    by_cases hjt:j < rs.length
    ·have hjI:(j:Int) < (rs.length:Int):=by omega
     obtain⟨b1,p1,rfl,u0,u1,u2,u3,u4,u5⟩:=HR1.out j hjt
     obtain⟨b2,p2,rfl,v0,v1,v2,v3,v4,v5⟩:=HR2.out j hjt
     clear HR1 HR2
     generalize rs.getD j rz=r at *
     obtain⟨hk',kk,hv,v,t,o⟩:=r
     simp only at u0 u1 u2 u3 u4 u5 v0 v1 v2 v3 v4 v5
     go_wp2
     go_quiet (fail)
     go_wp2
     exact⟨⟨j+1,m+nq,by omega,by go_num,rfl⟩,by simp[iof];omega⟩
    ·go_wp2
     exact⟨⟨k+1,m,by omega,by go_num,rfl⟩,by simp[iof];omega⟩
  ·go_wp2
   go_ret
   exact⟨rfl,n,rfl⟩
theorem tG (a a':Option Addr) (ca ca' n n':Nat) (w:World) (h:((n:Int) != (n':Int))=true) :
 Calls Tryz.prog 28 #[.slice a n ca,.slice a' n' ca'] w fun e w'=>e=.returned (.bool false)/\∃n,w'=w.drewN n:=by
 go_enter Tryz.func28,Tryz.ntmps28
 simp only[List.append]
 go_wp2
 go_ret
 exact⟨rfl,0,rfl⟩
def SS (k i d:Int) (b:Bd) (k' i' d':Int) (b':Bd):Prop:=
 k=k'/\i=i'/\d=d'/\(b 12).n=(b' 12).n/\(b 15).n=(b' 15).n/\(b 16).n=(b' 16).n/\(b 17).nm=(b' 17).nm/\(b 18).ct=(b' 18).ct/\(b 19).bs=(b' 19).bs
theorem zT (k i d k' i' d' n12 n15 n16 m12 m15 m16:Int) (cs ds:Array Value) (na na' ca ca' ba ba':Option Addr) (nc nc' cc cc' bc bc' N N':Nat) (nm nm':List ByteArray) (ct ct':List Int) (R:Bool) (S:Prop) (w:World)
 (HB:Hid (Bx2 w 38 cs ds ((w.alloc (.cells cs 38)).alloc (.cells ds 38))))
 (HC:Hid (cs=#[.int .i64 k,.int .i64 i,.int .i64 d,.int .i64 n12,.int .i64 n15,.int .i64 n16,.slice na nm.length nc,.slice ca ct.length cc,.slice ba N bc]))
 (HD:Hid (ds=#[.int .i64 k',.int .i64 i',.int .i64 d',.int .i64 m12,.int .i64 m15,.int .i64 m16,.slice na' nm'.length nc',.slice ca' ct'.length cc',.slice ba' N' bc']))
 (HN:Hid (SRow ((w.alloc (.cells cs 38)).alloc (.cells ds 38)) na nm/\SRow ((w.alloc (.cells cs 38)).alloc (.cells ds 38)) na' nm')) (HI:Hid (IRow ((w.alloc (.cells cs 38)).alloc (.cells ds 38)) ca ct/\IRow ((w.alloc (.cells cs 38)).alloc (.cells ds 38)) ca' ct'))
 (HNE:Hid (nm.length=nm'.length->nm=nm')) (HIE:Hid (ct.length=ct'.length->ct=ct')) (hn:nm.length<=9223372036854775807) (hi:ct.length<=9223372036854775807)
 (HR:Hid (∀x,Below w.heap.size w x->Calls Tryz.prog 28 #[.slice ba N bc,.slice ba' N' bc'] x fun e w'=>e=.returned (.bool R)/\∃n,w'=x.drewN n))
 (HS:Hid (S↔(k=k'/\i=i'/\d=d'/\n12=m12/\n15=m15/\n16=m16/\nm=nm'/\ct=ct'/\R=true))) :
 Calls Tryz.prog 11 #[.agg cs,.agg ds] w (SameP S w):=by
 have c:∀j,((w.alloc (.cells cs 38)).alloc (.cells ds 38)).cell? ⟨w.heap.size,j,none⟩=cs[j]?:=fun j=>(aB HB.out.a j).1
 have dd:∀j,((w.alloc (.cells cs 38)).alloc (.cells ds 38)).cell? ⟨w.heap.size+1,j,none⟩=ds[j]?:=fun j=>(aB HB.out.b j).1
 have c0:=c 0
 have c1:=c 1
 have c2:=c 2
 have c3:=c 3
 have c4:=c 4
 have c5:=c 5
 have c6:=c 6
 have c7:=c 7
 have c8:=c 8
 have d0:=dd 0
 have d1:=dd 1
 have d2:=dd 2
 have d3:=dd 3
 have d4:=dd 4
 have d5:=dd 5
 have d6:=dd 6
 have d7:=dd 7
 have d8:=dd 8
 have c9:w.heap.size < ((w.alloc (.cells cs 38)).alloc (.cells ds 38)).heap.size:=(Array.getElem?_eq_some_iff.1 HB.out.a).1
 have d9:w.heap.size+1 < ((w.alloc (.cells cs 38)).alloc (.cells ds 38)).heap.size:=(Array.getElem?_eq_some_iff.1 HB.out.b).1
 clear c dd
 have e0:cs[0]? = some (.int .i64 k)/\cs[1]? = some (.int .i64 i)/\cs[2]? = some (.int .i64 d)/\cs[3]? = some (.int .i64 n12)/\cs[4]? = some (.int .i64 n15)/\cs[5]? = some (.int .i64 n16)/\cs[6]? = some (.slice na nm.length nc)/\cs[7]? = some (.slice ca ct.length cc)/\cs[8]? = some (.slice ba N bc):=by rw[HC.out];exact⟨rfl,rfl,rfl,rfl,rfl,rfl,rfl,rfl,rfl⟩
 have f0:ds[0]? = some (.int .i64 k')/\ds[1]? = some (.int .i64 i')/\ds[2]? = some (.int .i64 d')/\ds[3]? = some (.int .i64 m12)/\ds[4]? = some (.int .i64 m15)/\ds[5]? = some (.int .i64 m16)/\ds[6]? = some (.slice na' nm'.length nc')/\ds[7]? = some (.slice ca' ct'.length cc')/\ds[8]? = some (.slice ba' N' bc'):=by rw[HD.out];exact⟨rfl,rfl,rfl,rfl,rfl,rfl,rfl,rfl,rfl⟩
 obtain⟨g0,g1,g2,g3,g4,g5,g6,g7,g8⟩:=e0
 rw[g0] at c0;rw[g1] at c1;rw[g2] at c2;rw[g3] at c3;rw[g4] at c4;rw[g5] at c5;rw[g6] at c6;rw[g7] at c7;rw[g8] at c8
 clear g0 g1 g2 g3 g4 g5 g6 g7 g8
 obtain⟨g0,g1,g2,g3,g4,g5,g6,g7,g8⟩:=f0
 rw[g0] at d0;rw[g1] at d1;rw[g2] at d2;rw[g3] at d3;rw[g4] at d4;rw[g5] at d5;rw[g6] at d6;rw[g7] at d7;rw[g8] at d8
 clear g0 g1 g2 g3 g4 g5 g6 g7 g8 HC HD
 have HBB:Hid (Below w.heap.size w ((w.alloc (.cells cs 38)).alloc (.cells ds 38))):=HB.out.bel
 clear HB
 go_enter Tryz.func11,Tryz.ntmps11
 simp only[List.append]
 go_wp2_with (go_at_call 28;refine(HR.out _ HBB.out).mono ?_;rintro e w1 ⟨rfl,nn,rfl⟩)
 all_goals(try(go_ret;exact SameP.no (fun q=>by
  obtain⟨q0,q1,q2,q3,q4,q5,q6,q7,q8⟩:=HS.out.1 q
  first
  | contradiction
  | exact absurd (congrArg (fun l:List ByteArray=>(l.length:Int)) q6) (by assumption)
  | exact absurd (congrArg (fun l:List Int=>(l.length:Int)) q7) (by assumption)
  | (
   have hz:(!R)=true:=by assumption
   rw[q8] at hz;cases hz)) (by first | exact HBB.out | exact below_drewN HBB.out _)))
 have hn1:(nm.length:Int)=(nm'.length:Int):=by assumption
 have hc1:(ct.length:Int)=(ct'.length:Int):=by assumption
 have hR1:(!R)=false:=by assumption
 have hen:nm=nm':=HNE.out (by omega)
 have hec:ct=ct':=HIE.out (by omega)
 have HST:Hid S:=HS.out.2 ⟨by assumption,by assumption,by assumption,by assumption,by assumption,by assumption,hen,hec,by simpa using hR1⟩
 have hRt:R=true:=by simpa using hR1
 clear hn1 hc1 hR1 HNE HIE HS c0 c1 c2 c3 c4 c5 c8 d0 d1 d2 d3 d4 d5 d8
 have s1:k=k':=by assumption
 have s2:i=i':=by assumption
 have s3:d=d':=by assumption
 have s4:n12=m12:=by assumption
 have s5:n15=m15:=by assumption
 have s6:n16=m16:=by assumption
 subst s1 s2 s3 s4 s5 s6
 subst hen hec hRt
 simp only[Bool.not_true]
 generalize ((w.alloc (.cells cs 38)).alloc (.cells ds 38))=y at *
 go_loopw [5] (fun iv wr=>∃kk n:Nat,kk<=nm.length/\iv=.int .i64 kk/\wr=y.drewN n) (fun iv _=>nm.length - (iof iv).toNat)
 case atStart=>exact⟨0,_,by omega,rfl,rfl⟩
 case round=>
  obtain⟨kk,n,hk,rfl,rfl⟩:=hrel
  by_cases hlt:kk < nm.length
  ·have hltI:(kk:Int) < (nm.length:Int):=by omega
   obtain⟨b1,o1,rfl,y0⟩:=HN.out.1 kk hlt
   obtain⟨b2,o2,rfl,z0⟩:=HN.out.2 kk hlt
   clear HN
   generalize nm.getD kk ⟨#[]⟩=r at *
   go_wp2
   go_quiet (fail)
   go_wp2
   exact⟨⟨kk+1,n+nq,by omega,by go_num,rfl⟩,by simp[iof];omega⟩
  ·go_wp2
   go_loopw [6] (fun iv wr=>∃kk n:Nat,kk<=ct.length/\iv=.int .i64 kk/\wr=y.drewN n) (fun iv _=>ct.length - (iof iv).toNat)
   case atStart=>exact⟨0,_,by omega,rfl,rfl⟩
   case round=>
    obtain⟨kk,n,hk,rfl,rfl⟩:=hrel
    by_cases hlt:kk < ct.length
    ·have hltI:(kk:Int) < (ct.length:Int):=by omega
     obtain⟨b1,o1,rfl,y0⟩:=HI.out.1 kk hlt
     obtain⟨b2,o2,rfl,z0⟩:=HI.out.2 kk hlt
     clear HI
     generalize ct.getD kk 0=r at *
     go_wp2
     go_quiet (fail)
     go_wp2
     exact⟨⟨kk+1,n+nq,by omega,by go_num,rfl⟩,by simp[iof];omega⟩
    ·go_wp2
     go_ret
     exact SameP.yes HST.out (below_drewN HBB.out n)
theorem wE (k i d k' i' d':Int) (b b':Bd) (p p':Pt) (w:World) (hs:SRows w b p) (hs':SRows w b' p')
 (hn:(b 17).nm.length=(b' 17).nm.length->(b 17).nm=(b' 17).nm) (hc:(b 18).ct.length=(b' 18).ct.length->(b 18).ct=(b' 18).ct) (hb:(b 19).bs.length=(b' 19).bs.length->(b 19).bs=(b' 19).bs)
 (l1:(b 17).nm.length<=maxLen) (l2:(b 18).ct.length<=maxLen) (l3:(b 19).bs.length<=maxLen) :
 Calls Tryz.prog 11 #[.agg (rsc k i d b p),.agg (rsc k' i' d' b' p')] w (SameP (SS k i d b k' i' d' b') w):=by
 have HB:Hid (Bx2 w 38 (rsc k i d b p) (rsc k' i' d' b' p') ((w.alloc (.cells (rsc k i d b p) 38)).alloc (.cells (rsc k' i' d' b' p') 38))):=Bx2.new _ _ _ _
 have e1:p.bs.length=(b 19).bs.length:=by rw[<-hs.bb,List.length_map]
 have e2:p'.bs.length=(b' 19).bs.length:=by rw[<-hs'.bb,List.length_map]
 have q:=hs.below HB.out.bel
 have q':=hs'.below HB.out.bel
 refine zT k i d k' i' d' _ _ _ _ _ _ _ _ p.na p'.na p.ca p'.ca p.ba p'.ba p.nc p'.nc p.cc p'.cc p.bc p'.bc p.bs.length p'.bs.length (b 17).nm (b' 17).nm (b 18).ct (b' 18).ct (decide ((b 19).bs.length=(b' 19).bs.length)) _ w HB rfl rfl ⟨q.nm,q'.nm⟩ ⟨q.ct,q'.ct⟩ hn hc l1 l2 ?_ ?_
 ·intro x hx
  by_cases e:(b 19).bs.length=(b' 19).bs.length
  ·rw[decide_eq_true e]
   refine rZ _ _ _ _ _ _ x ⟨(hs.below hx).bs.1,(hs.below hx).bs.2⟩ ⟨(hs'.below hx).bs.1,(hs'.below hx).bs.2⟩ ?_ (by omega)
   rw[hs.bb,hs'.bb];exact hb e
  ·rw[decide_eq_false e]
   refine tG _ _ _ _ _ _ x ?_
   rw[e1,e2,bne_iff_ne]
   omega
 ·show SS k i d b k' i' d' b'↔_
  unfold SS
  rw[decide_eq_true_eq]
  constructor
  ·rintro⟨h1,h2,h3,h4,h5,h6,h7,h8,h9⟩;exact⟨h1,h2,h3,h4,h5,h6,h7,h8,by rw[h9]⟩
  ·rintro⟨h1,h2,h3,h4,h5,h6,h7,h8,h9⟩;exact⟨h1,h2,h3,h4,h5,h6,h7,h8,hb h9⟩
theorem aCw {l:List Nat} {k i:Int} {b:Bd} (hl:Byt l) (h:reqP l=some (k,i,b)):(b 11).rs.length<=maxLen:=by
 obtain⟨h1,h2⟩:=vN hl h
 have:=(aC8 h1 h2).1.r
 unfold maxLen
 omega
theorem aCb {l:List Nat} {k i d:Int} {b:Bd} (hl:Byt l) (h:resP l=some (k,i,d,b)):(b 17).nm.length<=maxLen/\(b 18).ct.length<=maxLen/\(b 19).bs.length<=maxLen:=by
 obtain⟨h1,h2⟩:=wF hl h
 have q:=(aD6 h1 h2).1
 have:=q.n
 have:=q.c
 have:=q.s
 unfold maxLen
 omega
theorem aFi (l:List Nat) (a:Option Addr) (cap:Nat) (hl:l.length<=cap) (hc:cap<=maxLen) (hn:a=none->cap=0) (hbig:l.length<=30000) (hby:Byt l):∃(K I:Int) (B:Bd) (EC:Int),(B 11).rs.length<=maxLen/\
 (∀y,Tab y->Row y a l->Calls Tryz.prog 6 #[.slice a l.length cap] y fun e w'=>(∃cs,e=.returned (.tuple #[.agg cs,.int .i64 EC])/\QVal w' cs K I B)/\Below y.heap.size y w')/\
 (∀y,Tab y->Row y a l->Calls Tryz.prog 7 #[.slice a l.length cap] y fun e w'=>(∃cs,e=.returned (.tuple #[.agg cs,.int .i64 EC])/\QVal w' cs K I B)/\Below y.heap.size y w'):=by
 cases h:reqP l with
 | none=>
  refine⟨0,0,bdz,13,by simp[bdz,fz],fun y ht hr=>?_,fun y ht hr=>?_⟩
  ·refine Calls.mono (wD y a cap l ht ⟨hr,hl,hc,hn,by omega⟩ h) ?_
   rintro e w' ⟨rfl,hb⟩
   exact⟨⟨z26,rfl,none,0,rfl,fun j hj=>by cases hj⟩,hb⟩
  ·refine Calls.mono (oF y a cap l ht hr hl hc hn hbig) ?_
   rintro e w' ⟨h1,_,hb⟩
   exact⟨⟨z26,h1 h,none,0,rfl,fun j hj=>by cases hj⟩,hb⟩
 | some t=>
  obtain⟨k,i,b⟩:=t
  refine⟨k,i,b,0,aCw hby h,fun y ht hr=>?_,fun y ht hr=>?_⟩
  ·exact sO y a cap l ht ⟨hr,hl,hc,hn,by omega⟩ h
  ·refine Calls.mono (oF y a cap l ht hr hl hc hn hbig) ?_
   rintro e w' ⟨_,h2,hb⟩
   exact⟨h2 k i b h,hb⟩
theorem aF0 (l:List Nat) (a:Option Addr) (cap:Nat) (hl:l.length<=cap) (hc:cap<=maxLen) (hn:a=none->cap=0) (hbig:l.length<=30000) (hby:Byt l):∃(K I D:Int) (B:Bd) (EC:Int),((B 17).nm.length<=maxLen/\(B 18).ct.length<=maxLen/\(B 19).bs.length<=maxLen)/\
 (∀y,Tab y->Row y a l->Calls Tryz.prog 8 #[.slice a l.length cap] y fun e w'=>(∃cs,e=.returned (.tuple #[.agg cs,.int .i64 EC])/\SVal w' cs K I D B)/\Below y.heap.size y w')/\
 (∀y,Tab y->Row y a l->Calls Tryz.prog 9 #[.slice a l.length cap] y fun e w'=>(∃cs,e=.returned (.tuple #[.agg cs,.int .i64 EC])/\SVal w' cs K I D B)/\Below y.heap.size y w'):=by
 have zs:∀w:World,SVal w z40 0 0 0 bdz:=fun w=>⟨ptz,rfl,⟨rfl,rfl⟩,fun j hj=>(by cases hj),fun j hj=>(by cases hj),⟨fun j hj=>(by cases hj),fun j hj=>(by cases hj)⟩,rfl⟩
 cases h:resP l with
 | none=>
  refine⟨0,0,0,bdz,13,⟨by simp[bdz,fz],by simp[bdz,fz],by simp[bdz,fz]⟩,fun y ht hr=>?_,fun y ht hr=>?_⟩
  ·refine Calls.mono (vO y a cap l ht ⟨hr,hl,hc,hn,by omega⟩ h) ?_
   rintro e w' ⟨rfl,hb⟩
   exact⟨⟨z40,rfl,zs w'⟩,hb⟩
  ·refine Calls.mono (oC y a cap l ht hr hl hc hn hbig) ?_
   rintro e w' ⟨h1,_,hb⟩
   exact⟨⟨z40,h1 h,zs w'⟩,hb⟩
 | some t=>
  obtain⟨k,i,d,b⟩:=t
  refine⟨k,i,d,b,0,aCb hby h,fun y ht hr=>?_,fun y ht hr=>?_⟩
  ·exact sL y a cap l ht ⟨hr,hl,hc,hn,by omega⟩ h
  ·refine Calls.mono (oC y a cap l ht hr hl hc hn hbig) ?_
   rintro e w' ⟨_,h2,hb⟩
   exact⟨h2 k i d b h,hb⟩
theorem sJ (a0:Option Addr) (cap0:Nat) (l0:List Nat) (w:World) (ht:Tab w) (hbig:¬l0.length<=30000) (hm:l0.length<=maxLen):Calls Tryz.prog 3 #[.slice a0 l0.length cap0] w fun e w'=>e=.returned (.bool true)/\Below w.heap.size w w':=by
 have HA:Hid (∀x,Tab x->Calls Tryz.prog 5 #[] x fun e w'=>e=.returned (.bool true)/\Below x.heap.size x w'):=fun x h=>oE x h
 have hbI:(l0.length:Int) > 30000:=by omega
 go_enter Tryz.func3,Tryz.ntmps3
 go_wp2_with (go_at_call 5;refine(HA.out _ ht).mono ?_;rintro e w3 ⟨rfl,hb3⟩)
 go_ret
 exact⟨rfl,hb3⟩
theorem sU (a0:Option Addr) (cap0:Nat) (l0:List Nat) (w:World) (ht:Tab w) (w0:Row w a0 l0) (hl:l0.length<=cap0) (hc:cap0<=maxLen) (hn:a0=none->cap0=0) (hbig:l0.length<=30000):Calls Tryz.prog 3 #[.slice a0 l0.length cap0] w fun e w'=>e=.returned (.bool true)/\Below w.heap.size w w':=by
 have hby:Byt l0:=bF (fun i=>w0.lt i)
 obtain⟨K,I,B,EC,hBl,hp6,hp7⟩:=aFi l0 a0 cap0 hl hc hn hbig hby
 obtain⟨K',I',D',B',EC',hBl',hp8,hp9⟩:=aF0 l0 a0 cap0 hl hc hn hbig hby
 have HA:Hid (∀x,Tab x->Calls Tryz.prog 5 #[] x fun e w'=>e=.returned (.bool true)/\Below x.heap.size x w'):=fun x h=>oE x h
 have HT:Hid (Tab w):=ht
 have HC1:Hid (∀y,Below w.heap.size w y->Calls Tryz.prog 6 #[.slice a0 l0.length cap0] y fun e w'=>(∃cs,e=.returned (.tuple #[.agg cs,.int .i64 EC])/\QVal w' cs K I B)/\Below y.heap.size y w'):=fun y hy=>hp6 y (ht.below hy) (w0.below hy)
 have HC2:Hid (∀y,Below w.heap.size w y->Calls Tryz.prog 7 #[.slice a0 l0.length cap0] y fun e w'=>(∃cs,e=.returned (.tuple #[.agg cs,.int .i64 EC])/\QVal w' cs K I B)/\Below y.heap.size y w'):=fun y hy=>hp7 y (ht.below hy) (w0.below hy)
 have HC3:Hid (∀y,Below w.heap.size w y->Calls Tryz.prog 8 #[.slice a0 l0.length cap0] y fun e w'=>(∃cs,e=.returned (.tuple #[.agg cs,.int .i64 EC'])/\SVal w' cs K' I' D' B')/\Below y.heap.size y w'):=fun y hy=>hp8 y (ht.below hy) (w0.below hy)
 have HC4:Hid (∀y,Below w.heap.size w y->Calls Tryz.prog 9 #[.slice a0 l0.length cap0] y fun e w'=>(∃cs,e=.returned (.tuple #[.agg cs,.int .i64 EC'])/\SVal w' cs K' I' D' B')/\Below y.heap.size y w'):=fun y hy=>hp9 y (ht.below hy) (w0.below hy)
 have HQS:Hid (∀x c1 c2,QVal x c1 K I B->QVal x c2 K I B->Calls Tryz.prog 10 #[.agg c1,.agg c2] x fun e w'=>e=.returned (.bool true)/\Below x.heap.size x w'):=fun x c1 c2 h1 h2=>by
  obtain⟨ra,rc,rfl,hr⟩:=h1
  obtain⟨ra',rc',rfl,hr'⟩:=h2
  refine Calls.mono (xA K I K I B B _ _ ra ra' rc rc' x hr hr' hBl) ?_
  rintro e w' ⟨⟨r,rfl,hr⟩,hb⟩
  rw[hr.2 ⟨rfl,rfl,rfl,rfl,rfl,rfl,rfl,rfl,rfl,rfl,rfl,rfl,rfl,rfl,rfl,rfl,rfl⟩]
  exact⟨rfl,hb⟩
 have HSS:Hid (∀x c1 c2,SVal x c1 K' I' D' B'->SVal x c2 K' I' D' B'->Calls Tryz.prog 11 #[.agg c1,.agg c2] x fun e w'=>e=.returned (.bool true)/\Below x.heap.size x w'):=fun x c1 c2 h1 h2=>by
  obtain⟨p,rfl,hr⟩:=h1
  obtain⟨p',rfl,hr'⟩:=h2
  refine Calls.mono (wE K' I' D' K' I' D' B' B' p p' x hr hr' (fun _=>rfl) (fun _=>rfl) (fun _=>rfl) hBl'.1 hBl'.2.1 hBl'.2.2) ?_
  rintro e w' ⟨⟨r,rfl,hr⟩,hb⟩
  rw[hr.2 ⟨rfl,rfl,rfl,rfl,rfl,rfl,rfl,rfl,rfl⟩]
  exact⟨rfl,hb⟩
 have KA28:Hid (∀x:World,(Instr.alloc 28 true (.tuple #[])).run Tryz.prog x=.ok (.pointer (some ⟨x.heap.size,0,none⟩)) (x.alloc (.cells z26 28))):=eY
 have KA38:Hid (∀x:World,(Instr.alloc 38 true (.tuple #[])).run Tryz.prog x=.ok (.pointer (some ⟨x.heap.size,0,none⟩)) (x.alloc (.cells z40 38))):=cP
 have HZ28:Hid (z26.size=17):=rfl
 have HZ38:Hid (z40.size=9):=rfl
 have HLw:Hid (Below w.heap.size w w):=Below.refl _ _
 have hbI:¬(l0.length:Int) > 30000:=by omega
 clear hp6 hp7 hp8 hp9 hBl hBl' ht w0 hl hc hn hby
 generalize z26=ZQ at *
 generalize z40=ZR at *
 have t1:=trivial
 go_enter Tryz.func3,Tryz.ntmps3
 go_wp2_with (first
  | (have _t:=t1;go_at_call 6;refine(HC1.out _ HLw.out).mono ?_;rintro e w1 ⟨⟨c1,rfl,hv9⟩,hb9⟩;have HLw1:Hid (Below w.heap.size w w1):=HLw.out.trans (hb9.mono HLw.out.size);have HV1w1:Hid (QVal w1 c1 K I B):=hv9;have Hc1:Hid (c1.size=17/\c1.all (·.oneCell')=true):=⟨hv9.size,hv9.one⟩;clear hv9 hb9 _t t1;have t2:=trivial)
  | (have _t:=t2;refine aM KA28.out rfl rfl w1.heap.size (by rfl) ?_;clear _t t2;have t3:=trivial;simp only[Act.put,sP])
  | (have _h:=t3;refine wpList_store_row rfl 28 _ _ rfl w1.heap.size c1 rfl rfl 28 ZQ (by exact heap_alloc_new w1 _) (by rw[Hc1.out.1];exact Tryz.info28) (by rw[Hc1.out.1];exact HZ28.out) Hc1.out.2 ?_;obtain⟨hx9,hb9⟩:=bI w1 ZQ c1 28;generalize World.setRow _ w1.heap.size c1=w2 at *;have HX1w2:Hid (w2.heap[w1.heap.size]? = some (.cells c1 28 (0,0))):=hx9;have HLw2:Hid (Below w.heap.size w w2):=HLw1.out.trans (hb9.mono HLw1.out.size);have HV1w2:Hid (QVal w2 c1 K I B):=QVal.below HV1w1.out hb9;have t4:=trivial;clear hx9 hb9 _h t3)
  | (have _t:=t4;go_at_call 7;refine(HC2.out _ HLw2.out).mono ?_;rintro e w3 ⟨⟨c2,rfl,hv9⟩,hb9⟩;have HLw3:Hid (Below w.heap.size w w3):=HLw2.out.trans (hb9.mono HLw2.out.size);have HX1w3:Hid (w3.heap[w1.heap.size]? = some (.cells c1 28 (0,0))):=bT HX1w2.out hb9;have HV1w3:Hid (QVal w3 c1 K I B):=QVal.below HV1w2.out hb9;have HV2w3:Hid (QVal w3 c2 K I B):=hv9;have Hc2:Hid (c2.size=17/\c2.all (·.oneCell')=true):=⟨hv9.size,hv9.one⟩;clear hv9 hb9 _t t4;have t5:=trivial)
  | (have _t:=t5;refine aM KA28.out rfl rfl w3.heap.size (by rfl) ?_;clear _t t5;have t6:=trivial;simp only[Act.put,sP])
  | (have _h:=t6;refine wpList_store_row rfl 28 _ _ rfl w3.heap.size c2 rfl rfl 28 ZQ (by exact heap_alloc_new w3 _) (by rw[Hc2.out.1];exact Tryz.info28) (by rw[Hc2.out.1];exact HZ28.out) Hc2.out.2 ?_;obtain⟨hx9,hb9⟩:=bI w3 ZQ c2 28;generalize World.setRow _ w3.heap.size c2=w4 at *;have HX2w4:Hid (w4.heap[w3.heap.size]? = some (.cells c2 28 (0,0))):=hx9;have HLw4:Hid (Below w.heap.size w w4):=HLw3.out.trans (hb9.mono HLw3.out.size);have HX1w4:Hid (w4.heap[w1.heap.size]? = some (.cells c1 28 (0,0))):=bT HX1w3.out hb9;have HV1w4:Hid (QVal w4 c1 K I B):=QVal.below HV1w3.out hb9;have HV2w4:Hid (QVal w4 c2 K I B):=QVal.below HV2w3.out hb9;have t7:=trivial;clear hx9 hb9 _h t6)
  | (have _t:=t7;go_at_call 8;refine(HC3.out _ HLw4.out).mono ?_;rintro e w5 ⟨⟨c3,rfl,hv9⟩,hb9⟩;have HLw5:Hid (Below w.heap.size w w5):=HLw4.out.trans (hb9.mono HLw4.out.size);have HX1w5:Hid (w5.heap[w1.heap.size]? = some (.cells c1 28 (0,0))):=bT HX1w4.out hb9;have HX2w5:Hid (w5.heap[w3.heap.size]? = some (.cells c2 28 (0,0))):=bT HX2w4.out hb9;have HV1w5:Hid (QVal w5 c1 K I B):=QVal.below HV1w4.out hb9;have HV2w5:Hid (QVal w5 c2 K I B):=QVal.below HV2w4.out hb9;have HV3w5:Hid (SVal w5 c3 K' I' D' B'):=hv9;have Hc3:Hid (c3.size=9/\c3.all (·.oneCell')=true):=⟨hv9.size,hv9.one⟩;clear hv9 hb9 _t t7;have t8:=trivial)
  | (have _t:=t8;refine aM KA38.out rfl rfl w5.heap.size (by rfl) ?_;clear _t t8;have t9:=trivial;simp only[Act.put,sP])
  | (have _h:=t9;refine wpList_store_row rfl 38 _ _ rfl w5.heap.size c3 rfl rfl 38 ZR (by exact heap_alloc_new w5 _) (by rw[Hc3.out.1];exact Tryz.info38) (by rw[Hc3.out.1];exact HZ38.out) Hc3.out.2 ?_;obtain⟨hx9,hb9⟩:=bI w5 ZR c3 38;generalize World.setRow _ w5.heap.size c3=w6 at *;have HX3w6:Hid (w6.heap[w5.heap.size]? = some (.cells c3 38 (0,0))):=hx9;have HLw6:Hid (Below w.heap.size w w6):=HLw5.out.trans (hb9.mono HLw5.out.size);have HX1w6:Hid (w6.heap[w1.heap.size]? = some (.cells c1 28 (0,0))):=bT HX1w5.out hb9;have HX2w6:Hid (w6.heap[w3.heap.size]? = some (.cells c2 28 (0,0))):=bT HX2w5.out hb9;have HV1w6:Hid (QVal w6 c1 K I B):=QVal.below HV1w5.out hb9;have HV2w6:Hid (QVal w6 c2 K I B):=QVal.below HV2w5.out hb9;have HV3w6:Hid (SVal w6 c3 K' I' D' B'):=SVal.below HV3w5.out hb9;have ta:=trivial;clear hx9 hb9 _h t9)
  | (have _t:=ta;go_at_call 9;refine(HC4.out _ HLw6.out).mono ?_;rintro e w7 ⟨⟨c4,rfl,hv9⟩,hb9⟩;have HLw7:Hid (Below w.heap.size w w7):=HLw6.out.trans (hb9.mono HLw6.out.size);have HX1w7:Hid (w7.heap[w1.heap.size]? = some (.cells c1 28 (0,0))):=bT HX1w6.out hb9;have HX2w7:Hid (w7.heap[w3.heap.size]? = some (.cells c2 28 (0,0))):=bT HX2w6.out hb9;have HX3w7:Hid (w7.heap[w5.heap.size]? = some (.cells c3 38 (0,0))):=bT HX3w6.out hb9;have HV1w7:Hid (QVal w7 c1 K I B):=QVal.below HV1w6.out hb9;have HV2w7:Hid (QVal w7 c2 K I B):=QVal.below HV2w6.out hb9;have HV3w7:Hid (SVal w7 c3 K' I' D' B'):=SVal.below HV3w6.out hb9;have HV4w7:Hid (SVal w7 c4 K' I' D' B'):=hv9;have Hc4:Hid (c4.size=9/\c4.all (·.oneCell')=true):=⟨hv9.size,hv9.one⟩;clear hv9 hb9 _t ta;have tb:=trivial)
  | (have _t:=tb;refine aM KA38.out rfl rfl w7.heap.size (by rfl) ?_;clear _t tb;have tc:=trivial;simp only[Act.put,sP])
  | (have _h:=tc;refine wpList_store_row rfl 38 _ _ rfl w7.heap.size c4 rfl rfl 38 ZR (by exact heap_alloc_new w7 _) (by rw[Hc4.out.1];exact Tryz.info38) (by rw[Hc4.out.1];exact HZ38.out) Hc4.out.2 ?_;obtain⟨hx9,hb9⟩:=bI w7 ZR c4 38;generalize World.setRow _ w7.heap.size c4=w8 at *;have HX4w8:Hid (w8.heap[w7.heap.size]? = some (.cells c4 38 (0,0))):=hx9;have HLw8:Hid (Below w.heap.size w w8):=HLw7.out.trans (hb9.mono HLw7.out.size);have HX1w8:Hid (w8.heap[w1.heap.size]? = some (.cells c1 28 (0,0))):=bT HX1w7.out hb9;have HX2w8:Hid (w8.heap[w3.heap.size]? = some (.cells c2 28 (0,0))):=bT HX2w7.out hb9;have HX3w8:Hid (w8.heap[w5.heap.size]? = some (.cells c3 38 (0,0))):=bT HX3w7.out hb9;have HV1w8:Hid (QVal w8 c1 K I B):=QVal.below HV1w7.out hb9;have HV2w8:Hid (QVal w8 c2 K I B):=QVal.below HV2w7.out hb9;have HV3w8:Hid (SVal w8 c3 K' I' D' B'):=SVal.below HV3w7.out hb9;have HV4w8:Hid (SVal w8 c4 K' I' D' B'):=SVal.below HV4w7.out hb9;have td:=trivial;clear hx9 hb9 _h tc)
  | (have _t:=td;refine wpList_load_row rfl 28 _ rfl w1.heap.size rfl 28 c1 (0,0) _ (by exact HX1w8.out) Tryz.underlying28 rfl (by rw[Hc1.out.1];exact Tryz.info28) ?_;clear _t td;have te:=trivial;simp only[Act.put,sP])
  | (have _t:=te;refine wpList_load_row rfl 28 _ rfl w3.heap.size rfl 28 c2 (0,0) _ (by exact HX2w8.out) Tryz.underlying28 rfl (by rw[Hc2.out.1];exact Tryz.info28) ?_;clear _t te;simp only[Act.put,sP])
  | (go_at_call 10;refine(HQS.out _ _ _ HV1w8.out HV2w8.out).mono ?_;rintro e w9 ⟨rfl,hb9⟩;have HLw9:Hid (Below w.heap.size w w9):=HLw8.out.trans (hb9.mono HLw8.out.size);have HX1w9:Hid (w9.heap[w1.heap.size]? = some (.cells c1 28 (0,0))):=bT HX1w8.out hb9;have HX2w9:Hid (w9.heap[w3.heap.size]? = some (.cells c2 28 (0,0))):=bT HX2w8.out hb9;have HX3w9:Hid (w9.heap[w5.heap.size]? = some (.cells c3 38 (0,0))):=bT HX3w8.out hb9;have HX4w9:Hid (w9.heap[w7.heap.size]? = some (.cells c4 38 (0,0))):=bT HX4w8.out hb9;have HV1w9:Hid (QVal w9 c1 K I B):=QVal.below HV1w8.out hb9;have HV2w9:Hid (QVal w9 c2 K I B):=QVal.below HV2w8.out hb9;have HV3w9:Hid (SVal w9 c3 K' I' D' B'):=SVal.below HV3w8.out hb9;have HV4w9:Hid (SVal w9 c4 K' I' D' B'):=SVal.below HV4w8.out hb9;clear hb9;have tf:=trivial)
  | (have _t:=tf;refine jI (by rfl) 38 _ rfl w5.heap.size rfl 38 c3 (0,0) _ (by exact HX3w9.out) Tryz.underlying38 rfl (by rw[Hc3.out.1];exact Tryz.info38) ?_;clear _t tf;have tg:=trivial;simp only[Act.put,sP])
  | (have _t:=tg;refine jI (by rfl) 38 _ rfl w7.heap.size rfl 38 c4 (0,0) _ (by exact HX4w9.out) Tryz.underlying38 rfl (by rw[Hc4.out.1];exact Tryz.info38) ?_;clear _t tg;simp only[Act.put,sP])
  | (go_at_call 11;refine(HSS.out _ _ _ HV3w9.out HV4w9.out).mono ?_;rintro e wa ⟨rfl,hb9⟩;have HLwa:Hid (Below w.heap.size w wa):=HLw9.out.trans (hb9.mono HLw9.out.size);clear hb9)
  | (go_at_call 5;refine(HA.out _ (HT.out.below HLwa.out)).mono ?_;rintro e wb ⟨rfl,hb9⟩;have HLwb:Hid (Below w.heap.size w wb):=HLwa.out.trans (hb9.mono HLwa.out.size);clear hb9))
 go_ret
 exact⟨rfl,HLwb.out⟩
theorem kX (a0:Option Addr) (cap0:Nat) (l0:List Nat) (w:World) (ht:Tab w) (w0:Row w a0 l0) (m0:l0.length<=maxLen) (c0:l0.length<=cap0) (n0:a0=none->cap0=0) (x0:cap0<=maxLen):Calls Tryz.prog 3 #[.slice a0 l0.length cap0] w fun e w'=>e=.returned (.bool true)/\Below w.heap.size w w':=by
 by_cases h:l0.length<=30000
 ·exact sU a0 cap0 l0 w ht w0 c0 x0 n0 h
 ·exact sJ a0 cap0 l0 w ht h m0
end Go.Proofs.YtaooidckmepdeaaGreatDoor
