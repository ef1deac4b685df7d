/- Yh Yi Qb Pw Yo -/
import Derived.Test.YtaooidckmepdeaaGreatDoorSkk
namespace Go.Proofs.YtaooidckmepdeaaGreatDoor
set_option linter.unusedSimpArgs false
set_option linter.unusedVariables false
set_option maxRecDepth 100000
set_option maxHeartbeats 6400000
open Go.RowKit
theorem jC {w:World} {o:Oper} {a:Act} {K:Act->World->Prop} {Q:Exit->Act->World->Prop} (s x:Operand) (t e:TypeId)
 (ho:o.op=.call {callee:=.builtin .append,args:=#[s,x],argTypes:=#[t,t]}) (z:Value) (size bytes:Nat) (ht:Tryz.prog.underlying t=some (.slice e)) (hi:(Tryz.prog.info? e).map (fun i=>(i.zero,i.size,i.bytes))=some (some z,size,bytes))
 (hzs:z.cells.size=size) (hpos:0 < size) (hby:bytes<=100) (B:Nat) (v:Value) (n:Nat) (xs:List Value) (hs:a.eval s=v) (hown:w.ownsRow B e size v n xs) (hBs:B<=w.heap.size)
 (g:Nat) (news:List Value) (hx:a.eval x=.slice (some ⟨g,0,none⟩) 1 1) (hl:news.length=size) (hg:w.heap[g]? = some (.cells news.toArray e (0,0))) (hone:∀u ∈ news,u.oneCell'=true) (hn:n<=1000000)
 (h:∀v' w',w'.ownsRow B e size v' (n+1) (xs++news)->w.grownBy w' v.ownBlock->(v'.ownBlock=v.ownBlock∨∀x,v'.ownBlock=some x->w.heap.size<=x)->K (a.put o.dst v') w'):o.wp Tryz.prog a w K Q:=by
 obtain⟨i0,hi,hz0,hz1,hz2⟩:=info_parts hi
 have hnews:∀j u,news[j]? = some u->w.cell? ((⟨g,0,none⟩:Addr).add j)=some u:=by
  intro j u hj
  rw[Addr.add_lit,cell_of_row _ g (0+j) news.toArray e (0,0) hg]
  simpa using hj
 have hb2:(n+1) * bytes<=140737488355328:=by
  have:(n+1) * bytes<=1000001 * 100:=Nat.mul_le_mul (by omega) hby
  omega
 obtain⟨v',w',hr1,h2,h3,h4⟩:=run_append_own (P:=Tryz.prog) w B t o.type e i0 z size bytes ht hi hz0 hz1 hz2 hzs hpos v n xs hown ⟨g,0,none⟩ 1 1 news (by omega) hnews hone (by unfold maxLen;omega) hb2 hBs
 have h5:v'.ownBlock=v.ownBlock∨∀x,v'.ownBlock=some x->w.heap.size<=x:=by
  rcases hown.2 with⟨rfl,h0⟩ | ⟨gg,cp,cur,rfl,_,hgg,hle,hm,_,_⟩
  ·have hx0:xs=[]:=List.eq_nil_of_length_eq_zero (by rw[hown.1,h0,Nat.zero_mul])
   subst hx0
   subst h0
   obtain⟨v2,w2,hr2,h22,_,_⟩:=run_append_own (P:=Tryz.prog) w w.heap.size t o.type e i0 z size bytes ht hi hz0 hz1 hz2 hzs hpos (.slice none 0 0) 0 [] (World.ownsRow_nil _ _ _ _) ⟨g,0,none⟩ 1 1 news (by omega) hnews hone (by unfold maxLen;omega) hb2 (Nat.le_refl _)
   rw[hr2] at hr1
   injection hr1 with e1 e2
   subst e1
   exact .inr (fun x hx=>(h22.lt x hx).1)
  ·by_cases hroom:n+1<=cp
   ·obtain⟨w2,hr2,_,_⟩:=run_append_fits (P:=Tryz.prog) w B t o.type e i0 size ht hi hz1 gg n cp xs hown ⟨g,0,none⟩ 1 1 news (by omega) hnews hone hroom
    rw[hr2] at hr1
    injection hr1 with e1 e2
    subst e1
    exact .inl rfl
   ·have holds:∀j u,xs[j]? = some u->w.cell? ((⟨gg,0,none⟩:Addr).add j)=some u:=hown.cells (g:=gg) rfl
    have hr2:=run_append_grow (P:=Tryz.prog) w t o.type e i0 z ht hi hz0 ⟨gg,0,none⟩ n cp xs (by rw[hz1];exact hown.1) holds ⟨g,0,none⟩ 1 1 news (by rw[hz1];omega) hnews (by omega) (by omega) (growslice_fits (by omega) (by rw[hz2];exact hb2))
    rw[hr2] at hr1
    injection hr1 with e1 e2
    subst e1
    exact .inr (fun x hx=>by simp[Value.ownBlock] at hx;omega)
 unfold Oper.wp execOp
 simp only[ho,resolve,invoke,builtin,Sem.run_bind,Sem.run_pure,Result.andThen_ok,List.map_toArray,List.map_cons,List.map_nil,hs,hx,hr1]
 exact h v' w' h2 h3 h5
def Mid (M:Nat) (w:World) (AA:List Bs):Prop:=∀s,s ∈ AA->∀g,s.a=some g->M<=g.block/\g.block < w.heap.size
theorem Mid.le {M:Nat} {w w':World} {AA:List Bs} (h:Mid M w AA) (hs:w.heap.size<=w'.heap.size):Mid M w' AA:=fun s h1 g h2=>⟨(h s h1 g h2).1,Nat.lt_of_lt_of_le (h s h1 g h2).2 hs⟩
theorem AllQ.keepM {M:Nat} {w w':World} {v:Value} {AA:List Bs} (h:AllQ w v AA) (m:Mid M w AA) (hk:∀b,M<=b->b < w.heap.size->w'.heap[b]? = w.heap[b]?):AllQ w' v AA:=fun s hs=>by
 obtain⟨h1,h2⟩:=h s hs
 exact⟨⟨bV h1.1 (fun i hi b off e=>hk b (m s hs _ e).1 (m s hs _ e).2),h1.2⟩,h2⟩
theorem EyR.moveN {w0 w:World} {a:Option Addr} {cap:Nat} {l:List Nat} {J:Nat} (h:EyR w0 a cap l w none) (hJ:J<=l.length):EyR w0 a cap l (w.setCell ⟨w0.heap.size,1,none⟩ (.int .i64 (J:Int))) none/\KeepB w0.heap.size w (w.setCell ⟨w0.heap.size,1,none⟩ (.int .i64 (J:Int))):=by
 obtain⟨I,hI,hx,r⟩:=h.box
 refine⟨⟨⟨J,hJ,?_,fun t e=>by cases e⟩,h.bel.setCell (p:=⟨w0.heap.size,1,none⟩) (Nat.le_refl _) _⟩,KeepB.setCell _ _ _ _⟩
 rw[aH hx]
 rfl
theorem aC6 {ls l2:List Nat} (h:okQ ls=true):gBat (some ls)=(bOf ls,some (ls.drop (lenN ls))):=by
 unfold gBat
 simp only
 rw[if_pos h]
theorem aCx {ls:List Nat} (h:¬okQ ls=true):(gBat (some ls)).2=none:=by
 unfold gBat
 simp only
 rw[if_neg h]
theorem aG1 {ls:List Nat} (h:okQ ls=true):lenN ls<=ls.length:=by
 unfold okQ at h
 simp only[Bool.and_eq_true,decide_eq_true_eq] at h
 exact h.2
theorem aBi (w0 w:World) (a:Option Addr) (cap:Nat) (l:List Nat) (st:Ls) (C:EyC w0 a cap l) (ht0:Tab w0) (X:Nat) (cs:Array Value) (hcs:cs.size=29) (hnil:st≠none->cs[26]? = some (.slice none 0 0)) (hX:w0.heap.size < X) (hx:w.heap[X]? = some (.cells cs 73 (0,0))) (h:EyR w0 a cap l w st) :
 Calls Tryz.prog 24 #[(.pointer (some ⟨w0.heap.size,0,none⟩)),.agg #[.int .i64 5,.int .i64 19],(.pointer (some ⟨X,0,none⟩))] w (fun e w'=>∃CS,FP w0 a cap l w X CS (gRow gBat st).2 e w'/\CS.size=29/\((gRow gBat st).2≠none->∃a' c' ss,CS=cs.setIfInBounds 26 (.slice a' (ss:List Bs).length c')/\BRow w' a' ss/\ss.map (·.b)=(gRow gBat st).1/\(∀g,a'=some g->w.heap.size<=g.block)/\(∀s,s ∈ ss->∀g,s.a=some g->w.heap.size<=g.block)/\(ss=[]->a'=none/\c'=0))):=by
 have HB:Hid ((w.alloc (.cells #[.int .i64 5,.int .i64 19] 78)).heap[w.heap.size]? = some (.cells #[.int .i64 5,.int .i64 19] 78 (0,0))):=heap_alloc_new w _
 have HBL:Hid (Below w.heap.size w (w.alloc (.cells #[.int .i64 5,.int .i64 19] 78))):=aA _
 have HE:Hid (EyR w0 a cap l (w.alloc (.cells #[.int .i64 5,.int .i64 19] 78)) st):=h.below HBL.out
 have hXw:X < w.heap.size:=(Array.getElem?_eq_some_iff.1 hx).1
 have HX:Hid ((w.alloc (.cells #[.int .i64 5,.int .i64 19] 78)).heap[X]? = some (.cells cs 73 (0,0))):=(HBL.out.block X hXw).trans hx
 have HZ:Hid (w0.heap.size < X/\X < w.heap.size/\w0.heap.size < w.heap.size):=⟨hX,hXw,h.lt⟩
 have b0:(w.alloc (.cells #[.int .i64 5,.int .i64 19] 78)).cell? ⟨w.heap.size,0,none⟩=some (.int .i64 5):=(aB HB.out 0).1
 have HCS:Hid (cs.size=29):=hcs
 obtain⟨v27,hv27⟩:∃v,cs[26]? = some v:=⟨_,Array.getElem?_eq_getElem (by omega)⟩
 have HV27:Hid (cs.setIfInBounds 26 v27=cs):=by
  show _=_
  apply Array.ext'
  rw[Array.toList_setIfInBounds]
  apply List.ext_getElem?
  intro j
  rw[List.getElem?_set]
  split
  ·rename_i e;subst e
   split
   ·rw[Array.getElem?_toList,hv27]
   ·rename_i q;exact absurd (show 26 < cs.toList.length by simp;omega) q
  ·rfl
 have HVN:Hid (st≠none->v27=.slice none 0 0):=fun q=>by have:=hnil q;rw[hv27] at this;injection this
 have HN:Hid (Calls Tryz.prog 22 #[(.pointer (some ⟨w0.heap.size,0,none⟩)),.int .i64 2] (w.alloc (.cells #[.int .i64 5,.int .i64 19] 78)) (EP w0 a cap l (w.alloc (.cells #[.int .i64 5,.int .i64 19] 78)) (.int .u64 ((gN 2 st).1:Nat)) (gN 2 st).2)):=aR w0 _ a cap l st 2 2 rfl (by decide) (by decide) C HE.out
 have hn:(gN 2 st).1 < 65536:=bL 2 st (EyR.byt C h)
 have HG:Hid (gRow gBat st=gL gBat (gN 2 st).1 (gN 2 st).2):=rfl
 have HBD:Hid ((gN 2 st).2=none->(gN 2 st).1=0):=iI
 have HST:Hid (st=none->gRow gBat st=([],none)/\(gN 2 st).1=0):=fun e=>by subst e;exact⟨rfl,rfl⟩
 have HPB:Hid ((gBat none).2=none):=rfl
 have hbig:=C.big
 have HC:Hid (∀I y,I<=l.length->EyR w0 a cap l y (some (l.drop I))->Calls Tryz.prog 43 #[.slice (if cap=I then a else Option.map (fun x=>x.add I) a) (l.length - I) (cap - I)] y (fun e w'=>DecP (l.drop I) y e w')):=fun I y hI hy=>by
  have q:=aCm (cutA a cap I) (cap - I) (l.drop I) y (ht0.below hy.bel) (dG cap I (C.row.below hy.bel) C.len) (by rw[List.length_drop];have:=C.len;omega) (by have:=C.cam;omega) (by rw[List.length_drop];omega)
  rw[List.length_drop] at q
  exact q
 have HBY:Hid (∀I,Byt (l.drop I)):=fun I c hc=>(bF (fun i=>C.row.lt i)) c (List.mem_of_mem_drop hc)
 clear h C hx hnil hcs HE hv27 ht0
 generalize gRow gBat st=R at *
 generalize (gN 2 st).1=n at *
 generalize (gN 2 st).2=s0 at *
 have hnI:(n:Int) < 65536:=by omega
 have en:IntKind.i64.wrap (n:Int)=(n:Int):=by rw[IntKind.wrap_i64];omega
 go_enter Tryz.func24,Tryz.ntmps24
 go_wp2_with (go_at_call 22;refine Calls.mono HN.out ?_;rintro e w1 ⟨rfl,hw1,hk1⟩;have HW1:Hid (EyR w0 a cap l w1 s0):=hw1;have HX1:Hid (w1.heap[X]? = some (.cells cs 73 (0,0))):=hk1.box HX.out (by have:=HZ.out.1;omega);have HK1:Hid (KeepX w0.heap.size X w w1):=KeepX.of ((KeepB.of_below HBL.out).trans hk1);clear hw1 hk1 b0)
 go_loopw [8] (fun iv wr=>∃(k:Nat) (AA:List Bs) (s:Ls) (v:Value),k<=n/\iv=.int .i64 k/\AA.length=k/\(k=0->v=v27)/\(s=none->R.2=none)/\(∀ls,s=some ls->R=gPre (AA.map (·.b)) (gL gBat (n - k) (some ls))/\AllQ wr v AA/\Mid w.heap.size wr AA)/\wr.heap[X]? = some (.cells (cs.setIfInBounds 26 v) 73 (0,0))/\(n≠0->wr.ownsRow w.heap.size 88 5 v AA.length (bcv AA))/\EyR w0 a cap l wr s/\KeepX w0.heap.size X w wr) (fun iv _=>n - (iof iv).toNat)
 case atStart=>exact⟨0,[],s0,v27,by omega,rfl,rfl,fun _=>rfl,fun e=>by rw[HG.out,HBD.out e,e];rfl,fun ls e=>⟨by rw[HG.out,e];exact cZ HPB.out _ _,AllQ.nil _ _,fun s hs=>by cases hs⟩,by rw[HV27.out];exact HX1.out,fun q=>by rw[HVN.out (fun e=>q (HST.out e).2)];exact World.ownsRow_nil _ _ _ _,HW1.out,HK1.out⟩
 case round=>
  clear HN HW1 HX1 HK1 HX HB HBL
  obtain⟨k,AA,s,v,hk,rfl,hAl,hv0,hsn,hR,hbx,hown,hw1,hkx⟩:=hrel
  obtain⟨I,hI,hpx,hpt,x0,x1,x2,x3,x4⟩:=hw1.open
  have HAL:Hid (AA.length=k):=hAl
  have HKX:Hid (KeepX w0.heap.size X w wr):=hkx
  have HEW:Hid (EyR w0 a cap l wr s):=hw1
  have HBX:Hid (wr.heap[X]? = some (.cells (cs.setIfInBounds 26 v) 73 (0,0))):=hbx
  have HSZ:Hid ((cs.setIfInBounds 26 v).size=29):=by show _=_;rw[Array.size_setIfInBounds];exact HCS.out
  clear hAl hkx hw1 hbx
  by_cases hlt:k < n
  ·have hltI:(k:Int) < (n:Int):=by omega
   cases s with
   | none=>
    simp only[Option.isNone_none] at x2
    have HRN:Hid (R.2=none):=hsn rfl
    clear HC HG HBD HPB hR hown hsn HST HVN HV27 HBY hpx hpt
    go_wp2
    go_end0
    exact⟨_,⟨rfl,by rw[HRN.out];exact HEW.out,HBX.out,HKX.out⟩,HSZ.out,fun q=>absurd HRN.out q⟩
   | some ls=>
    simp only[Option.isNone_some] at x2 hpx
    obtain rfl:=hpt ls rfl
    have HNK:Hid (n - k=(n - (k+1))+1):=by show _=_;omega
    obtain⟨hR1,hAQ,hMD⟩:=hR _ rfl
    have HRB:Hid ((gBat (some (l.drop I))).2=none->R.2=none):=fun e=>by rw[hR1,HNK.out,eZ _ _ _ e]
    have HRS:Hid (∀l2,(gBat (some (l.drop I))).2=some l2->R=gPre (AA.map (·.b)++[(gBat (some (l.drop I))).1]) (gL gBat (n - (k+1)) (some l2))):=fun l2 e=>by rw[hR1,HNK.out];exact dS _ _ _ _ e
    have hown2:=hown (by omega)
    obtain⟨va,vn,vc,rfl⟩:∃va vn vc,v=.slice va vn vc:=by
     rcases hown2.2 with⟨rfl,_⟩ | ⟨g,cap,cur,rfl,_⟩
     ·exact⟨_,_,_,rfl⟩
     ·exact⟨_,_,_,rfl⟩
    have HOWN:Hid (wr.ownsRow w.heap.size 88 5 (.slice va vn vc) AA.length (bcv AA)):=hown2
    have HAQ:Hid (AllQ wr (.slice va vn vc) AA):=hAQ
    have HMD:Hid (Mid w.heap.size wr AA):=hMD
    have HPX:Hid (wr.heap[w0.heap.size]? = some (.cells #[.slice a l.length cap,.int .i64 (I:Int),.bool false] 68 (0,0))):=hpx
    have HXC:Hid (∀x:World,x.heap[X]? = some (.cells (cs.setIfInBounds 26 (.slice va vn vc)) 73 (0,0))->x.cell? ⟨X,26,none⟩=some (.slice va vn vc)):=fun x hx=>by rw[(aB hx 26).1,Array.getElem?_setIfInBounds];simp[HCS.out]
    have HC1:Hid (∀y,EyR w0 a cap l y (some (l.drop I))->Calls Tryz.prog 43 #[.slice (if cap=I then a else Option.map (fun x=>x.add I) a) (l.length - I) (cap - I)] y (fun e w'=>DecP (l.drop I) y e w')):=fun y hy=>HC.out I y hI hy
    have HSB:Hid (∀x,Below wr.drew.heap.size wr.drew x->x.cell? ⟨w0.heap.size,0,none⟩=some (.slice a l.length cap)/\x.cell? ⟨w0.heap.size,1,none⟩=some (.int .i64 (I:Int))):=fun x hx=>by
     have q:x.heap[w0.heap.size]? = some (.cells #[.slice a l.length cap,.int .i64 (I:Int),.bool false] 68 (0,0)):=(hx.block _ (by have:=(Array.getElem?_eq_some_iff.1 HPX.out).1;exact this)).trans HPX.out
     exact⟨(aB q 0).1,(aB q 1).1⟩
    have hS0:wr.drew.cell? ⟨w0.heap.size,0,none⟩=some (.slice a l.length cap)/\wr.drew.cell? ⟨w0.heap.size,1,none⟩=some (.int .i64 (I:Int)):=⟨x0,x1⟩
    have HED:Hid (EyR w0 a cap l wr.drew (some (l.drop I))):=HEW.out.below (aT _)
    have hIc:(I:Int)<=(l.length:Int):=by omega
    clear hR1 hAQ hMD hR hown hown2 hsn HC HG HBD HPB HST HVN HV27 x0 x1 x3 x4 hv0 hpx hpt
    by_cases hq:okQ (l.drop I)=true
    ·have hgb:=aC6 (l2:=[]) hq
     have HRQ0:=HRS.out _ (by rw[hgb])
     rw[hgb] at HRQ0
     have HOK:Hid (OkB (l.drop I)):=(kK (HBY.out I)).1 hq
     have HPOS0:Hid (0 < (bOf (l.drop I)).rs.length):=rP hq
     have HBOK0:Hid (∀y ax cx,RRow y ax (bOf (l.drop I)).rs->(ax=none->cx=0)->BaOk y (bOf (l.drop I)) ax cx):=fun y ax cx h1 h2=>rI hq (HBY.out I) ax cx h1 h2
     have hle:=aG1 hq
     rw[List.length_drop] at hle
     rw[List.drop_drop] at HRQ0
     unfold DecP DecQ at HC1
     clear hgb HRB HRS hq
     generalize OkB (l.drop I)=OK at *
     generalize lenN (l.drop I)=LN at *
     generalize bOf (l.drop I)=bb at *
     obtain⟨c0,c1,c2,c3,RS⟩:=bb
     simp only at HC1 HRQ0
     have HPOS:Hid (0 < RS.length):=HPOS0.out
     have HBOK:Hid (∀y ax cx,RRow y ax RS->(ax=none->cx=0)->BaOk y ⟨c0,c1,c2,c3,RS⟩ ax cx):=HBOK0.out
     have HRQ:Hid (R=gPre (AA.map (·.b)++[⟨c0,c1,c2,c3,RS⟩]) (gL gBat (n - (k+1)) (some (l.drop (I+LN))))):=HRQ0
     have HJL:Hid (I+LN<=l.length):=by show _<=_;omega
     have eJ:IntKind.i64.wrap ((I:Int)+(LN:Int))=((I+LN:Nat):Int):=by rw[IntKind.wrap_i64];omega
     obtain⟨nx,HNX⟩:∃nx,Hid (RS.length=nx):=⟨_,rfl⟩
     clear HPOS0 HBOK0 HRQ0 hle
     generalize I+LN=J at *
     go_upto_region 18 with fail
     try simp only[Act.put,sP]
     clear x2
     go_cut [9,10,11] from 77 to 90 (fun s9 s10 s11 wc=>∃X9 ax cx,s9=.pointer (some ⟨X9,0,none⟩)/\s10=.int .i64 (LN:Int)/\s11=.int .i64 0/\Below wr.drew.heap.size wr.drew wc/\wc.heap[X9]? = some (.cells #[.int .i64 c0,.int .i64 c1,.int .i64 c2,.int .i64 c3,.slice ax nx cx] 88 (0,0))/\RRow wc ax RS/\NwA wr ax cx/\wr.heap.size<=X9)
     case first=>
      refine aD (fun y:World=>y.cell? ⟨w0.heap.size,0,none⟩=some (.slice a l.length cap)/\y.cell? ⟨w0.heap.size,1,none⟩=some (.int .i64 (I:Int))) 17 (by kernel_rfl) hS0 (fun hHeld=>?_)
      refine lC 0 ?_
      try simp only[Act.put,sP]
      refine lC 1 ?_
      try simp only[Act.put,sP]
      refine lC 2 ?_
      try simp only[Act.put,sP]
      refine lC 3 ?_
      try simp only[Act.put,sP]
      refine lC 4 ?_
      try simp only[Act.put,sP]
      refine lC 5 ?_
      try simp only[Act.put,sP]
      refine lC 6 ?_
      try simp only[Act.put,sP]
      refine lC 7 ?_
      try simp only[Act.put,sP]
      refine lC 8 ?_
      try simp only[Act.put,sP]
      refine gU 9 14 rfl rfl (by kernel_rfl) (by decide) (by decide) (by rfl) (by rfl) (fun K hK=>?_) (fun K hK=>?_)
      ·go_simp
       refine Calls.mono (HC1.out _ HED.out) ?_
       rintro e w2 ⟨h1,h2,hb2⟩
       obtain⟨ax,cx,rfl,hrx,hnw⟩:=h1 HOK.out
       try dsimp only
       refine hK.out _ _ (HSB.out _ hb2) (fun hH1=>?_)
       clear hK
       try simp only[Act.put,sP]
       refine lC 10 ?_
       try simp only[Act.put,sP]
       refine lC 11 ?_
       try simp only[Act.put,sP]
       refine lC 12 ?_
       try simp only[Act.put,sP]
       refine lC 13 ?_
       try simp only[Act.put,sP]
       refine lo 14 fun K hK=>?_
       go_simp
       try dsimp only
       have hb3:Below wr.drew.heap.size wr.drew (w2.alloc (.cells #[.int .i64 0,.int .i64 0,.int .i64 0,.int .i64 0,.slice none 0 0] 88)):=hb2.trans ((aA _).mono hb2.size)
       have hx3:(w2.alloc (.cells #[.int .i64 0,.int .i64 0,.int .i64 0,.int .i64 0,.slice none 0 0] 88)).heap[w2.heap.size]? = some (.cells #[.int .i64 0,.int .i64 0,.int .i64 0,.int .i64 0,.slice none 0 0] 88 (0,0)):=heap_alloc_new w2 _
       have hrw:RRow (w2.alloc (.cells #[.int .i64 0,.int .i64 0,.int .i64 0,.int .i64 0,.slice none 0 0] 88)) ax RS:=RRow.below hrx (aA _)
       have hne9:∀i,i < RS.length->∀b off,ax=some ⟨b,off,none⟩->b < w2.heap.size:=fun i hi b off e=>hrx.lt hi e
       have hnwA:NwA wr ax cx:=hnw
       rw[HNX.out]
       have HSZ9:Hid (wr.heap.size<=w2.heap.size):=hb2.size
       refine hK.out _ _ (HSB.out _ hb3) (fun hH2=>?_)
       clear hK h1 h2 hb2
       try simp only[Act.put,sP]
       generalize hwx:w2.alloc (.cells #[.int .i64 0,.int .i64 0,.int .i64 0,.int .i64 0,.slice none 0 0] 88)=w4 at *
       clear hwx
       generalize w2.heap.size=X9 at *
       refine lo 15 fun K hK=>?_
       refine wp_store_row 88 _ _ rfl X9 #[.int .i64 c0,.int .i64 c1,.int .i64 c2,.int .i64 c3,.slice ax nx cx] rfl rfl 88 #[.int .i64 0,.int .i64 0,.int .i64 0,.int .i64 0,.slice none 0 0] hx3 Tryz.info88 rfl (by simp[Value.oneCell']) ?_
       have hbz:Below wr.drew.heap.size wr.drew (World.setRow w4 X9 #[.int .i64 c0,.int .i64 c1,.int .i64 c2,.int .i64 c3,.slice ax nx cx]):=below_setRow hb3 HSZ9.out _
       have hxz:(World.setRow w4 X9 #[.int .i64 c0,.int .i64 c1,.int .i64 c2,.int .i64 c3,.slice ax nx cx]).heap[X9]? = some (.cells #[.int .i64 c0,.int .i64 c1,.int .i64 c2,.int .i64 c3,.slice ax nx cx] 88 (0,0)):=setRow_heap _ _ _ _ _ _ hx3
       have hrz:RRow (World.setRow w4 X9 #[.int .i64 c0,.int .i64 c1,.int .i64 c2,.int .i64 c3,.slice ax nx cx]) ax RS:=bV hrw (fun i hi b off e=>setRow_other _ _ _ _ (by have:=hne9 i hi b off e;omega))
       have hnz:=hnwA
       generalize World.setRow w4 X9 #[.int .i64 c0,.int .i64 c1,.int .i64 c2,.int .i64 c3,.slice ax nx cx]=w9 at *
       refine hK.out _ _ (HSB.out _ hbz) (fun hH7=>?_)
       clear hK
       try simp only[Act.put,sP]
       refine lo 16 fun K hK=>?_
       go_simp
       try dsimp only
       refine hK.out _ _ (HSB.out _ hbz) (fun hH8=>?_)
       clear hK
       try simp only[Act.put,sP]
       refine ll 17 fun K hK=>?_
       go_simp
       try dsimp only
       refine hK.out _ _ ?_
       clear hK
       try simp only[Act.put,sP]
       go_step
       go_step
       go_meet
       exact⟨X9,ax,cx,rfl,rfl,rfl,hbz,hxz,hrz,hnz,by have:=HSZ9.out;omega⟩
      ·go_simp
       try dsimp only
       have hb2:Below wr.drew.heap.size wr.drew (wr.alloc (.cells #[.int .i64 0,.int .i64 0,.int .i64 0,.int .i64 0,.slice none 0 0] 88)).drew:=aA (w:=wr.drew) _
       have hx2:(wr.alloc (.cells #[.int .i64 0,.int .i64 0,.int .i64 0,.int .i64 0,.slice none 0 0] 88)).drew.heap[wr.heap.size]? = some (.cells #[.int .i64 0,.int .i64 0,.int .i64 0,.int .i64 0,.slice none 0 0] 88 (0,0)):=heap_alloc_new wr _
       refine hK.out _ _ (HSB.out _ hb2) (fun hH1=>?_)
       clear hK
       try simp only[Act.put,sP]
       have hE2:=HED.out.below hb2
       generalize hwx:(wr.alloc (.cells #[.int .i64 0,.int .i64 0,.int .i64 0,.int .i64 0,.slice none 0 0] 88)).drew=w4 at *
       clear hwx
       refine lo 9 fun K hK=>?_
       go_simp
       refine Calls.mono (HC1.out _ hE2) ?_
       rintro e w2 ⟨h1,h2,hb3⟩
       obtain⟨ax,cx,rfl,hrx,hnw⟩:=h1 HOK.out
       have hb4:Below wr.drew.heap.size wr.drew w2:=hb2.trans (hb3.mono hb2.size)
       have hx4:w2.heap[wr.heap.size]? = some (.cells #[.int .i64 0,.int .i64 0,.int .i64 0,.int .i64 0,.slice none 0 0] 88 (0,0)):=(hb3.block _ (Array.getElem?_eq_some_iff.1 hx2).1).trans hx2
       have hrw:RRow w2 ax RS:=hrx
       have hne9:∀i,i < RS.length->∀b off,ax=some ⟨b,off,none⟩->wr.heap.size < b:=fun i hi b off e=>by have q:=hnw.2 _ e;have q2:=(Array.getElem?_eq_some_iff.1 hx2).1;simp at q;omega
       have hnwA:NwA wr ax cx:=⟨hnw.1,fun g hg=>Nat.le_trans hb2.size (hnw.2 g hg)⟩
       rw[HNX.out]
       have HSZ9:Hid (wr.heap.size<=wr.heap.size):=Nat.le_refl _
       try dsimp only
       refine hK.out _ _ (HSB.out _ hb4) (fun hH2=>?_)
       clear hK h1 h2 hb2 hb3 hE2 hx2
       try simp only[Act.put,sP]
       refine lC 10 ?_
       try simp only[Act.put,sP]
       refine lC 11 ?_
       try simp only[Act.put,sP]
       refine lC 12 ?_
       try simp only[Act.put,sP]
       refine lC 13 ?_
       try simp only[Act.put,sP]
       refine lo 15 fun K hK=>?_
       refine wp_store_row 88 _ _ rfl wr.heap.size #[.int .i64 c0,.int .i64 c1,.int .i64 c2,.int .i64 c3,.slice ax nx cx] rfl rfl 88 #[.int .i64 0,.int .i64 0,.int .i64 0,.int .i64 0,.slice none 0 0] hx4 Tryz.info88 rfl (by simp[Value.oneCell']) ?_
       have hbz:Below wr.drew.heap.size wr.drew (World.setRow w2 wr.heap.size #[.int .i64 c0,.int .i64 c1,.int .i64 c2,.int .i64 c3,.slice ax nx cx]):=below_setRow hb4 HSZ9.out _
       have hxz:(World.setRow w2 wr.heap.size #[.int .i64 c0,.int .i64 c1,.int .i64 c2,.int .i64 c3,.slice ax nx cx]).heap[wr.heap.size]? = some (.cells #[.int .i64 c0,.int .i64 c1,.int .i64 c2,.int .i64 c3,.slice ax nx cx] 88 (0,0)):=setRow_heap _ _ _ _ _ _ hx4
       have hrz:RRow (World.setRow w2 wr.heap.size #[.int .i64 c0,.int .i64 c1,.int .i64 c2,.int .i64 c3,.slice ax nx cx]) ax RS:=bV hrw (fun i hi b off e=>setRow_other _ _ _ _ (by have:=hne9 i hi b off e;omega))
       have hnz:=hnwA
       generalize World.setRow w2 wr.heap.size #[.int .i64 c0,.int .i64 c1,.int .i64 c2,.int .i64 c3,.slice ax nx cx]=w9 at *
       refine hK.out _ _ (HSB.out _ hbz) (fun hH7=>?_)
       clear hK
       try simp only[Act.put,sP]
       refine lo 16 fun K hK=>?_
       go_simp
       try dsimp only
       refine hK.out _ _ (HSB.out _ hbz) (fun hH8=>?_)
       clear hK
       try simp only[Act.put,sP]
       refine ll 17 fun K hK=>?_
       go_simp
       try dsimp only
       refine hK.out _ _ ?_
       clear hK
       try simp only[Act.put,sP]
       go_step
       go_step
       go_meet
       exact⟨wr.heap.size,ax,cx,rfl,rfl,rfl,hbz,hxz,hrz,hnz,by have:=HSZ9.out;omega⟩
     case rest=>
      obtain⟨X9,ax,cx,rfl,rfl,rfl,hbz,hxz,hrz,hnz,hle9⟩:=hcut
      have HBZ:Hid (Below wr.drew.heap.size wr.drew wc):=hbz
      have hkz:KeepB w0.heap.size wr wc:=(KeepB.of_below (aT _)).trans (KeepB.of_below hbz)
      have HEZ:Hid (EyR w0 a cap l wc (some (l.drop I))):=HED.out.below hbz
      have HKZ:Hid (KeepB w0.heap.size wr wc):=hkz
      have HXZ:Hid (wc.heap[X9]? = some (.cells #[.int .i64 c0,.int .i64 c1,.int .i64 c2,.int .i64 c3,.slice ax nx cx] 88 (0,0))):=hxz
      have HRZ:Hid (RRow wc ax RS):=hrz
      have HNZ:Hid (∀g,ax=some g->wr.heap.size<=g.block):=hnz.2
      have HNC:Hid (ax=none->cx=0):=hnz.1
      have HBZX:Hid (wc.heap[X]? = some (.cells (cs.setIfInBounds 26 (.slice va vn vc)) 73 (0,0))):=HKZ.out.box HBX.out (by have:=HZ.out.1;omega)
      have HPZ:Hid (wc.heap[w0.heap.size]? = some (.cells #[.slice a l.length cap,.int .i64 (I:Int),.bool false] 68 (0,0))):=by
       have q:wc.heap[w0.heap.size]? = some (.cells #[.slice a l.length cap,.int .i64 (I:Int),.bool false] 68 (0,0)):=(hbz.block _ (by have:=(Array.getElem?_eq_some_iff.1 HPX.out).1;exact this)).trans HPX.out
       exact q
      have HL9:Hid (wr.heap.size<=X9):=hle9
      clear hbz hxz hkz hle9 hrz hnz
      go_wp2_with fail
      generalize hwz:wc=w2 at *
      clear hwz
      clear HBZ
      have hS1:w2.drew.cell? ⟨X,26,none⟩=some (.slice va vn vc)/\w2.drew.heap[X9]? = some (.cells #[.int .i64 c0,.int .i64 c1,.int .i64 c2,.int .i64 c3,.slice ax nx cx] 88 (0,0)):=⟨HXC.out _ HBZX.out,HXZ.out⟩
      have hB2:Below w2.heap.size w2 (w2.alloc (.cells #[.int .i64 c0,.int .i64 c1,.int .i64 c2,.int .i64 c3,.slice ax nx cx] 88)).drew:=(aA _).trans ((aT _).mono (by simp))
      have HO2:Hid ((w2.alloc (.cells #[.int .i64 c0,.int .i64 c1,.int .i64 c2,.int .i64 c3,.slice ax nx cx] 88)).drew.ownsRow w.heap.size 88 5 (.slice va vn vc) AA.length (bcv AA)):=bY (bU HOWN.out HKZ.out HZ.out.2.2) hB2
      have HB3:Hid ((w2.alloc (.cells #[.int .i64 c0,.int .i64 c1,.int .i64 c2,.int .i64 c3,.slice ax nx cx] 88)).drew.heap[X]? = some (.cells (cs.setIfInBounds 26 (.slice va vn vc)) 73 (0,0))):=(hB2.block X (Array.getElem?_eq_some_iff.1 HBZX.out).1).trans HBZX.out
      have HX93:Hid ((w2.alloc (.cells #[.int .i64 c0,.int .i64 c1,.int .i64 c2,.int .i64 c3,.slice ax nx cx] 88)).drew.heap[X9]? = some (.cells #[.int .i64 c0,.int .i64 c1,.int .i64 c2,.int .i64 c3,.slice ax nx cx] 88 (0,0))):=(hB2.block X9 (Array.getElem?_eq_some_iff.1 HXZ.out).1).trans HXZ.out
      have HE2:Hid (EyR w0 a cap l (w2.alloc (.cells #[.int .i64 c0,.int .i64 c1,.int .i64 c2,.int .i64 c3,.slice ax nx cx] 88)).drew (some (l.drop I))):=HEZ.out.below hB2
      have HP2:Hid ((w2.alloc (.cells #[.int .i64 c0,.int .i64 c1,.int .i64 c2,.int .i64 c3,.slice ax nx cx] 88)).drew.heap[w0.heap.size]? = some (.cells #[.slice a l.length cap,.int .i64 (I:Int),.bool false] 68 (0,0))):=(hB2.block _ (Array.getElem?_eq_some_iff.1 HPZ.out).1).trans HPZ.out
      have HK2:Hid (KeepX w0.heap.size X w (w2.alloc (.cells #[.int .i64 c0,.int .i64 c1,.int .i64 c2,.int .i64 c3,.slice ax nx cx] 88)).drew):=(HKX.out.b HKZ.out).b (KeepB.of_below hB2)
      have HW2:Hid (KeepB w0.heap.size wr (w2.alloc (.cells #[.int .i64 c0,.int .i64 c1,.int .i64 c2,.int .i64 c3,.slice ax nx cx] 88)).drew):=HKZ.out.trans (KeepB.of_below hB2)
      have HNEW:Hid ((w2.alloc (.cells #[.int .i64 c0,.int .i64 c1,.int .i64 c2,.int .i64 c3,.slice ax nx cx] 88)).drew.heap[w2.heap.size]? = some (.cells (List.toArray [Value.int .i64 c0,Value.int .i64 c1,Value.int .i64 c2,Value.int .i64 c3,Value.slice ax nx cx]) 88 (0,0))):=heap_alloc_new w2 _
      have HR2:Hid (RRow (w2.alloc (.cells #[.int .i64 c0,.int .i64 c1,.int .i64 c2,.int .i64 c3,.slice ax nx cx] 88)).drew ax RS):=RRow.below HRZ.out hB2
      clear hB2
      refine aD (fun y:World=>y.cell? ⟨X,26,none⟩=some (.slice va vn vc)/\y.heap[X9]? = some (.cells #[.int .i64 c0,.int .i64 c1,.int .i64 c2,.int .i64 c3,.slice ax nx cx] 88 (0,0))) 10 (by kernel_rfl) hS1 (fun hHeld=>?_)
      refine lC 0 ?_
      try simp only[Act.put,sP]
      refine lC 1 ?_
      try simp only[Act.put,sP]
      refine lC 2 ?_
      try simp only[Act.put,sP]
      refine lC 3 ?_
      try simp only[Act.put,sP]
      refine lC 4 ?_
      try simp only[Act.put,sP]
      refine tZ 5 rfl (by kernel_rfl) (by kernel_rfl) (by kernel_rfl) (by kernel_rfl) 88 _ rfl X9 #[.int .i64 c0,.int .i64 c1,.int .i64 c2,.int .i64 c3,.slice ax nx cx] (fun _ _ _ h=>h) (by rfl) rfl 88 _ (fun y hy=>hy.2) Tryz.underlying88 rfl Tryz.info88 (by assumption) ?_
      try simp only[Act.put,sP]
      refine lo 6 fun K hK=>?_
      go_simp
      try dsimp only
      refine hK.out _ _ ⟨HXC.out _ HB3.out,HX93.out⟩ (fun hH2=>?_)
      clear hK
      try simp only[Act.put,sP]
      have hle3:w.heap.size<=(w2.alloc (.cells #[.int .i64 c0,.int .i64 c1,.int .i64 c2,.int .i64 c3,.slice ax nx cx] 88)).drew.heap.size:=HK2.out.size
      have hsz3:wr.heap.size<=(w2.alloc (.cells #[.int .i64 c0,.int .i64 c1,.int .i64 c2,.int .i64 c3,.slice ax nx cx] 88)).drew.heap.size:=HW2.out.size
      generalize hw4:(w2.alloc (.cells #[.int .i64 c0,.int .i64 c1,.int .i64 c2,.int .i64 c3,.slice ax nx cx] 88)).drew=w4 at *
      clear hw4
      refine lo 7 fun K hK=>?_
      refine jC _ _ 36 88 rfl _ 5 _ Tryz.underlying36 pS rfl (by decide) (by decide) w.heap.size _ _ _ rfl HO2.out hle3 _ [Value.int .i64 c0,Value.int .i64 c1,Value.int .i64 c2,Value.int .i64 c3,Value.slice ax nx cx] rfl rfl HNEW.out (by simp[Value.oneCell']) (by rw[HAL.out];omega) ?_
      intro v3 w5 ho3 hg3 hv3
      obtain⟨a3,n3,c7,rfl⟩:∃va vn vc,v3=.slice va vn vc:=by
       rcases ho3.2 with⟨rfl,_⟩ | ⟨g,cap,cur,rfl,_⟩
       ·exact⟨_,_,_,rfl⟩
       ·exact⟨_,_,_,rfl⟩
      have hlow:∀g o,g < w.heap.size->w4.heap[g]? = some o->w5.heap[g]? = some o:=fun g o hl hg=>(hg3.block g (Array.getElem?_eq_some_iff.1 hg).1 (fun q=>by have:=(HO2.out.lt _ q.symm).1;omega)).trans hg
      have hX5:=hlow X _ HZ.out.2.1 HB3.out
      have hX95:w5.heap[X9]? = some (.cells #[.int .i64 c0,.int .i64 c1,.int .i64 c2,.int .i64 c3,.slice ax nx cx] 88 (0,0)):=(hg3.block X9 (Array.getElem?_eq_some_iff.1 HX93.out).1 (fun q=>by
       have q1:=(HOWN.out.lt _ q.symm).2
       have q2:=HL9.out
       omega)).trans HX93.out
      have hP5:=hlow w0.heap.size _ HZ.out.2.2 HP2.out
      have hE5:EyR w0 a cap l w5 (some (l.drop I)):=HE2.out.grown hg3 HO2.out HZ.out.2.2
      have hO5:(w5.setCell ⟨X,26,none⟩ (.slice a3 n3 c7)).ownsRow w.heap.size 88 5 (.slice a3 n3 c7) (AA.length+1) (bcv AA++[Value.int .i64 c0,Value.int .i64 c1,Value.int .i64 c2,Value.int .i64 c3,Value.slice ax nx cx]):=gH ho3 (fun k hk=>by have:=(ho3.lt k hk).1;have:=HZ.out.2.1;show k≠X;omega)
      have HO6:Hid (((w5.setCell ⟨X,26,none⟩ (.slice a3 n3 c7)).setCell ⟨w0.heap.size,1,none⟩ (.int .i64 (J:Int))).ownsRow w.heap.size 88 5 (.slice a3 n3 c7) (AA.length+1) (bcv AA++[Value.int .i64 c0,Value.int .i64 c1,Value.int .i64 c2,Value.int .i64 c3,Value.slice ax nx cx])):=gH hO5 (fun k hk=>by have:=(hO5.lt k hk).1;have:=HZ.out.2.2;show k≠w0.heap.size;omega)
      have hPX5:(w5.setCell ⟨X,26,none⟩ (.slice a3 n3 c7)).heap[w0.heap.size]? = some (.cells #[.slice a l.length cap,.int .i64 (I:Int),.bool false] 68 (0,0)):=(heap_setCell_other w5 ⟨X,26,none⟩ w0.heap.size _ (by have:=HZ.out.1;show w0.heap.size≠X;omega)).trans hP5
      have hE6:EyR w0 a cap l (w5.setCell ⟨X,26,none⟩ (.slice a3 n3 c7)) (some (l.drop I)):=hE5.off HZ.out.1
      have HE6:Hid (EyR w0 a cap l ((w5.setCell ⟨X,26,none⟩ (.slice a3 n3 c7)).setCell ⟨w0.heap.size,1,none⟩ (.int .i64 (J:Int))) (some (l.drop J))):=(EyR.move (b:=false) hE6.bel hPX5 rfl HJL.out).1
      have HX6:Hid (((w5.setCell ⟨X,26,none⟩ (.slice a3 n3 c7)).setCell ⟨w0.heap.size,1,none⟩ (.int .i64 (J:Int))).heap[X]? = some (.cells (cs.setIfInBounds 26 (.slice a3 n3 c7)) 73 (0,0))):=by show _=_;rw[heap_setCell_other _ ⟨w0.heap.size,1,none⟩ X _ (by have:=HZ.out.1;show X≠w0.heap.size;omega),aH hX5];simp
      have HK6:Hid (KeepX w0.heap.size X w ((w5.setCell ⟨X,26,none⟩ (.slice a3 n3 c7)).setCell ⟨w0.heap.size,1,none⟩ (.int .i64 (J:Int)))):=(fR HK2.out HO2.out hg3 (Nat.le_refl _)).setX.b (KeepB.setCell _ _ _ _)
      have d1:=(aB hP5 1).1
      have d2:=(aB hP5 1).2
      have hne1:¬X=w0.heap.size:=by have:=HZ.out.1;omega
      have hne2:¬w0.heap.size=X:=by have:=HZ.out.1;omega
      obtain⟨⟨u9,c9⟩,f9⟩:=dI hX5 (by rw[Array.size_setIfInBounds];exact HCS.out) 26 (by omega)
      have hup:∀b,w.heap.size<=b->((w5.setCell ⟨X,26,none⟩ (.slice a3 n3 c7)).setCell ⟨w0.heap.size,1,none⟩ (.int .i64 (J:Int))).heap[b]? = w5.heap[b]?:=fun b hb=>by
       rw[heap_setCell_other _ ⟨w0.heap.size,1,none⟩ b _ (by have:=HZ.out.2.2;show b≠w0.heap.size;omega),heap_setCell_other _ ⟨X,26,none⟩ b _ (by have:=HZ.out.2.1;show b≠X;omega)]
      have hAQ4:AllQ w4 (.slice va vn vc) AA:=HAQ.out.keepM HMD.out (fun b h1 h2=>HW2.out.blk b (by have:=HZ.out.2.2;omega) h2)
      have hMD4:Mid w.heap.size w4 AA:=HMD.out.le hsz3
      have hlt9:∀g,ax=some g->w.heap.size<=g.block/\g.block < w4.heap.size/\wr.heap.size<=g.block:=fun g hg=>⟨Nat.le_trans HKX.out.size (HNZ.out g hg),rE HR2.out HPOS.out hg,HNZ.out g hg⟩
      have hMD5:Mid w.heap.size w5 (AA++[⟨⟨c0,c1,c2,c3,RS⟩,ax,cx⟩]):=fun s hs g hg=>by
       rcases List.mem_append.1 hs with q | q
       ·exact⟨(hMD4 s q g hg).1,Nat.lt_of_lt_of_le (hMD4 s q g hg).2 hg3.size⟩
       ·obtain rfl:s=⟨⟨c0,c1,c2,c3,RS⟩,ax,cx⟩:=by simpa using q
        exact⟨(hlt9 g hg).1,Nat.lt_of_lt_of_le (hlt9 g hg).2.1 hg3.size⟩
      have hAQ5:AllQ w5 (.slice a3 n3 c7) (AA++[⟨⟨c0,c1,c2,c3,RS⟩,ax,cx⟩]):=by
       refine AllQ.grown (v:=.slice va vn vc) ?_ hg3 hv3 ?_
       ·intro s hs
        rcases List.mem_append.1 hs with q | q
        ·exact hAQ4 s q
        ·obtain rfl:s=⟨⟨c0,c1,c2,c3,RS⟩,ax,cx⟩:=by simpa using q
         refine⟨HBOK.out w4 ax cx HR2.out HNC.out,fun g hg q=>?_⟩
         have h1:=(HOWN.out.lt _ q).2
         have h2:=(hlt9 g hg).2.2
         omega
       ·intro s hs g hg
        rcases List.mem_append.1 hs with q | q
        ·exact(hMD4 s q g hg).2
        ·obtain rfl:s=⟨⟨c0,c1,c2,c3,RS⟩,ax,cx⟩:=by simpa using q
         exact(hlt9 g hg).2.1
      have HAQ6:Hid (AllQ ((w5.setCell ⟨X,26,none⟩ (.slice a3 n3 c7)).setCell ⟨w0.heap.size,1,none⟩ (.int .i64 (J:Int))) (.slice a3 n3 c7) (AA++[⟨⟨c0,c1,c2,c3,RS⟩,ax,cx⟩])):=hAQ5.keepM hMD5 (fun b h1 h2=>hup b h1)
      have HMD6:Hid (Mid w.heap.size ((w5.setCell ⟨X,26,none⟩ (.slice a3 n3 c7)).setCell ⟨w0.heap.size,1,none⟩ (.int .i64 (J:Int))) (AA++[⟨⟨c0,c1,c2,c3,RS⟩,ax,cx⟩])):=hMD5.le (by simp[World.setCell])
      clear hup hAQ4 hMD4 hlt9 hMD5 hAQ5
      refine hK.out _ _ ⟨HXC.out _ hX5,hX95⟩ (fun hH3=>?_)
      clear hK ho3 hg3 hv3 hX5 hX95 hP5 hE5 hO5 hPX5 hE6 hle3 hsz3 hlow
      try simp only[Act.put,sP]
      refine lC 8 ?_
      try simp only[Act.put,sP]
      refine lC 9 ?_
      try simp only[Act.put,sP]
      refine ll 10 fun K hK=>?_
      go_simp
      try dsimp only
      refine hK.out _ _ ?_
      clear hK
      try simp only[Act.put,sP]
      go_wp2_with fail
      exact⟨⟨k+1,AA++[⟨⟨c0,c1,c2,c3,RS⟩,ax,cx⟩],some (l.drop J),_,by omega,by go_num,(by rw[List.length_append,HAL.out];rfl),fun q=>absurd q (by omega),fun e=>(by cases e),fun l5 e=>⟨(by injection e with e;subst e;rw[List.map_append];exact HRQ.out),HAQ6.out,HMD6.out⟩,HX6.out,fun _=>(by rw[List.length_append,mN];have q:=HO6.out;rw[<-HNX.out] at q;exact q),HE6.out,HK6.out⟩,by simp[iof];omega⟩
    ·have HRN:Hid (R.2=none):=HRB.out (aCx hq)
     have HOK:Hid (¬OkB (l.drop I)):=fun e=>hq ((kK (HBY.out I)).2 e)
     unfold DecP DecQ at HC1
     clear HRB HRS hq
     generalize OkB (l.drop I)=OK at *
     have eJ:IntKind.i64.wrap ((I:Int)+0)=(I:Int):=by rw[IntKind.wrap_i64];omega
     go_upto_region 18 with fail
     try simp only[Act.put,sP]
     clear x2
     go_cut [9,10,11] from 77 to 90 (fun s9 s10 s11 wc=>∃X9,s9=.pointer (some ⟨X9,0,none⟩)/\s10=.int .i64 0/\s11=.int .i64 10/\Below wr.drew.heap.size wr.drew wc/\wc.heap[X9]? = some (.cells #[.int .i64 0,.int .i64 0,.int .i64 0,.int .i64 0,.slice none 0 0] 88 (0,0))/\wr.heap.size<=X9)
     case first=>
      refine aD (fun y:World=>y.cell? ⟨w0.heap.size,0,none⟩=some (.slice a l.length cap)/\y.cell? ⟨w0.heap.size,1,none⟩=some (.int .i64 (I:Int))) 17 (by kernel_rfl) hS0 (fun hHeld=>?_)
      refine lC 0 ?_
      try simp only[Act.put,sP]
      refine lC 1 ?_
      try simp only[Act.put,sP]
      refine lC 2 ?_
      try simp only[Act.put,sP]
      refine lC 3 ?_
      try simp only[Act.put,sP]
      refine lC 4 ?_
      try simp only[Act.put,sP]
      refine lC 5 ?_
      try simp only[Act.put,sP]
      refine lC 6 ?_
      try simp only[Act.put,sP]
      refine lC 7 ?_
      try simp only[Act.put,sP]
      refine lC 8 ?_
      try simp only[Act.put,sP]
      refine gU 9 14 rfl rfl (by kernel_rfl) (by decide) (by decide) (by rfl) (by rfl) (fun K hK=>?_) (fun K hK=>?_)
      ·go_simp
       refine Calls.mono (HC1.out _ HED.out) ?_
       rintro e w2 ⟨h1,h2,hb2⟩
       obtain rfl:=h2 HOK.out
       try dsimp only
       refine hK.out _ _ (HSB.out _ hb2) (fun hH1=>?_)
       clear hK
       try simp only[Act.put,sP]
       refine lC 10 ?_
       try simp only[Act.put,sP]
       refine lC 11 ?_
       try simp only[Act.put,sP]
       refine lC 12 ?_
       try simp only[Act.put,sP]
       refine lC 13 ?_
       try simp only[Act.put,sP]
       refine lo 14 fun K hK=>?_
       go_simp
       try dsimp only
       have hb3:Below wr.drew.heap.size wr.drew (w2.alloc (.cells #[.int .i64 0,.int .i64 0,.int .i64 0,.int .i64 0,.slice none 0 0] 88)):=hb2.trans ((aA _).mono hb2.size)
       have hx3:(w2.alloc (.cells #[.int .i64 0,.int .i64 0,.int .i64 0,.int .i64 0,.slice none 0 0] 88)).heap[w2.heap.size]? = some (.cells #[.int .i64 0,.int .i64 0,.int .i64 0,.int .i64 0,.slice none 0 0] 88 (0,0)):=heap_alloc_new w2 _
       have HSZ9:Hid (wr.heap.size<=w2.heap.size):=hb2.size
       refine hK.out _ _ (HSB.out _ hb3) (fun hH2=>?_)
       clear hK h1 h2 hb2
       try simp only[Act.put,sP]
       generalize hwx:w2.alloc (.cells #[.int .i64 0,.int .i64 0,.int .i64 0,.int .i64 0,.slice none 0 0] 88)=w4 at *
       clear hwx
       generalize w2.heap.size=X9 at *
       refine lo 15 fun K hK=>?_
       refine wp_store_row 88 _ _ rfl X9 #[.int .i64 0,.int .i64 0,.int .i64 0,.int .i64 0,.slice none 0 0] rfl rfl 88 #[.int .i64 0,.int .i64 0,.int .i64 0,.int .i64 0,.slice none 0 0] hx3 Tryz.info88 rfl (by simp[Value.oneCell']) ?_
       have hbz:Below wr.drew.heap.size wr.drew (World.setRow w4 X9 #[.int .i64 0,.int .i64 0,.int .i64 0,.int .i64 0,.slice none 0 0]):=below_setRow hb3 HSZ9.out _
       have hxz:(World.setRow w4 X9 #[.int .i64 0,.int .i64 0,.int .i64 0,.int .i64 0,.slice none 0 0]).heap[X9]? = some (.cells #[.int .i64 0,.int .i64 0,.int .i64 0,.int .i64 0,.slice none 0 0] 88 (0,0)):=setRow_heap _ _ _ _ _ _ hx3
       generalize World.setRow w4 X9 #[.int .i64 0,.int .i64 0,.int .i64 0,.int .i64 0,.slice none 0 0]=w9 at *
       refine hK.out _ _ (HSB.out _ hbz) (fun hH7=>?_)
       clear hK
       try simp only[Act.put,sP]
       refine lo 16 fun K hK=>?_
       go_simp
       try dsimp only
       refine hK.out _ _ (HSB.out _ hbz) (fun hH8=>?_)
       clear hK
       try simp only[Act.put,sP]
       refine ll 17 fun K hK=>?_
       go_simp
       try dsimp only
       refine hK.out _ _ ?_
       clear hK
       try simp only[Act.put,sP]
       go_step
       go_step
       go_meet
       exact⟨X9,rfl,rfl,rfl,hbz,hxz,by have:=HSZ9.out;omega⟩
      ·go_simp
       try dsimp only
       have hb2:Below wr.drew.heap.size wr.drew (wr.alloc (.cells #[.int .i64 0,.int .i64 0,.int .i64 0,.int .i64 0,.slice none 0 0] 88)).drew:=aA (w:=wr.drew) _
       have hx2:(wr.alloc (.cells #[.int .i64 0,.int .i64 0,.int .i64 0,.int .i64 0,.slice none 0 0] 88)).drew.heap[wr.heap.size]? = some (.cells #[.int .i64 0,.int .i64 0,.int .i64 0,.int .i64 0,.slice none 0 0] 88 (0,0)):=heap_alloc_new wr _
       refine hK.out _ _ (HSB.out _ hb2) (fun hH1=>?_)
       clear hK
       try simp only[Act.put,sP]
       have hE2:=HED.out.below hb2
       generalize hwx:(wr.alloc (.cells #[.int .i64 0,.int .i64 0,.int .i64 0,.int .i64 0,.slice none 0 0] 88)).drew=w4 at *
       clear hwx
       refine lo 9 fun K hK=>?_
       go_simp
       refine Calls.mono (HC1.out _ hE2) ?_
       rintro e w2 ⟨h1,h2,hb3⟩
       obtain rfl:=h2 HOK.out
       have hb4:Below wr.drew.heap.size wr.drew w2:=hb2.trans (hb3.mono hb2.size)
       have hx4:w2.heap[wr.heap.size]? = some (.cells #[.int .i64 0,.int .i64 0,.int .i64 0,.int .i64 0,.slice none 0 0] 88 (0,0)):=(hb3.block _ (Array.getElem?_eq_some_iff.1 hx2).1).trans hx2
       have HSZ9:Hid (wr.heap.size<=wr.heap.size):=Nat.le_refl _
       try dsimp only
       refine hK.out _ _ (HSB.out _ hb4) (fun hH2=>?_)
       clear hK h1 h2 hb2 hb3 hE2 hx2
       try simp only[Act.put,sP]
       refine lC 10 ?_
       try simp only[Act.put,sP]
       refine lC 11 ?_
       try simp only[Act.put,sP]
       refine lC 12 ?_
       try simp only[Act.put,sP]
       refine lC 13 ?_
       try simp only[Act.put,sP]
       refine lo 15 fun K hK=>?_
       refine wp_store_row 88 _ _ rfl wr.heap.size #[.int .i64 0,.int .i64 0,.int .i64 0,.int .i64 0,.slice none 0 0] rfl rfl 88 #[.int .i64 0,.int .i64 0,.int .i64 0,.int .i64 0,.slice none 0 0] hx4 Tryz.info88 rfl (by simp[Value.oneCell']) ?_
       have hbz:Below wr.drew.heap.size wr.drew (World.setRow w2 wr.heap.size #[.int .i64 0,.int .i64 0,.int .i64 0,.int .i64 0,.slice none 0 0]):=below_setRow hb4 HSZ9.out _
       have hxz:(World.setRow w2 wr.heap.size #[.int .i64 0,.int .i64 0,.int .i64 0,.int .i64 0,.slice none 0 0]).heap[wr.heap.size]? = some (.cells #[.int .i64 0,.int .i64 0,.int .i64 0,.int .i64 0,.slice none 0 0] 88 (0,0)):=setRow_heap _ _ _ _ _ _ hx4
       generalize World.setRow w2 wr.heap.size #[.int .i64 0,.int .i64 0,.int .i64 0,.int .i64 0,.slice none 0 0]=w9 at *
       refine hK.out _ _ (HSB.out _ hbz) (fun hH7=>?_)
       clear hK
       try simp only[Act.put,sP]
       refine lo 16 fun K hK=>?_
       go_simp
       try dsimp only
       refine hK.out _ _ (HSB.out _ hbz) (fun hH8=>?_)
       clear hK
       try simp only[Act.put,sP]
       refine ll 17 fun K hK=>?_
       go_simp
       try dsimp only
       refine hK.out _ _ ?_
       clear hK
       try simp only[Act.put,sP]
       go_step
       go_step
       go_meet
       exact⟨wr.heap.size,rfl,rfl,rfl,hbz,hxz,by have:=HSZ9.out;omega⟩
     case rest=>
      obtain⟨X9,rfl,rfl,rfl,hbz,hxz,hle9⟩:=hcut
      have HBZ:Hid (Below wr.drew.heap.size wr.drew wc):=hbz
      have hkz:KeepB w0.heap.size wr wc:=(KeepB.of_below (aT _)).trans (KeepB.of_below hbz)
      have hez0:EyR w0 a cap l wc (some (l.drop I)):=HED.out.below hbz
      obtain⟨_,_,_,_,y0,y1,y2,y3,y4⟩:=hez0.open
      have hkb:=hez0.bad.2
      have HEZ:Hid (EyR w0 a cap l (wc.setCell ⟨w0.heap.size,2,none⟩ (.bool true)) none):=hez0.bad.1
      have HKZ:Hid (KeepB w0.heap.size wr (wc.setCell ⟨w0.heap.size,2,none⟩ (.bool true))):=hkz.trans hkb
      have HXZ:Hid ((wc.setCell ⟨w0.heap.size,2,none⟩ (.bool true)).heap[X9]? = some (.cells #[.int .i64 0,.int .i64 0,.int .i64 0,.int .i64 0,.slice none 0 0] 88 (0,0))):=hkb.box hxz (by have:=HZ.out.2.2;have:=HKX.out.size;omega)
      have HBZX:Hid ((wc.setCell ⟨w0.heap.size,2,none⟩ (.bool true)).heap[X]? = some (.cells (cs.setIfInBounds 26 (.slice va vn vc)) 73 (0,0))):=HKZ.out.box HBX.out (by have:=HZ.out.1;omega)
      have HPZ:Hid ((wc.setCell ⟨w0.heap.size,2,none⟩ (.bool true)).heap[w0.heap.size]? = some (.cells #[.slice a l.length cap,.int .i64 (I:Int),.bool true] 68 (0,0))):=by
       have q:wc.heap[w0.heap.size]? = some (.cells #[.slice a l.length cap,.int .i64 (I:Int),.bool false] 68 (0,0)):=(hbz.block _ (by have:=(Array.getElem?_eq_some_iff.1 HPX.out).1;exact this)).trans HPX.out
       show _=_;rw[aH q];rfl
      have HL9:Hid (wr.heap.size<=X9):=hle9
      clear hbz hxz hkz hle9 hez0 hkb
      go_wp2_with fail
      generalize hwz:(wc.setCell ⟨w0.heap.size,2,none⟩ (.bool true))=w2 at *
      clear hwz
      clear y0 y1 y2 y3 y4 HBZ
      have hS1:w2.drew.cell? ⟨X,26,none⟩=some (.slice va vn vc)/\w2.drew.heap[X9]? = some (.cells #[.int .i64 0,.int .i64 0,.int .i64 0,.int .i64 0,.slice none 0 0] 88 (0,0)):=⟨HXC.out _ HBZX.out,HXZ.out⟩
      have hB2:Below w2.heap.size w2 (w2.alloc (.cells #[.int .i64 0,.int .i64 0,.int .i64 0,.int .i64 0,.slice none 0 0] 88)).drew:=(aA _).trans ((aT _).mono (by simp))
      have HO2:Hid ((w2.alloc (.cells #[.int .i64 0,.int .i64 0,.int .i64 0,.int .i64 0,.slice none 0 0] 88)).drew.ownsRow w.heap.size 88 5 (.slice va vn vc) AA.length (bcv AA)):=bY (bU HOWN.out HKZ.out HZ.out.2.2) hB2
      have HB3:Hid ((w2.alloc (.cells #[.int .i64 0,.int .i64 0,.int .i64 0,.int .i64 0,.slice none 0 0] 88)).drew.heap[X]? = some (.cells (cs.setIfInBounds 26 (.slice va vn vc)) 73 (0,0))):=(hB2.block X (Array.getElem?_eq_some_iff.1 HBZX.out).1).trans HBZX.out
      have HX93:Hid ((w2.alloc (.cells #[.int .i64 0,.int .i64 0,.int .i64 0,.int .i64 0,.slice none 0 0] 88)).drew.heap[X9]? = some (.cells #[.int .i64 0,.int .i64 0,.int .i64 0,.int .i64 0,.slice none 0 0] 88 (0,0))):=(hB2.block X9 (Array.getElem?_eq_some_iff.1 HXZ.out).1).trans HXZ.out
      have HE2:Hid (EyR w0 a cap l (w2.alloc (.cells #[.int .i64 0,.int .i64 0,.int .i64 0,.int .i64 0,.slice none 0 0] 88)).drew none):=HEZ.out.below hB2
      have HP2:Hid ((w2.alloc (.cells #[.int .i64 0,.int .i64 0,.int .i64 0,.int .i64 0,.slice none 0 0] 88)).drew.heap[w0.heap.size]? = some (.cells #[.slice a l.length cap,.int .i64 (I:Int),.bool true] 68 (0,0))):=(hB2.block _ (Array.getElem?_eq_some_iff.1 HPZ.out).1).trans HPZ.out
      have HK2:Hid (KeepX w0.heap.size X w (w2.alloc (.cells #[.int .i64 0,.int .i64 0,.int .i64 0,.int .i64 0,.slice none 0 0] 88)).drew):=(HKX.out.b HKZ.out).b (KeepB.of_below hB2)
      have HW2:Hid (KeepB w0.heap.size wr (w2.alloc (.cells #[.int .i64 0,.int .i64 0,.int .i64 0,.int .i64 0,.slice none 0 0] 88)).drew):=HKZ.out.trans (KeepB.of_below hB2)
      have HNEW:Hid ((w2.alloc (.cells #[.int .i64 0,.int .i64 0,.int .i64 0,.int .i64 0,.slice none 0 0] 88)).drew.heap[w2.heap.size]? = some (.cells (List.toArray [Value.int .i64 0,Value.int .i64 0,Value.int .i64 0,Value.int .i64 0,Value.slice none 0 0]) 88 (0,0))):=heap_alloc_new w2 _
      clear hB2
      refine aD (fun y:World=>y.cell? ⟨X,26,none⟩=some (.slice va vn vc)/\y.heap[X9]? = some (.cells #[.int .i64 0,.int .i64 0,.int .i64 0,.int .i64 0,.slice none 0 0] 88 (0,0))) 10 (by kernel_rfl) hS1 (fun hHeld=>?_)
      refine lC 0 ?_
      try simp only[Act.put,sP]
      refine lC 1 ?_
      try simp only[Act.put,sP]
      refine lC 2 ?_
      try simp only[Act.put,sP]
      refine lC 3 ?_
      try simp only[Act.put,sP]
      refine lC 4 ?_
      try simp only[Act.put,sP]
      refine tZ 5 rfl (by kernel_rfl) (by kernel_rfl) (by kernel_rfl) (by kernel_rfl) 88 _ rfl X9 #[.int .i64 0,.int .i64 0,.int .i64 0,.int .i64 0,.slice none 0 0] (fun _ _ _ h=>h) (by rfl) rfl 88 _ (fun y hy=>hy.2) Tryz.underlying88 rfl Tryz.info88 (by assumption) ?_
      try simp only[Act.put,sP]
      refine lo 6 fun K hK=>?_
      go_simp
      try dsimp only
      refine hK.out _ _ ⟨HXC.out _ HB3.out,HX93.out⟩ (fun hH2=>?_)
      clear hK
      try simp only[Act.put,sP]
      have hle3:w.heap.size<=(w2.alloc (.cells #[.int .i64 0,.int .i64 0,.int .i64 0,.int .i64 0,.slice none 0 0] 88)).drew.heap.size:=HK2.out.size
      have hsz3:wr.heap.size<=(w2.alloc (.cells #[.int .i64 0,.int .i64 0,.int .i64 0,.int .i64 0,.slice none 0 0] 88)).drew.heap.size:=HW2.out.size
      generalize hw4:(w2.alloc (.cells #[.int .i64 0,.int .i64 0,.int .i64 0,.int .i64 0,.slice none 0 0] 88)).drew=w4 at *
      clear hw4
      refine lo 7 fun K hK=>?_
      refine jC _ _ 36 88 rfl _ 5 _ Tryz.underlying36 pS rfl (by decide) (by decide) w.heap.size _ _ _ rfl HO2.out hle3 _ [Value.int .i64 0,Value.int .i64 0,Value.int .i64 0,Value.int .i64 0,Value.slice none 0 0] rfl rfl HNEW.out (by simp[Value.oneCell']) (by rw[HAL.out];omega) ?_
      intro v3 w5 ho3 hg3 hv3
      obtain⟨a3,n3,c7,rfl⟩:∃va vn vc,v3=.slice va vn vc:=by
       rcases ho3.2 with⟨rfl,_⟩ | ⟨g,cap,cur,rfl,_⟩
       ·exact⟨_,_,_,rfl⟩
       ·exact⟨_,_,_,rfl⟩
      have hlow:∀g o,g < w.heap.size->w4.heap[g]? = some o->w5.heap[g]? = some o:=fun g o hl hg=>(hg3.block g (Array.getElem?_eq_some_iff.1 hg).1 (fun q=>by have:=(HO2.out.lt _ q.symm).1;omega)).trans hg
      have hX5:=hlow X _ HZ.out.2.1 HB3.out
      have hX95:w5.heap[X9]? = some (.cells #[.int .i64 0,.int .i64 0,.int .i64 0,.int .i64 0,.slice none 0 0] 88 (0,0)):=(hg3.block X9 (Array.getElem?_eq_some_iff.1 HX93.out).1 (fun q=>by
       have q1:=(HOWN.out.lt _ q.symm).2
       have q2:=HL9.out
       omega)).trans HX93.out
      have hP5:=hlow w0.heap.size _ HZ.out.2.2 HP2.out
      have hE5:EyR w0 a cap l w5 none:=HE2.out.grown hg3 HO2.out HZ.out.2.2
      have hO5:(w5.setCell ⟨X,26,none⟩ (.slice a3 n3 c7)).ownsRow w.heap.size 88 5 (.slice a3 n3 c7) (AA.length+1) (bcv AA++[Value.int .i64 0,Value.int .i64 0,Value.int .i64 0,Value.int .i64 0,Value.slice none 0 0]):=gH ho3 (fun k hk=>by have:=(ho3.lt k hk).1;have:=HZ.out.2.1;show k≠X;omega)
      have HO6:Hid (((w5.setCell ⟨X,26,none⟩ (.slice a3 n3 c7)).setCell ⟨w0.heap.size,1,none⟩ (.int .i64 (I:Int))).ownsRow w.heap.size 88 5 (.slice a3 n3 c7) (AA.length+1) (bcv AA++[Value.int .i64 0,Value.int .i64 0,Value.int .i64 0,Value.int .i64 0,Value.slice none 0 0])):=gH hO5 (fun k hk=>by have:=(hO5.lt k hk).1;have:=HZ.out.2.2;show k≠w0.heap.size;omega)
      have hPX5:(w5.setCell ⟨X,26,none⟩ (.slice a3 n3 c7)).heap[w0.heap.size]? = some (.cells #[.slice a l.length cap,.int .i64 (I:Int),.bool true] 68 (0,0)):=(heap_setCell_other w5 ⟨X,26,none⟩ w0.heap.size _ (by have:=HZ.out.1;show w0.heap.size≠X;omega)).trans hP5
      have hE6:EyR w0 a cap l (w5.setCell ⟨X,26,none⟩ (.slice a3 n3 c7)) none:=hE5.off HZ.out.1
      have HE6:Hid (EyR w0 a cap l ((w5.setCell ⟨X,26,none⟩ (.slice a3 n3 c7)).setCell ⟨w0.heap.size,1,none⟩ (.int .i64 (I:Int))) none):=(hE6.moveN hI).1
      have HX6:Hid (((w5.setCell ⟨X,26,none⟩ (.slice a3 n3 c7)).setCell ⟨w0.heap.size,1,none⟩ (.int .i64 (I:Int))).heap[X]? = some (.cells (cs.setIfInBounds 26 (.slice a3 n3 c7)) 73 (0,0))):=by show _=_;rw[heap_setCell_other _ ⟨w0.heap.size,1,none⟩ X _ (by have:=HZ.out.1;show X≠w0.heap.size;omega),aH hX5];simp
      have HK6:Hid (KeepX w0.heap.size X w ((w5.setCell ⟨X,26,none⟩ (.slice a3 n3 c7)).setCell ⟨w0.heap.size,1,none⟩ (.int .i64 (I:Int)))):=(fR HK2.out HO2.out hg3 (Nat.le_refl _)).setX.b (KeepB.setCell _ _ _ _)
      have d1:=(aB hP5 1).1
      have d2:=(aB hP5 1).2
      have hne1:¬X=w0.heap.size:=by have:=HZ.out.1;omega
      have hne2:¬w0.heap.size=X:=by have:=HZ.out.1;omega
      obtain⟨⟨u9,c9⟩,f9⟩:=dI hX5 (by rw[Array.size_setIfInBounds];exact HCS.out) 26 (by omega)
      refine hK.out _ _ ⟨HXC.out _ hX5,hX95⟩ (fun hH3=>?_)
      clear hK ho3 hg3 hv3 hX5 hX95 hP5 hE5 hO5 hPX5 hE6 hle3 hsz3 hlow
      try simp only[Act.put,sP]
      refine lC 8 ?_
      try simp only[Act.put,sP]
      refine lC 9 ?_
      try simp only[Act.put,sP]
      refine ll 10 fun K hK=>?_
      go_simp
      try dsimp only
      refine hK.out _ _ ?_
      clear hK
      try simp only[Act.put,sP]
      go_wp2_with fail
      exact⟨⟨k+1,AA++[⟨⟨0,0,0,0,[]⟩,none,0⟩],none,_,by omega,by go_num,(by rw[List.length_append,HAL.out];rfl),fun q=>absurd q (by omega),fun _=>HRN.out,fun l5 e=>(by cases e),HX6.out,fun _=>(by rw[List.length_append,mN];exact HO6.out),HE6.out,HK6.out⟩,by simp[iof];omega⟩
  ·obtain rfl:k=n:=by omega
   have HRT:Hid (R.2=s/\(s≠none->R.1=AA.map (·.b)/\AllQ wr v AA/\Mid w.heap.size wr AA)):=by
    cases s with
    | none=>exact⟨hsn rfl,fun q=>absurd rfl q⟩
    | some ls=>obtain⟨e,q1,q2⟩:=hR ls rfl;rw[Nat.sub_self,dX] at e;rw[e];exact⟨rfl,fun _=>⟨rfl,q1,q2⟩⟩
   have HFIN:Hid (R.2≠none->∃a' c',v=.slice a' AA.length c'/\BRow wr a' AA/\(∀g,a'=some g->w.heap.size<=g.block)/\(AA=[]->a'=none/\c'=0)):=fun q=>by
    have hq:=(HRT.out.2 (fun e=>q (by rw[HRT.out.1,e]))).2
    by_cases h0:k=0
    ·have hv:=hv0 h0
     rw[HVN.out (fun e=>q (by rw[(HST.out e).1]))] at hv
     have:AA=[]:=List.eq_nil_of_length_eq_zero (by rw[HAL.out];exact h0)
     subst this
     exact⟨none,0,hv,⟨fun j hj=>(by cases hj),fun j hj=>(by cases hj)⟩,fun g hg=>(by cases hg),fun _=>⟨rfl,rfl⟩⟩
    ·have ho:=hown h0
     obtain⟨a',c',rfl,hs,_⟩:=mL ho
     exact⟨a',c',rfl,⟨hs,hq.1.allB⟩,fA ho,fun e=>absurd (by rw[<-HAL.out,e];rfl) h0⟩
   clear HC HG HBD HPB hR hsn hown hv0 HST HVN HV27 HBY hpx hpt
   go_wp2
   go_end0
   refine⟨_,⟨rfl,by rw[HRT.out.1];exact HEW.out,HBX.out,HKX.out⟩,HSZ.out,fun q=>?_⟩
   obtain⟨a',c',e1,e2,e3,e4⟩:=HFIN.out q
   obtain⟨e5,_,e6⟩:=HRT.out.2 (fun e=>q (by rw[HRT.out.1,e]))
   exact⟨a',c',AA,by rw[e1],e2,e5.symm,e3,fun s hs g hg=>(e6 s hs g hg).1,e4⟩
def bnn (b:Bd) (f:Nat):Int:=if f=7 then 0 else (b f).n
def gbx (k i:Int) (b:Bd) (p:Pt):Array Value:=gbc k i (fun f=>(b f).t) (bnn b) ((b 7).n == 1) (.slice p.ra (b 11).rs.length p.rc) (.slice p.ba p.bs.length p.bc) (.slice p.na (b 17).nm.length p.nc) (.slice p.ca (b 18).ct.length p.cc)
theorem aAw (k i:Int) (b:Bd) (p:Pt):(gbx k i b p).size=29:=bP _ _ _ _ _ _ _ _ _
structure GR (w:World) (X:Nat) (b:Bd) (p:Pt):Prop where
 rs:RRow w p.ra (b 11).rs
 nm:SRow w p.na (b 17).nm
 ct:IRow w p.ca (b 18).ct
 bs:BRow w p.ba p.bs
 bb:p.bs.map (·.b)=(b 19).bs
 l1:∀g,p.ra=some g->X < g.block
 l2:∀g,p.na=some g->X < g.block
 l3:∀g,p.ca=some g->X < g.block
 l4:∀g,p.ba=some g->X < g.block
 l5:∀s,s ∈ p.bs->∀g,s.a=some g->X < g.block
 n2:(b 17).nm=[]->p.na=none/\p.nc=0
 n3:(b 18).ct=[]->p.ca=none/\p.cc=0
 n4:p.bs=[]->p.ba=none/\p.bc=0
theorem BRow.keepG {w w':World} {a:Option Addr} {ss:List Bs} {X:Nat} (h:BRow w a ss) (l4:∀g,a=some g->X < g.block) (l5:∀s,s ∈ ss->∀g,s.a=some g->X < g.block) (hk:∀b,X < b->b < w.heap.size->w'.heap[b]? = w.heap[b]?):BRow w' a ss:=by
 refine⟨eT h.1 (fun i hi b off e=>hk b (l4 _ e) (h.1.lt hi e)),fun i hi=>?_⟩
 obtain⟨h1,h2⟩:=h.2 i hi
 have hm:ss.getD i bsz ∈ ss:=by rw[List.getD_eq_getElem?_getD,List.getElem?_eq_getElem hi];exact List.getElem_mem hi
 exact⟨bV h1 (fun j hj b off e=>hk b (l5 _ hm _ e) (h1.lt hj e)),h2⟩
theorem GR.keep {w w':World} {P X:Nat} {b:Bd} {p:Pt} (h:GR w X b p) (kx:KeepX P X w w') (hP:P < X):GR w' X b p:=by
 have hk:∀b,X < b->b < w.heap.size->w'.heap[b]? = w.heap[b]?:=fun b h1 h2=>kx.blk b (by omega) (by omega) h2
 exact⟨bV h.rs (fun i hi b off e=>hk b (h.l1 _ e) (h.rs.lt hi e)),dT h.nm (fun i hi b off e=>hk b (h.l2 _ e) (h.nm.lt hi e)),dU h.ct (fun i hi b off e=>hk b (h.l3 _ e) (h.ct.lt hi e)),h.bs.keepG h.l4 h.l5 hk,h.bb,h.l1,h.l2,h.l3,h.l4,h.l5,h.n2,h.n3,h.n4⟩
theorem GR.cong {w:World} {X:Nat} {b b':Bd} {p:Pt} (h:GR w X b p) (h1:b' 11=b 11) (h2:b' 17=b 17) (h3:b' 18=b 18) (h4:b' 19=b 19):GR w X b' p:=
 ⟨by rw[h1];exact h.rs,by rw[h2];exact h.nm,by rw[h3];exact h.ct,h.bs,by rw[h4];exact h.bb,h.l1,h.l2,h.l3,h.l4,h.l5,by rw[h2];exact h.n2,by rw[h3];exact h.n3,h.n4⟩
theorem GR.below {w w':World} {X:Nat} {b:Bd} {p:Pt} (h:GR w X b p) (hb:Below w.heap.size w w'):GR w' X b p:=
 ⟨h.rs.below hb,h.nm.below hb,h.ct.below hb,⟨h.bs.1.below hb,h.bs.2.below hb⟩,h.bb,h.l1,h.l2,h.l3,h.l4,h.l5,h.n2,h.n3,h.n4⟩
structure BagS (w:World) (X:Nat) (k i:Int) (st:Ls) (b:Bd):Prop where
 box:∃cs,cs.size=29/\w.heap[X]? = some (.cells cs 73 (0,0))/\(st≠none->∃p,cs=gbx k i b p/\GR w X b p)
theorem BagS.below {w w':World} {X:Nat} {k i:Int} {st:Ls} {b:Bd} (h:BagS w X k i st b) (hb:Below w.heap.size w w'):BagS w' X k i st b:=by
 obtain⟨cs,h1,h2,h3⟩:=h.box
 refine⟨cs,h1,(hb.block _ (Array.getElem?_eq_some_iff.1 h2).1).trans h2,fun q=>?_⟩
 obtain⟨p,e,g⟩:=h3 q
 exact⟨p,e,g.below hb⟩
theorem BagS.bad {w w':World} {P X:Nat} {k i:Int} {st:Ls} {b:Bd} (h:BagS w X k i st b) (kb:KeepB P w w') (hP:P < X):BagS w' X k i none b:=by
 obtain⟨cs,h1,h2,h3⟩:=h.box
 exact⟨cs,h1,kb.box h2 (by omega),fun q=>absurd rfl q⟩
theorem BagS.keepB {w w':World} {P X:Nat} {k i:Int} {st:Ls} {b:Bd} (h:BagS w X k i st b) (kb:KeepB P w w') (hP:P < X):BagS w' X k i st b:=by
 obtain⟨cs,h1,h2,h3⟩:=h.box
 refine⟨cs,h1,kb.box h2 (by omega),fun q=>?_⟩
 obtain⟨p,e,g⟩:=h3 q
 exact⟨p,e,g.keep (KeepX.of kb) hP⟩
theorem cS (b:Bd) (f:Nat) (v:Fv):setB b f v f=v:=by simp[setB]
theorem aG {b:Bd} {f g:Nat} (v:Fv) (h:g≠f):setB b f v g=b g:=by simp[setB,h]
theorem xY (k i:Int) (b:Bd) (p:Pt) (f:Nat) (x:ByteArray) (hf:f < 2) (hb:b f=fz):(gbx k i b p).setIfInBounds (2+f) (.string x)=gbx k i (setB b f (vt x)) p:=by
 unfold gbx
 rw[aAx _ _ _ _ _ _ _ _ _ f _ hf,aG _ (show 7≠f by omega),aG _ (show 11≠f by omega),aG _ (show 17≠f by omega),aG _ (show 18≠f by omega)]
 refine fT (fun g hg=>?_) (fun g hg=>?_)
 ·by_cases e:g=f
  ·subst e;simp[cS,vt]
  ·simp[e,aG _ e]
 ·unfold bnn
  by_cases e:g=f
  ·subst e;simp[cS,vt,hb,fz]
  ·simp[aG _ e]
theorem aC4 (k i:Int) (b:Bd) (p:Pt) (f:Nat) (x:Int) (hf:f < 20) (hk:kd f=0):(gbx k i b p).setIfInBounds (4+f) (.int .i64 x)=gbx k i (setB b f (vn x)) p:=by
 have n:7≠f/\11≠f/\17≠f/\18≠f/\0≠f/\1≠f:=by refine⟨?_,?_,?_,?_,?_,?_⟩<;>(rintro rfl;exact absurd hk (by decide))
 unfold gbx
 rw[aAz _ _ _ _ _ _ _ _ _ f _ hf,aG _ n.1,aG _ n.2.1,aG _ n.2.2.1,aG _ n.2.2.2.1]
 refine fT (fun g hg=>?_) (fun g hg=>?_)
 ·rw[aG _ (show g≠f by omega)]
 ·unfold bnn
  by_cases e:g=f
  ·subst e;simp[cS,vn,Ne.symm n.1]
  ·simp[e,aG _ e]
theorem zZ (k i:Int) (b:Bd) (p:Pt) (x:Int):(gbx k i b p).setIfInBounds 24 (.bool (x == 1))=gbx k i (setB b 7 (vn x)) p:=by
 unfold gbx
 rw[aAf,cS,aG _ (show 11≠7 by decide),aG _ (show 17≠7 by decide),aG _ (show 18≠7 by decide)]
 refine fT (fun g hg=>?_) (fun g hg=>?_)
 ·rw[aG _ (show g≠7 by omega)]
 ·unfold bnn
  by_cases e:g=7
  ·simp[e]
  ·simp[e,aG _ e]
theorem lS (b:Bd) (f:Nat) (v:Fv) (hf:f=11∨f=17∨f=18∨f=19) (hv:v.n=0) (hb:b f=fz):(∀g,g < 2->(b g).t=(setB b f v g).t)/\(∀g,g < 20->bnn b g=bnn (setB b f v) g)/\setB b f v 7=b 7:=by
 refine⟨fun g hg=>?_,fun g hg=>?_,aG _ (by omega)⟩
 ·rw[aG _ (show g≠f by omega)]
 ·unfold bnn
  by_cases e:g=f
  ·subst e;simp[cS,hv,hb,fz]
  ·simp[aG _ e]
structure FdP (w0:World) (a:Option Addr) (cap:Nat) (l:List Nat) (w:World) (X:Nat) (k i:Int) (b:Bd) (st:Ls) (e:Ending) (w':World):Prop where
 ret:e=.returned (.tuple #[])
 ey:EyR w0 a cap l w' st
 bag:BagS w' X k i st b
 keep:KeepX w0.heap.size X w w'
theorem jL (f:Nat) (st:Ls) (h:(gK (kd f) st).2≠none):st≠none:=by
 rintro rfl
 apply h
 unfold gK
 repeat' split
 all_goals rfl
theorem nD (w0 w:World) (a:Option Addr) (cap:Nat) (l:List Nat) (st:Ls) (C:EyC w0 a cap l) (ht:Tab w0) (X:Nat) (k i:Int) (b:Bd) (f:Nat) (hf:f < 20) (hb:b f=fz) (hX:w0.heap.size < X) (hB:BagS w X k i st b) (h:EyR w0 a cap l w st) :
 Calls Tryz.prog 24 #[(.pointer (some ⟨w0.heap.size,0,none⟩)),.agg #[.int .i64 (wh f),.int .i64 (f:Int)],(.pointer (some ⟨X,0,none⟩))] w (FdP w0 a cap l w X k i (setB b f (gK (kd f) st).1) (gK (kd f) st).2):=by
 obtain⟨cs,hcs,hx,hg⟩:=hB.box
 have hXw:X < w.heap.size:=(Array.getElem?_eq_some_iff.1 hx).1
 rcases(show f < 2∨f=7∨f=11∨f=17∨f=18∨f=19∨(2<=f/\f≠7/\f≠11/\f < 17) by omega) with q | rfl | rfl | rfl | rfl | rfl | q
 ·have e1:kd f=2:=by unfold kd;rw[if_pos (by omega)]
  have e2:wh f=1:=by unfold wh;rw[e1];rfl
  have e3:gK (kd f) st=(vt (gT st).1,(gT st).2):=by rw[e1];rfl
  have e4:=jL f st
  rw[e3] at e4 ⊢
  rw[e2]
  refine Calls.mono (aC5 w0 w a cap l st f q C X cs hcs hX hx h) ?_
  rintro e w' ⟨r,ey,bx,kp⟩
  refine⟨r,ey,⟨_,by rw[Array.size_setIfInBounds];exact hcs,bx,fun q2=>?_⟩,kp⟩
  obtain⟨p,rfl,g⟩:=hg (e4 q2)
  exact⟨p,xY k i b p f _ q hb,(g.keep kp hX).cong (aG _ (by omega)) (aG _ (by omega)) (aG _ (by omega)) (aG _ (by omega))⟩
 ·have e4:=jL 7 st
  have e3:gK (kd 7) st=(vn (gFlag st).1,(gFlag st).2):=rfl
  rw[e3] at e4 ⊢
  refine Calls.mono (aBn w0 w a cap l st C X cs hcs hX hx h) ?_
  rintro e w' ⟨c,⟨r,ey,bx,kp⟩,hc⟩
  refine⟨r,ey,⟨_,by rw[Array.size_setIfInBounds];exact hcs,bx,fun q2=>?_⟩,kp⟩
  obtain⟨p,rfl,g⟩:=hg (e4 q2)
  rw[hc q2]
  exact⟨p,zZ k i b p _,(g.keep kp hX).cong (aG _ (by decide)) (aG _ (by decide)) (aG _ (by decide)) (aG _ (by decide))⟩
 ·have e4:=jL 11 st
  have e3:gK (kd 11) st=(vr' (gRow gRec st).1,(gRow gRec st).2):=rfl
  rw[e3] at e4 ⊢
  refine Calls.mono (aD3 w0 w a cap l st C X cs hcs hX hx h) ?_
  rintro e w' ⟨a',c',A,⟨r,ey,bx,kp⟩,hr,hnw,hA⟩
  refine⟨r,ey,⟨_,by rw[Array.size_setIfInBounds];exact hcs,bx,fun q2=>?_⟩,kp⟩
  obtain⟨p,rfl,g⟩:=hg (e4 q2)
  have g':=g.keep kp hX
  obtain rfl:=hA q2
  obtain⟨t1,t2,t3⟩:=lS b 11 (vr' (gRow gRec st).1) (.inl rfl) rfl hb
  refine⟨⟨a',c',p.na,p.nc,p.ca,p.cc,p.ba,p.bc,p.bs⟩,?_,⟨by rw[cS];exact hr,by rw[aG _ (by decide)];exact g'.nm,by rw[aG _ (by decide)];exact g'.ct,g'.bs,by rw[aG _ (by decide)];exact g'.bb,fun gg hg=>by have:=hnw gg hg;omega,g'.l2,g'.l3,g'.l4,g'.l5,by rw[aG _ (by decide)];exact g'.n2,by rw[aG _ (by decide)];exact g'.n3,g'.n4⟩⟩
  unfold gbx
  rw[yW,t3,cS,aG _ (show 17≠11 by decide),aG _ (show 18≠11 by decide)]
  exact fT t1 t2
 ·have e4:=jL 17 st
  have e3:gK (kd 17) st=(vm (gRow gT st).1,(gRow gT st).2):=rfl
  rw[e3] at e4 ⊢
  refine Calls.mono (aBb w0 w a cap l st C X cs hcs (fun q=>?_) hX hx h) ?_
  ·obtain⟨p,rfl,g⟩:=hg q
   have:=g.n2 (by rw[hb];rfl)
   show(gbx k i b p)[27]? = _
   unfold gbx
   rw[(fU ..).2.2.2.1,this.1,this.2,hb];rfl
  rintro e w' ⟨CS,⟨r,ey,bx,kp⟩,hs,hA⟩
  refine⟨r,ey,⟨_,hs,bx,fun q2=>?_⟩,kp⟩
  obtain⟨p,rfl,g⟩:=hg (e4 q2)
  obtain⟨a',c',rfl,hr,hnw,hnil⟩:=hA q2
  have g':=g.keep kp hX
  obtain⟨t1,t2,t3⟩:=lS b 17 (vm (gRow gT st).1) (.inr (.inl rfl)) rfl hb
  refine⟨⟨p.ra,p.rc,a',c',p.ca,p.cc,p.ba,p.bc,p.bs⟩,?_,⟨by rw[aG _ (by decide)];exact g'.rs,by rw[cS];exact hr,by rw[aG _ (by decide)];exact g'.ct,g'.bs,by rw[aG _ (by decide)];exact g'.bb,g'.l1,fun gg hg=>by have:=hnw gg hg;omega,g'.l3,g'.l4,g'.l5,by rw[cS];exact hnil,by rw[aG _ (by decide)];exact g'.n3,g'.n4⟩⟩
  unfold gbx
  rw[t3,cS,aG _ (show 11≠17 by decide),aG _ (show 18≠17 by decide)]
  exact(show(gbc k i _ _ _ _ _ _ _).setIfInBounds 27 _=gbc k i _ _ _ _ _ _ _ from rfl).trans (fT t1 t2)
 ·have e4:=jL 18 st
  have e3:gK (kd 18) st=(vc (gRow gI st).1,(gRow gI st).2):=rfl
  rw[e3] at e4 ⊢
  refine Calls.mono (wS w0 w a cap l st C X cs hcs (fun q=>?_) hX hx h) ?_
  ·obtain⟨p,rfl,g⟩:=hg q
   have:=g.n3 (by rw[hb];rfl)
   show(gbx k i b p)[28]? = _
   unfold gbx
   rw[(fU ..).2.2.2.2,this.1,this.2,hb];rfl
  rintro e w' ⟨CS,⟨r,ey,bx,kp⟩,hs,hA⟩
  refine⟨r,ey,⟨_,hs,bx,fun q2=>?_⟩,kp⟩
  obtain⟨p,rfl,g⟩:=hg (e4 q2)
  obtain⟨a',c',rfl,hr,hnw,hnil⟩:=hA q2
  have g':=g.keep kp hX
  obtain⟨t1,t2,t3⟩:=lS b 18 (vc (gRow gI st).1) (.inr (.inr (.inl rfl))) rfl hb
  refine⟨⟨p.ra,p.rc,p.na,p.nc,a',c',p.ba,p.bc,p.bs⟩,?_,⟨by rw[aG _ (by decide)];exact g'.rs,by rw[aG _ (by decide)];exact g'.nm,by rw[cS];exact hr,g'.bs,by rw[aG _ (by decide)];exact g'.bb,g'.l1,g'.l2,fun gg hg=>by have:=hnw gg hg;omega,g'.l4,g'.l5,by rw[aG _ (by decide)];exact g'.n2,by rw[cS];exact hnil,g'.n4⟩⟩
  unfold gbx
  rw[t3,cS,aG _ (show 11≠18 by decide),aG _ (show 17≠18 by decide)]
  exact(show(gbc k i _ _ _ _ _ _ _).setIfInBounds 28 _=gbc k i _ _ _ _ _ _ _ from rfl).trans (fT t1 t2)
 ·have e4:=jL 19 st
  have e3:gK (kd 19) st=(vb (gRow gBat st).1,(gRow gBat st).2):=rfl
  rw[e3] at e4 ⊢
  refine Calls.mono (aBi w0 w a cap l st C ht X cs hcs (fun q=>?_) hX hx h) ?_
  ·obtain⟨p,rfl,g⟩:=hg q
   have hbs:p.bs=[]:=by have:=g.bb;rw[hb] at this;exact List.map_eq_nil_iff.1 this
   have:=g.n4 hbs
   show(gbx k i b p)[26]? = _
   unfold gbx
   rw[(fU ..).2.2.1,this.1,this.2,hbs];rfl
  rintro e w' ⟨CS,⟨r,ey,bx,kp⟩,hs,hA⟩
  refine⟨r,ey,⟨_,hs,bx,fun q2=>?_⟩,kp⟩
  obtain⟨p,rfl,g⟩:=hg (e4 q2)
  obtain⟨a',c',ss,rfl,hr,hbb,hnw,hnw2,hnil⟩:=hA q2
  have g':=g.keep kp hX
  obtain⟨t1,t2,t3⟩:=lS b 19 (vb (gRow gBat st).1) (.inr (.inr (.inr rfl))) rfl hb
  refine⟨⟨p.ra,p.rc,p.na,p.nc,p.ca,p.cc,a',c',ss⟩,?_,⟨by rw[aG _ (by decide)];exact g'.rs,by rw[aG _ (by decide)];exact g'.nm,by rw[aG _ (by decide)];exact g'.ct,hr,by rw[cS];exact hbb,g'.l1,g'.l2,g'.l3,fun gg hg=>by have:=hnw gg hg;omega,fun s hs gg hg=>by have:=hnw2 s hs gg hg;omega,by rw[aG _ (by decide)];exact g'.n2,by rw[aG _ (by decide)];exact g'.n3,hnil⟩⟩
  unfold gbx
  rw[t3,aG _ (show 11≠19 by decide),aG _ (show 17≠19 by decide),aG _ (show 18≠19 by decide)]
  exact(show(gbc k i _ _ _ _ _ _ _).setIfInBounds 26 _=gbc k i _ _ _ _ _ _ _ from rfl).trans (fT t1 t2)
 ·have e1:kd f=0:=by unfold kd;rw[if_neg (by omega),if_neg (by omega),if_neg (by omega),if_neg (by omega),if_neg (by omega),if_neg (by omega)]
  have e2:wh f=2:=by unfold wh;rw[e1];rfl
  have e3:gK (kd f) st=(vn (gI st).1,(gI st).2):=by rw[e1];rfl
  have e4:=jL f st
  rw[e3] at e4 ⊢
  rw[e2]
  refine Calls.mono (aGz w0 w a cap l st f hf C X cs hcs hX hx h) ?_
  rintro e w' ⟨r,ey,bx,kp⟩
  refine⟨r,ey,⟨_,by rw[Array.size_setIfInBounds];exact hcs,bx,fun q2=>?_⟩,kp⟩
  obtain⟨p,rfl,g⟩:=hg (e4 q2)
  exact⟨p,aC4 k i b p f _ hf e1,(g.keep kp hX).cong (aG _ (by omega)) (aG _ (by omega)) (aG _ (by omega)) (aG _ (by omega))⟩
theorem EncP.none {w w':World} {e:Ending} (h:EncP none w e w'):e=.returned (.tuple #[.slice none 0 0,.int .i64 1])/\Below w.heap.size w w':=by
 obtain⟨⟨v,z,rfl,_,hv⟩,hb⟩:=h
 obtain⟨rfl,rfl⟩:=hv rfl
 exact⟨rfl,hb⟩
structure BOk (w:World) (a:Option Addr) (c:Nat) (L:List Nat):Prop where
 row:Row w a L
 len:L.length<=c
 cap:c<=maxLen
 nil:a=none->c=0
 big:L.length<=1000000000000
structure BxW (w:World) (t:TypeId) (cs:Array Value) (x:World):Prop where
 box:x.heap[w.heap.size]? = some (.cells cs t (0,0))
 bel:Below w.heap.size w x
theorem BxW.new (w:World) (t:TypeId) (cs:Array Value):BxW w t cs (w.alloc (.cells cs t)):=⟨heap_alloc_new w _,aA _⟩
theorem BxW.below {w x y:World} {t:TypeId} {cs:Array Value} (h:BxW w t cs x) (hb:Below x.heap.size x y):BxW w t cs y:=
 ⟨(hb.block _ (Array.getElem?_eq_some_iff.1 h.box).1).trans h.box,h.bel.trans (hb.mono h.bel.size)⟩
theorem tQ {b:Bd}:∀{r:List Nat} {L:List Nat} {f:Nat},eFs b r=some L->f ∈ r->∃A,eK (kd f) (b f)=some A
 | g::r,L,f,h,hf=>by
  obtain⟨A,C,h1,h2,_⟩:=cB h
  rcases List.mem_cons.1 hf with rfl | q
  ·exact⟨A,h1⟩
  ·exact tQ h2 q
theorem yY {α:Type} {en:α->Ls}:∀{l:List α} {L:List Nat} {x:α},eL en l=some L->x ∈ l->∃A,en x=some A
 | y::r,L,x,h,hx=>by
  obtain⟨A,C,h1,h2,_⟩:=cB h
  rcases List.mem_cons.1 hx with rfl | q
  ·exact⟨A,h1⟩
  ·exact yY h2 q
theorem gE {α:Type} {en:α->Ls} {l:List α} {L:List Nat} (h:eRow en l=some L):l.length<=65535/\∀x,x ∈ l->∃A,en x=some A:=by
 unfold eRow at h
 split at h
 ·rename_i hl
  obtain⟨A,C,h1,h2,_⟩:=cB h
  exact⟨hl,fun x hx=>yY h2 hx⟩
 ·cases h
theorem lK {s:ByteArray} {L:List Nat} (h:eText s=some L):s.size<=65535:=by
 unfold eText at h
 split at h
 ·assumption
 ·cases h
theorem uG {c:Bool} {s:ByteArray} {L:List Nat} (h:eIf c s=some L) (h0:(c || decide (s.size=0))=true):s.size<=65535:=by
 unfold eIf at h
 cases c with
 | true=>exact lK (by simpa using h)
 | false=>simp only[Bool.false_or,decide_eq_true_eq] at h0;omega
theorem yF {r:Rc} {L:List Nat} (h:eRec r=some L):r.k.size<=65535/\r.v.size<=65535:=by
 unfold eRec at h
 split at h
 ·rename_i hok
  simp only[okR,Bool.and_eq_true] at hok
  obtain⟨A,C,_,h2,_⟩:=cB h
  obtain⟨A2,C2,h3,h4,_⟩:=cB h2
  obtain⟨A3,C3,h5,_,_⟩:=cB h4
  exact⟨uG h3 hok.1.2,uG h5 hok.2⟩
 ·cases h
structure Fit (b:Bd):Prop where
 t:∀f,(b f).t.size<=65535
 r:(b 11).rs.length<=65535
 re:∀x,x ∈ (b 11).rs->x.k.size<=65535/\x.v.size<=65535
 n:(b 17).nm.length<=65535
 ne:∀x,x ∈ (b 17).nm->x.size<=65535
 c:(b 18).ct.length<=65535
 s:(b 19).bs.length<=65535
theorem zH {b:Bd} {r:List Nat} {L:List Nat} (hb:VB b) (hm:moreB b r=false) (he:eFs b r=some L):Fit b:=by
 have hz:=pG hb hm
 have z0:(⟨#[]⟩:ByteArray).size<=65535:=Nat.zero_le _
 have key:∀f,b f=fz∨∃A,eK (kd f) (b f)=some A:=fun f=>by
  by_cases hf:f ∈ r
  ·exact .inr (tQ he hf)
  ·exact .inl (hz f hf)
 have tx:∀f,kd f=2->(b f).t.size<=65535:=fun f hf=>by
  rcases key f with e | ⟨A,e⟩
  ·rw[e];exact z0
  ·rw[hf] at e;exact lK (show eText (b f).t=some A from e)
 obtain⟨_,_,_,_,_,_,pt⟩:=hb.parts
 refine⟨fun f=>?_,?_,?_,?_,?_,?_,?_⟩
 ·by_cases h2:2<=f
  ·rw[pt f h2];exact z0
  ·exact tx f (by unfold kd;rw[if_pos (by omega)])
 ·rcases key 11 with e | ⟨A,e⟩
  ·rw[e];exact Nat.zero_le _
  ·exact(gE (show eRow eRec (b 11).rs=some A from e)).1
 ·rcases key 11 with e | ⟨A,e⟩
  ·rw[e];intro x hx;cases hx
  ·intro x hx
   obtain⟨C,hC⟩:=(gE (show eRow eRec (b 11).rs=some A from e)).2 x hx
   exact yF hC
 ·rcases key 17 with e | ⟨A,e⟩
  ·rw[e];exact Nat.zero_le _
  ·exact(gE (show eRow eText (b 17).nm=some A from e)).1
 ·rcases key 17 with e | ⟨A,e⟩
  ·rw[e];intro x hx;cases hx
  ·intro x hx
   obtain⟨C,hC⟩:=(gE (show eRow eText (b 17).nm=some A from e)).2 x hx
   exact lK hC
 ·rcases key 18 with e | ⟨A,e⟩
  ·rw[e];exact Nat.zero_le _
  ·exact(gE (show eRow (fun x=>some (eInt x)) (b 18).ct=some A from e)).1
 ·rcases key 19 with e | ⟨A,e⟩
  ·rw[e];exact Nat.zero_le _
  ·exact(gE (show eRow eBat (b 19).bs=some A from e)).1
theorem jR {n:Nat} {v:Int} {L:List Nat} (hn:n<=4) (h:eNat n v=some L):In64 v:=by
 unfold eNat at h
 split at h
 ·rename_i hv
  have h4:256 ^ n<=256 ^ 4:=Nat.pow_le_pow_right (by decide) hn
  have h5:(256:Nat) ^ 4=4294967296:=by decide
  obtain⟨q1,q2⟩:=hv
  unfold In64
  omega
 ·cases h
theorem aA4 {k:Int} {r:List Nat} (h:rowQ k=some r):∀f,15<=f->f ∉ r:=by
 unfold rowQ at h
 repeat' split at h
 all_goals first | (simp only[Option.some.injEq] at h;subst h;intro f hf hm;simp at hm;omega) | (simp only[Option.some.injEq] at h;subst h;intro f hf hm;cases hm) | cases h
theorem vR {k:Int} {r:List Nat} (h:rowA k=some r):∀f,f<=14->f≠12->f ∉ r:=by
 unfold rowA at h
 repeat' split at h
 all_goals first | (simp only[Option.some.injEq] at h;subst h;intro f hf hg hm;simp at hm;omega) | (simp only[Option.some.injEq] at h;subst h;intro f hf hg hm;cases hm) | cases h
theorem tM {k c:Int} {r:List Nat} (h:ansRow k c=some r):∀f,f<=14->f≠12->f ∉ r:=by
 unfold ansRow at h
 split at h
 ·split at h
  ·cases h
  ·exact vR h
 ·cases hr:rowA k with
  | none=>rw[hr] at h;cases h
  | some q=>rw[hr] at h;simp at h;subst h;intro f _ _ hm;cases hm
theorem aC8 {k i:Int} {b:Bd} {L:List Nat} (hb:VB b) (h:reqE k i b=some L):Fit b/\In64 k/\In64 i/\RqB b ((b 7).n == 1):=by
 unfold reqE msgE at h
 cases hr:rowQ k with
 | none=>rw[hr] at h;cases h
 | some r=>
  rw[hr] at h
  simp only at h
  split at h
  ·cases h
  ·rename_i hm
   simp only[Bool.not_eq_true] at hm
   obtain⟨A,C,h1,h2,rfl⟩:=cB h
   obtain⟨A1,A2,h3,h4,rfl⟩:=cB h1
   obtain⟨A3,A4,h5,h6,rfl⟩:=cB h4
   have z:=fun f hf=>pG hb hm f (aA4 hr f hf)
   refine⟨zH hb hm h2,jR (by decide) h3,jR (by decide) h5,⟨hb,?_,z 15 (by decide),z 16 (by decide),z 17 (by decide),z 18 (by decide),z 19 (by decide)⟩⟩
   have h7:(b 7).n=0∨(b 7).n=1:=(hb.1 7 (by decide)).2
   rcases h7 with e | e<;>rw[e]<;>rfl
theorem aD6 {k i d:Int} {b:Bd} {L:List Nat} (hb:VB b) (h:resE k i d b=some L):Fit b/\In64 k/\In64 i/\In64 d/\∀f,f<=14->f≠12->b f=fz:=by
 unfold resE msgE at h
 cases hr:ansRow k d with
 | none=>rw[hr] at h;cases h
 | some r=>
  rw[hr] at h
  simp only at h
  split at h
  ·cases h
  ·rename_i hm
   simp only[Bool.not_eq_true] at hm
   obtain⟨A,C,h1,h2,rfl⟩:=cB h
   obtain⟨A1,A2,h3,h4,rfl⟩:=cB h1
   obtain⟨A3,A4,h5,h6,rfl⟩:=cB h4
   obtain⟨A5,A6,h7,h8,rfl⟩:=cB h6
   exact⟨zH hb hm h2,jR (by decide) h3,jR (by decide) h5,jR (by decide) h7,fun f h1 h2=>pG hb hm f (tM hr f h1 h2)⟩
def QVal (w:World) (cs:Array Value) (k i:Int) (b:Bd):Prop:=∃ra rc,cs=rqc k i b ((b 7).n == 1) ra rc/\RRow w ra (b 11).rs
theorem QVal.below {w w':World} {cs:Array Value} {k i:Int} {b:Bd} (h:QVal w cs k i b) (hb:Below w.heap.size w w'):QVal w' cs k i b:=by
 obtain⟨ra,rc,e,r⟩:=h
 exact⟨ra,rc,e,r.below hb⟩
theorem QVal.size {w:World} {cs:Array Value} {k i:Int} {b:Bd} (h:QVal w cs k i b):cs.size=17:=by
 obtain⟨ra,rc,rfl,r⟩:=h;rfl
theorem QVal.one {w:World} {cs:Array Value} {k i:Int} {b:Bd} (h:QVal w cs k i b):cs.all (·.oneCell')=true:=by
 obtain⟨ra,rc,rfl,r⟩:=h;simp[rqc,Value.oneCell']
structure SRows (w:World) (b:Bd) (p:Pt):Prop where
 z:p.ra=none/\p.rc=0
 nm:SRow w p.na (b 17).nm
 ct:IRow w p.ca (b 18).ct
 bs:BRow w p.ba p.bs
 bb:p.bs.map (·.b)=(b 19).bs
theorem SRows.below {w w':World} {b:Bd} {p:Pt} (h:SRows w b p) (hb:Below w.heap.size w w'):SRows w' b p:=
 ⟨h.z,h.nm.below hb,h.ct.below hb,⟨h.bs.1.below hb,h.bs.2.below hb⟩,h.bb⟩
def SVal (w:World) (cs:Array Value) (k i d:Int) (b:Bd):Prop:=∃p,cs=rsc k i d b p/\SRows w b p
theorem SVal.below {w w':World} {cs:Array Value} {k i d:Int} {b:Bd} (h:SVal w cs k i d b) (hb:Below w.heap.size w w'):SVal w' cs k i d b:=by
 obtain⟨p,e,r⟩:=h
 exact⟨p,e,r.below hb⟩
theorem SVal.size {w:World} {cs:Array Value} {k i d:Int} {b:Bd} (h:SVal w cs k i d b):cs.size=9:=by
 obtain⟨p,rfl,r⟩:=h;rfl
theorem SVal.one {w:World} {cs:Array Value} {k i d:Int} {b:Bd} (h:SVal w cs k i d b):cs.all (·.oneCell')=true:=by
 obtain⟨p,rfl,r⟩:=h;simp[rsc,Value.oneCell']
theorem sO (w:World) (a:Option Addr) (cap:Nat) (l:List Nat) (ht:Tab w) (hr:BOk w a cap l) {k i:Int} {b:Bd} (h:reqP l=some (k,i,b)) :
 Calls Tryz.prog 6 #[.slice a l.length cap] w fun e w'=>(∃cs,e=.returned (.tuple #[.agg cs,.int .i64 0])/\QVal w' cs k i b)/\Below w.heap.size w w':=by
 have q:=jK w a cap l ht hr.row hr.len hr.cap hr.nil hr.big
 rw[h] at q
 refine Calls.mono q ?_
 rintro e w' ⟨hb,_,h2⟩
 obtain⟨p,X,_,e1,hx⟩:=h2 _ _ _ rfl
 exact⟨⟨_,e1,p.ra,p.rc,rfl,hx.rs⟩,hb⟩
theorem wD (w:World) (a:Option Addr) (cap:Nat) (l:List Nat) (ht:Tab w) (hr:BOk w a cap l) (h:reqP l=none) :
 Calls Tryz.prog 6 #[.slice a l.length cap] w fun e w'=>e=.returned (.tuple #[.agg z26,.int .i64 13])/\Below w.heap.size w w':=by
 have q:=jK w a cap l ht hr.row hr.len hr.cap hr.nil hr.big
 rw[h] at q
 refine Calls.mono q ?_
 rintro e w' ⟨hb,h1,_⟩
 exact⟨h1 rfl,hb⟩
theorem sL (w:World) (a:Option Addr) (cap:Nat) (l:List Nat) (ht:Tab w) (hr:BOk w a cap l) {k i d:Int} {b:Bd} (h:resP l=some (k,i,d,b)) :
 Calls Tryz.prog 8 #[.slice a l.length cap] w fun e w'=>(∃cs,e=.returned (.tuple #[.agg cs,.int .i64 0])/\SVal w' cs k i d b)/\Below w.heap.size w w':=by
 have q:=mM w a cap l ht hr.row hr.len hr.cap hr.nil hr.big
 rw[h] at q
 refine Calls.mono q ?_
 rintro e w' ⟨hb,_,h2⟩
 obtain⟨p,X,_,e1,hx⟩:=h2 _ _ _ _ rfl
 exact⟨⟨_,e1,⟨none,0,p.na,p.nc,p.ca,p.cc,p.ba,p.bc,p.bs⟩,rfl,⟨rfl,rfl⟩,hx.nm,hx.ct,hx.bs,hx.bb⟩,hb⟩
theorem vO (w:World) (a:Option Addr) (cap:Nat) (l:List Nat) (ht:Tab w) (hr:BOk w a cap l) (h:resP l=none) :
 Calls Tryz.prog 8 #[.slice a l.length cap] w fun e w'=>e=.returned (.tuple #[.agg z40,.int .i64 13])/\Below w.heap.size w w':=by
 have q:=mM w a cap l ht hr.row hr.len hr.cap hr.nil hr.big
 rw[h] at q
 refine Calls.mono q ?_
 rintro e w' ⟨hb,h1,_⟩
 exact⟨h1 rfl,hb⟩
theorem SRows.ok {w:World} {b:Bd} {p:Pt} (hr:SRows w b p) (ht:Tab w) (hz:∀f,f<=14->f≠12->b f=fz) (hb:VB b) (h1:(b 17).nm.length<=100000) (h2:(b 18).ct.length<=100000) (h3:(b 19).bs.length<=100000) (h4:∀x,x ∈ (b 17).nm->x.size<=9223372036854775807):BdOk w b p:=by
 have z11:(b 11).rs=[]:=by rw[hz 11 (by decide) (by decide)];rfl
 obtain⟨_,_,_,_,_,_,pt⟩:=hb.parts
 refine⟨ht,?_,hr.nm,hr.ct,hr.bs,hr.bb,?_,h1,h2,?_,?_,fun j hj=>?_,fun f=>?_,?_⟩
 ·intro i hi;rw[z11] at hi;cases hi
 ·rw[z11];decide
 ·have:=congrArg List.length hr.bb;rw[List.length_map] at this;omega
 ·intro i hi;rw[z11] at hi;cases hi
 ·have hm:(b 17).nm.getD j ⟨#[]⟩ ∈ (b 17).nm:=by rw[List.getD_eq_getElem?_getD,List.getElem?_eq_getElem hj];exact List.getElem_mem hj
  exact h4 _ hm
 ·by_cases h2:2<=f
  ·rw[pt f h2];decide
  ·rw[hz f (by omega) (by omega)];decide
 ·rw[hz 7 (by decide) (by decide)];unfold In64;decide
def rqx (k i:Int) (T:Nat->ByteArray) (M:Nat->Int) (c:Bool) (ra:Option Addr) (n rc:Nat):Array Value:=#[.int .i64 k,.int .i64 i,.string (T 0),.int .i64 (M 2),.int .i64 (M 3),.int .i64 (M 4),.int .i64 (M 5),.int .i64 (M 6),.bool c,.int .i64 (M 8),.int .i64 (M 9),.int .i64 (M 10),.slice ra n rc,.int .i64 (M 12),.int .i64 (M 13),.int .i64 (M 14),.string (T 1)]
theorem aBv (k i:Int) (T:Nat->ByteArray) (M:Nat->Int) (c:Bool) (ra:Option Addr) (n rc:Nat):(rqx k i T M c ra n rc).all (·.oneCell')=true:=by simp[rqx,Value.oneCell']
theorem eY (x:World):(Instr.alloc 28 true (.tuple #[])).run Tryz.prog x=.ok (.pointer (some ⟨x.heap.size,0,none⟩)) (x.alloc (.cells z26 28)):=by
 go_simp
 rfl
theorem rK (k i:Int) (T:Nat->ByteArray) (M:Nat->Int) (c:Bool) (ra:Option Addr) (n rc:Nat) (x:World):(Instr.build 28 #[(0,.int .i64 k),(1,.int .i64 i),(2,.string (T 0)),(12,.string (T 1)),(3,.int .i64 (M 2)),(4,.int .i64 (M 3)),(5,.agg #[.int .i64 (M 4),.int .i64 (M 5),.int .i64 (M 6),.bool c,.int .i64 (M 8)]),(6,.int .i64 (M 9)),(7,.int .i64 (M 10)),(8,.slice ra n rc),(9,.int .i64 (M 12)),(10,.int .i64 (M 13)),(11,.int .i64 (M 14))]).run Tryz.prog x=.ok (.agg (rqx k i T M c ra n rc)) x:=by
 refine run_build (P:=Tryz.prog) x 28 _ _ ?_
 unfold rqx
 generalize T 0=a0
 generalize T 1=a1
 generalize M 2=m2
 generalize M 3=m3
 generalize M 4=m4
 generalize M 5=m5
 generalize M 6=m6
 generalize M 8=m8
 generalize M 9=m9
 generalize M 10=m10
 generalize M 12=m12
 generalize M 13=m13
 generalize M 14=m14
 kernel_rfl
theorem wP (k i:Int) (T:Nat->ByteArray) (M:Nat->Int) (c:Bool) (ra:Option Addr) (n rc:Nat) (s1 s2 s3:Value) (w:World) :
 Calls Tryz.prog 25 #[.agg (gbc k i T M c (.slice ra n rc) s1 s2 s3)] w fun e w'=>e=.returned (.agg (rqx k i T M c ra n rc))/\Below w.heap.size w w':=by
 have KA:Hid (∀x:World,(Instr.alloc 28 true (.tuple #[])).run Tryz.prog x=.ok (.pointer (some ⟨x.heap.size,0,none⟩)) (x.alloc (.cells z26 28))):=eY
 have KB:Hid (∀x:World,(Instr.build 28 #[(0,.int .i64 k),(1,.int .i64 i),(2,.string (T 0)),(12,.string (T 1)),(3,.int .i64 (M 2)),(4,.int .i64 (M 3)),(5,.agg #[.int .i64 (M 4),.int .i64 (M 5),.int .i64 (M 6),.bool c,.int .i64 (M 8)]),(6,.int .i64 (M 9)),(7,.int .i64 (M 10)),(8,.slice ra n rc),(9,.int .i64 (M 12)),(10,.int .i64 (M 13)),(11,.int .i64 (M 14))]).run Tryz.prog x=.ok (.agg (rqx k i T M c ra n rc)) x):=rK k i T M c ra n rc
 have HX0:Hid (((w.alloc (.cells (gbc k i T M c (.slice ra n rc) s1 s2 s3) 73)).alloc (.cells z26 28)).heap[w.heap.size]? = some (.cells (gbc k i T M c (.slice ra n rc) s1 s2 s3) 73 (0,0))):=(dP w (gbc k i T M c (.slice ra n rc) s1 s2 s3) z26 73 28).1
 have HX1:Hid (((w.alloc (.cells (gbc k i T M c (.slice ra n rc) s1 s2 s3) 73)).alloc (.cells z26 28)).heap[w.heap.size+1]? = some (.cells z26 28 (0,0))):=(dP w (gbc k i T M c (.slice ra n rc) s1 s2 s3) z26 73 28).2
 have HBL:Hid (Below w.heap.size w ((w.alloc (.cells (gbc k i T M c (.slice ra n rc) s1 s2 s3) 73)).alloc (.cells z26 28))):=(aA _).trans ((aA _).mono (by simp))
 have HR1:Hid ((rqx k i T M c ra n rc).size=17):=rfl
 have HR2:Hid ((rqx k i T M c ra n rc).all (·.oneCell')=true):=aBv _ _ _ _ _ _ _ _
 have HZ1:Hid (z26.size=17):=rfl
 have g0:((w.alloc (.cells (gbc k i T M c (.slice ra n rc) s1 s2 s3) 73)).alloc (.cells z26 28)).cell? ⟨w.heap.size,0,none⟩=some (.int .i64 k):=by rw[(aB HX0.out 0).1];exact(eU ..).1
 have g1:((w.alloc (.cells (gbc k i T M c (.slice ra n rc) s1 s2 s3) 73)).alloc (.cells z26 28)).cell? ⟨w.heap.size,1,none⟩=some (.int .i64 i):=by rw[(aB HX0.out 1).1];exact(eU ..).2
 have g2:((w.alloc (.cells (gbc k i T M c (.slice ra n rc) s1 s2 s3) 73)).alloc (.cells z26 28)).cell? ⟨w.heap.size,2,none⟩=some (.string (T 0)):=by rw[(aB HX0.out 2).1];exact aE0 _ _ _ _ _ _ _ _ _ 0 (by decide)
 have g3:((w.alloc (.cells (gbc k i T M c (.slice ra n rc) s1 s2 s3) 73)).alloc (.cells z26 28)).cell? ⟨w.heap.size,3,none⟩=some (.string (T 1)):=by rw[(aB HX0.out 3).1];exact aE0 _ _ _ _ _ _ _ _ _ 1 (by decide)
 have h2:((w.alloc (.cells (gbc k i T M c (.slice ra n rc) s1 s2 s3) 73)).alloc (.cells z26 28)).cell? ⟨w.heap.size,6,none⟩=some (.int .i64 (M 2)):=by rw[(aB HX0.out 6).1];exact dV _ _ _ _ _ _ _ _ _ 2 (by decide)
 have h3:((w.alloc (.cells (gbc k i T M c (.slice ra n rc) s1 s2 s3) 73)).alloc (.cells z26 28)).cell? ⟨w.heap.size,7,none⟩=some (.int .i64 (M 3)):=by rw[(aB HX0.out 7).1];exact dV _ _ _ _ _ _ _ _ _ 3 (by decide)
 have h4:((w.alloc (.cells (gbc k i T M c (.slice ra n rc) s1 s2 s3) 73)).alloc (.cells z26 28)).cell? ⟨w.heap.size,8,none⟩=some (.int .i64 (M 4)):=by rw[(aB HX0.out 8).1];exact dV _ _ _ _ _ _ _ _ _ 4 (by decide)
 have h5:((w.alloc (.cells (gbc k i T M c (.slice ra n rc) s1 s2 s3) 73)).alloc (.cells z26 28)).cell? ⟨w.heap.size,9,none⟩=some (.int .i64 (M 5)):=by rw[(aB HX0.out 9).1];exact dV _ _ _ _ _ _ _ _ _ 5 (by decide)
 have h6:((w.alloc (.cells (gbc k i T M c (.slice ra n rc) s1 s2 s3) 73)).alloc (.cells z26 28)).cell? ⟨w.heap.size,10,none⟩=some (.int .i64 (M 6)):=by rw[(aB HX0.out 10).1];exact dV _ _ _ _ _ _ _ _ _ 6 (by decide)
 have h8:((w.alloc (.cells (gbc k i T M c (.slice ra n rc) s1 s2 s3) 73)).alloc (.cells z26 28)).cell? ⟨w.heap.size,12,none⟩=some (.int .i64 (M 8)):=by rw[(aB HX0.out 12).1];exact dV _ _ _ _ _ _ _ _ _ 8 (by decide)
 have h9:((w.alloc (.cells (gbc k i T M c (.slice ra n rc) s1 s2 s3) 73)).alloc (.cells z26 28)).cell? ⟨w.heap.size,13,none⟩=some (.int .i64 (M 9)):=by rw[(aB HX0.out 13).1];exact dV _ _ _ _ _ _ _ _ _ 9 (by decide)
 have h10:((w.alloc (.cells (gbc k i T M c (.slice ra n rc) s1 s2 s3) 73)).alloc (.cells z26 28)).cell? ⟨w.heap.size,14,none⟩=some (.int .i64 (M 10)):=by rw[(aB HX0.out 14).1];exact dV _ _ _ _ _ _ _ _ _ 10 (by decide)
 have h12:((w.alloc (.cells (gbc k i T M c (.slice ra n rc) s1 s2 s3) 73)).alloc (.cells z26 28)).cell? ⟨w.heap.size,16,none⟩=some (.int .i64 (M 12)):=by rw[(aB HX0.out 16).1];exact dV _ _ _ _ _ _ _ _ _ 12 (by decide)
 have h13:((w.alloc (.cells (gbc k i T M c (.slice ra n rc) s1 s2 s3) 73)).alloc (.cells z26 28)).cell? ⟨w.heap.size,17,none⟩=some (.int .i64 (M 13)):=by rw[(aB HX0.out 17).1];exact dV _ _ _ _ _ _ _ _ _ 13 (by decide)
 have h14:((w.alloc (.cells (gbc k i T M c (.slice ra n rc) s1 s2 s3) 73)).alloc (.cells z26 28)).cell? ⟨w.heap.size,18,none⟩=some (.int .i64 (M 14)):=by rw[(aB HX0.out 18).1];exact dV _ _ _ _ _ _ _ _ _ 14 (by decide)
 have g24:((w.alloc (.cells (gbc k i T M c (.slice ra n rc) s1 s2 s3) 73)).alloc (.cells z26 28)).cell? ⟨w.heap.size,24,none⟩=some (.bool c):=by rw[(aB HX0.out 24).1];exact(fU ..).1
 have g25:((w.alloc (.cells (gbc k i T M c (.slice ra n rc) s1 s2 s3) 73)).alloc (.cells z26 28)).cell? ⟨w.heap.size,25,none⟩=some (.slice ra n rc):=by rw[(aB HX0.out 25).1];exact(fU ..).2.1
 clear HX0
 generalize rqx k i T M c ra n rc=RQ at *
 generalize T 0=a0 at *
 generalize T 1=a1 at *
 generalize M 2=m2 at *
 generalize M 3=m3 at *
 generalize M 4=m4 at *
 generalize M 5=m5 at *
 generalize M 6=m6 at *
 generalize M 8=m8 at *
 generalize M 9=m9 at *
 generalize M 10=m10 at *
 generalize M 12=m12 at *
 generalize M 13=m13 at *
 generalize M 14=m14 at *
 generalize (gbc k i T M c (.slice ra n rc) s1 s2 s3)=GS at *
 generalize z26=ZB at *
 have tokA:=trivial
 go_enter Tryz.func25,Tryz.ntmps25
 go_wp2_with (first
  | (have _h:=tokA;refine aM KA.out rfl rfl (w.heap.size+1) (by simp) ?_;clear _h tokA;simp only[Act.put,sP])
  | (refine aL (parts:=#[(0,.tmp 4),(1,.tmp 6),(2,.tmp 9),(12,.tmp 12),(3,.tmp 15),(4,.tmp 18),(5,.tmp 33),(6,.tmp 36),(7,.tmp 39),(8,.tmp 41),(9,.tmp 44),(10,.tmp 47),(11,.tmp 50)]) KB.out rfl rfl (by rfl) ?_;simp only[Act.put,sP];have tok1:=trivial)
  | (have _h:=tok1;refine wpList_store_row rfl 28 _ _ rfl (w.heap.size+1) RQ rfl rfl 28 ZB (by exact HX1.out) (by rw[HR1.out];exact Tryz.info28) (by rw[HR1.out];exact HZ1.out) HR2.out ?_;clear _h tok1))
 refine bodyPost_ret (results_cell_row rfl _ _ (w.heap.size+1) 28 RQ (0,0) _ rfl (setRow_heap _ _ _ _ _ _ HX1.out) Tryz.underlying28 rfl (by rw[HR1.out];exact Tryz.info28)) rfl ?_
 exact⟨rfl,below_setRow HBL.out (by omega) _⟩
theorem aD4 (w:World):Calls Tryz.prog 23 #[.int .i64 0,.bool true] w (RwP [] w):=by
 go_enter Tryz.func23,Tryz.ntmps23
 go_wp2
 go_ret
 exact⟨⟨none,0,rfl,.inl rfl⟩,Below.refl _ _⟩
theorem aEe (w:World):Calls Tryz.prog 23 #[.int .i64 1,.bool true] w (RwP [] w):=by
 go_enter Tryz.func23,Tryz.ntmps23
 go_wp2
 go_ret
 exact⟨⟨none,0,rfl,.inl rfl⟩,Below.refl _ _⟩
theorem aEj (w:World):Calls Tryz.prog 23 #[.int .i64 2,.bool true] w (RwP [] w):=by
 go_enter Tryz.func23,Tryz.ntmps23
 go_wp2
 go_ret
 exact⟨⟨none,0,rfl,.inl rfl⟩,Below.refl _ _⟩
theorem aEo (w:World):Calls Tryz.prog 23 #[.int .i64 3,.bool true] w (RwP [17,18] w):=by
 go_enter Tryz.func23,Tryz.ntmps23
 go_wp2
 go_ret
 refine⟨⟨some ⟨w.heap.size,0,none⟩,2,rfl,.inr ⟨w.heap.size,#[.int .i64 6,.int .i64 17,.int .i64 7,.int .i64 18],rfl,heap_alloc_new w _,fun j hj=>?_⟩⟩,aA _⟩
 match j,hj with
 | 0,_=>exact⟨rfl,rfl⟩
 | 1,_=>exact⟨rfl,rfl⟩
theorem aBt (w:World):Calls Tryz.prog 23 #[.int .i64 4,.bool true] w (RwP [12,15,16] w):=by
 go_enter Tryz.func23,Tryz.ntmps23
 go_wp2
 go_ret
 refine⟨⟨some ⟨w.heap.size,0,none⟩,3,rfl,.inr ⟨w.heap.size,#[.int .i64 2,.int .i64 12,.int .i64 2,.int .i64 15,.int .i64 2,.int .i64 16],rfl,heap_alloc_new w _,fun j hj=>?_⟩⟩,aA _⟩
 match j,hj with
 | 0,_=>exact⟨rfl,rfl⟩
 | 1,_=>exact⟨rfl,rfl⟩
 | 2,_=>exact⟨rfl,rfl⟩
theorem aDl (w:World):Calls Tryz.prog 23 #[.int .i64 5,.bool true] w (RwP [15,16,19] w):=by
 go_enter Tryz.func23,Tryz.ntmps23
 go_wp2
 go_ret
 refine⟨⟨some ⟨w.heap.size,0,none⟩,3,rfl,.inr ⟨w.heap.size,#[.int .i64 2,.int .i64 15,.int .i64 2,.int .i64 16,.int .i64 5,.int .i64 19],rfl,heap_alloc_new w _,fun j hj=>?_⟩⟩,aA _⟩
 match j,hj with
 | 0,_=>exact⟨rfl,rfl⟩
 | 1,_=>exact⟨rfl,rfl⟩
 | 2,_=>exact⟨rfl,rfl⟩
theorem aC7 (w:World):Calls Tryz.prog 23 #[.int .i64 6,.bool true] w (RwP [12,15,16] w):=by
 go_enter Tryz.func23,Tryz.ntmps23
 go_wp2
 go_ret
 refine⟨⟨some ⟨w.heap.size,0,none⟩,3,rfl,.inr ⟨w.heap.size,#[.int .i64 2,.int .i64 12,.int .i64 2,.int .i64 15,.int .i64 2,.int .i64 16],rfl,heap_alloc_new w _,fun j hj=>?_⟩⟩,aA _⟩
 match j,hj with
 | 0,_=>exact⟨rfl,rfl⟩
 | 1,_=>exact⟨rfl,rfl⟩
 | 2,_=>exact⟨rfl,rfl⟩
theorem aEt (w:World):Calls Tryz.prog 23 #[.int .i64 7,.bool true] w (RwP [] w):=by
 go_enter Tryz.func23,Tryz.ntmps23
 go_wp2
 go_ret
 exact⟨⟨none,0,rfl,.inl rfl⟩,Below.refl _ _⟩
theorem aDf (w:World):Calls Tryz.prog 23 #[.int .i64 8,.bool true] w (RwP [12] w):=by
 go_enter Tryz.func23,Tryz.ntmps23
 go_wp2
 go_ret
 refine⟨⟨some ⟨w.heap.size,0,none⟩,1,rfl,.inr ⟨w.heap.size,#[.int .i64 2,.int .i64 12],rfl,heap_alloc_new w _,fun j hj=>?_⟩⟩,aA _⟩
 match j,hj with
 | 0,_=>exact⟨rfl,rfl⟩
theorem aDh (w:World):Calls Tryz.prog 23 #[.int .i64 1,.bool false] w (RwP [0,3,4,5,6,7,8] w):=by
 go_enter Tryz.func23,Tryz.ntmps23
 go_wp2
 go_ret
 refine⟨⟨some ⟨w.heap.size,0,none⟩,7,rfl,.inr ⟨w.heap.size,#[.int .i64 1,.int .i64 0,.int .i64 2,.int .i64 3,.int .i64 2,.int .i64 4,.int .i64 2,.int .i64 5,.int .i64 2,.int .i64 6,.int .i64 3,.int .i64 7,.int .i64 2,.int .i64 8],rfl,heap_alloc_new w _,fun j hj=>?_⟩⟩,aA _⟩
 match j,hj with
 | 0,_=>exact⟨rfl,rfl⟩
 | 1,_=>exact⟨rfl,rfl⟩
 | 2,_=>exact⟨rfl,rfl⟩
 | 3,_=>exact⟨rfl,rfl⟩
 | 4,_=>exact⟨rfl,rfl⟩
 | 5,_=>exact⟨rfl,rfl⟩
 | 6,_=>exact⟨rfl,rfl⟩
theorem aCz (w:World):Calls Tryz.prog 23 #[.int .i64 2,.bool false] w (RwP [0] w):=by
 go_enter Tryz.func23,Tryz.ntmps23
 go_wp2
 go_ret
 refine⟨⟨some ⟨w.heap.size,0,none⟩,1,rfl,.inr ⟨w.heap.size,#[.int .i64 1,.int .i64 0],rfl,heap_alloc_new w _,fun j hj=>?_⟩⟩,aA _⟩
 match j,hj with
 | 0,_=>exact⟨rfl,rfl⟩
theorem aDb (w:World):Calls Tryz.prog 23 #[.int .i64 3,.bool false] w (RwP [] w):=by
 go_enter Tryz.func23,Tryz.ntmps23
 go_wp2
 go_ret
 exact⟨⟨none,0,rfl,.inl rfl⟩,Below.refl _ _⟩
theorem aDa (w:World):Calls Tryz.prog 23 #[.int .i64 4,.bool false] w (RwP [0,2,9,10,11] w):=by
 go_enter Tryz.func23,Tryz.ntmps23
 go_wp2
 go_ret
 refine⟨⟨some ⟨w.heap.size,0,none⟩,5,rfl,.inr ⟨w.heap.size,#[.int .i64 1,.int .i64 0,.int .i64 2,.int .i64 2,.int .i64 2,.int .i64 9,.int .i64 2,.int .i64 10,.int .i64 4,.int .i64 11],rfl,heap_alloc_new w _,fun j hj=>?_⟩⟩,aA _⟩
 match j,hj with
 | 0,_=>exact⟨rfl,rfl⟩
 | 1,_=>exact⟨rfl,rfl⟩
 | 2,_=>exact⟨rfl,rfl⟩
 | 3,_=>exact⟨rfl,rfl⟩
 | 4,_=>exact⟨rfl,rfl⟩
theorem aD1 (w:World):Calls Tryz.prog 23 #[.int .i64 5,.bool false] w (RwP [0,2,12,13] w):=by
 go_enter Tryz.func23,Tryz.ntmps23
 go_wp2
 go_ret
 refine⟨⟨some ⟨w.heap.size,0,none⟩,4,rfl,.inr ⟨w.heap.size,#[.int .i64 1,.int .i64 0,.int .i64 2,.int .i64 2,.int .i64 2,.int .i64 12,.int .i64 2,.int .i64 13],rfl,heap_alloc_new w _,fun j hj=>?_⟩⟩,aA _⟩
 match j,hj with
 | 0,_=>exact⟨rfl,rfl⟩
 | 1,_=>exact⟨rfl,rfl⟩
 | 2,_=>exact⟨rfl,rfl⟩
 | 3,_=>exact⟨rfl,rfl⟩
theorem aEa (w:World):Calls Tryz.prog 23 #[.int .i64 6,.bool false] w (RwP [0,2,14] w):=by
 go_enter Tryz.func23,Tryz.ntmps23
 go_wp2
 go_ret
 refine⟨⟨some ⟨w.heap.size,0,none⟩,3,rfl,.inr ⟨w.heap.size,#[.int .i64 1,.int .i64 0,.int .i64 2,.int .i64 2,.int .i64 2,.int .i64 14],rfl,heap_alloc_new w _,fun j hj=>?_⟩⟩,aA _⟩
 match j,hj with
 | 0,_=>exact⟨rfl,rfl⟩
 | 1,_=>exact⟨rfl,rfl⟩
 | 2,_=>exact⟨rfl,rfl⟩
theorem aEi (w:World):Calls Tryz.prog 23 #[.int .i64 7,.bool false] w (RwP [1,0,2,12] w):=by
 go_enter Tryz.func23,Tryz.ntmps23
 go_wp2
 go_ret
 refine⟨⟨some ⟨w.heap.size,0,none⟩,4,rfl,.inr ⟨w.heap.size,#[.int .i64 1,.int .i64 1,.int .i64 1,.int .i64 0,.int .i64 2,.int .i64 2,.int .i64 2,.int .i64 12],rfl,heap_alloc_new w _,fun j hj=>?_⟩⟩,aA _⟩
 match j,hj with
 | 0,_=>exact⟨rfl,rfl⟩
 | 1,_=>exact⟨rfl,rfl⟩
 | 2,_=>exact⟨rfl,rfl⟩
 | 3,_=>exact⟨rfl,rfl⟩
theorem aDz (w:World):Calls Tryz.prog 23 #[.int .i64 8,.bool false] w (RwP [1,0,2] w):=by
 go_enter Tryz.func23,Tryz.ntmps23
 go_wp2
 go_ret
 refine⟨⟨some ⟨w.heap.size,0,none⟩,3,rfl,.inr ⟨w.heap.size,#[.int .i64 1,.int .i64 1,.int .i64 1,.int .i64 0,.int .i64 2,.int .i64 2],rfl,heap_alloc_new w _,fun j hj=>?_⟩⟩,aA _⟩
 match j,hj with
 | 0,_=>exact⟨rfl,rfl⟩
 | 1,_=>exact⟨rfl,rfl⟩
 | 2,_=>exact⟨rfl,rfl⟩
theorem mW (k:Int) (h:k=0∨8 < k) (w:World):Calls Tryz.prog 23 #[.int .i64 k,.bool true] w (RwP [] w):=by
 have n1:¬k=1:=by omega
 have n2:¬k=2:=by omega
 have n3:¬k=3:=by omega
 have n4:¬k=4:=by omega
 have n5:¬k=5:=by omega
 have n6:¬k=6:=by omega
 have n7:¬k=7:=by omega
 have n8:¬k=8:=by omega
 clear h
 go_enter Tryz.func23,Tryz.ntmps23
 go_wp2
 go_ret
 exact⟨⟨none,0,rfl,.inl rfl⟩,Below.refl _ _⟩
theorem qG (k:Int) (h:k=0∨8 < k) (w:World):Calls Tryz.prog 23 #[.int .i64 k,.bool false] w (RwP [] w):=by
 have n1:¬k=1:=by omega
 have n2:¬k=2:=by omega
 have n3:¬k=3:=by omega
 have n4:¬k=4:=by omega
 have n5:¬k=5:=by omega
 have n6:¬k=6:=by omega
 have n7:¬k=7:=by omega
 have n8:¬k=8:=by omega
 clear h
 go_enter Tryz.func23,Tryz.ntmps23
 go_wp2
 go_ret
 exact⟨⟨none,0,rfl,.inl rfl⟩,Below.refl _ _⟩
theorem kW (k:Int) (h0:0<=k) (h8:k<=8) (w:World):Calls Tryz.prog 23 #[.int .i64 k,.bool true] w (RwP (rowOr (rowA k)) w):=by
 rcases(show k=0∨k=1∨k=2∨k=3∨k=4∨k=5∨k=6∨k=7∨k=8 by omega) with rfl | rfl | rfl | rfl | rfl | rfl | rfl | rfl | rfl
 ·exact aD4 w
 ·exact aEe w
 ·exact aEj w
 ·exact aEo w
 ·exact aBt w
 ·exact aDl w
 ·exact aC7 w
 ·exact aEt w
 ·exact aDf w
theorem vJ (k:Int) (h0:1<=k) (h8:k<=8) (w:World):Calls Tryz.prog 23 #[.int .i64 k,.bool false] w (RwP (rowOr (rowQ k)) w):=by
 rcases(show k=1∨k=2∨k=3∨k=4∨k=5∨k=6∨k=7∨k=8 by omega) with rfl | rfl | rfl | rfl | rfl | rfl | rfl | rfl
 ·exact aDh w
 ·exact aCz w
 ·exact aDb w
 ·exact aDa w
 ·exact aD1 w
 ·exact aEa w
 ·exact aEi w
 ·exact aDz w
theorem EyR.new (y:World) (a:Option Addr) (cap:Nat) (l:List Nat):EyR y a cap l (y.alloc (.cells #[.slice a l.length cap,.int .i64 0,.bool false] 68)) (some l):=
 ⟨⟨0,Nat.zero_le _,heap_alloc_new y _,fun t e=>by injection e with e;exact e.symm⟩,aA _⟩
theorem aHv (k i:Int):gbx k i bdz ptz=gbc k i (fun _=>⟨#[]⟩) (fun _=>0) false (.slice none 0 0) (.slice none 0 0) (.slice none 0 0) (.slice none 0 0):=by
 unfold gbx
 exact fT (fun f hf=>rfl) (fun f hf=>by unfold bnn;split<;>rfl)
theorem BagS.new {w:World} {X:Nat} {k i:Int} (st:Ls) (h:w.heap[X]? = some (.cells (gbc k i (fun _=>⟨#[]⟩) (fun _=>0) false (.slice none 0 0) (.slice none 0 0) (.slice none 0 0) (.slice none 0 0)) 73 (0,0))):BagS w X k i st bdz:=
 ⟨_,bP _ _ _ _ _ _ _ _ _,h,fun _=>⟨ptz,(aHv k i).symm,⟨RRow.nil _ _,fun j hj=>(by cases hj),fun j hj=>(by cases hj),⟨fun j hj=>(by cases hj),fun j hj=>(by cases hj)⟩,rfl,fun g hg=>(by cases hg),fun g hg=>(by cases hg),fun g hg=>(by cases hg),fun g hg=>(by cases hg),fun s hs=>(by cases hs),fun _=>⟨rfl,rfl⟩,fun _=>⟨rfl,rfl⟩,fun _=>⟨rfl,rfl⟩⟩⟩⟩
theorem WBox.keepF {y0 w w':World} {a:Option Addr} {cap:Nat} {l:List Nat} {X:Nat} {k i:Int} {st:Ls} {b:Bd} {ga:Option Addr} {r:List Nat} (h:WBox w ga r) (he:EyR y0 a cap l w st) (hb:BagS w X k i st b) (kx:KeepX y0.heap.size X w w'):WBox w' ga r:=by
 obtain⟨I,hI,hx,_⟩:=he.box
 obtain⟨cs,_,hy,_⟩:=hb.box
 refine WBox.keep h (fun g cs hg=>(kx.blk g ?_ ?_ (Array.getElem?_eq_some_iff.1 hg).1).trans hg)
 ·rintro rfl
  rw[hx] at hg
  injection hg with hg
  injection hg with _ hg _
  exact absurd hg (by decide)
 ·rintro rfl
  rw[hy] at hg
  injection hg with hg
  injection hg with _ hg _
  exact absurd hg (by decide)
theorem drop_nil {l:List Nat} {I:Nat} (h:I<=l.length):l.drop I=[]↔I=l.length:=by
 rw[List.drop_eq_nil_iff]
 omega
end Go.Proofs.YtaooidckmepdeaaGreatDoor
