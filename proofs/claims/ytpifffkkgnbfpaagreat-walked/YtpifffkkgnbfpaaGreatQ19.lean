import Derived.Test.YtpifffkkgnbfpaaGreatQ18
set_option linter.unusedSimpArgs false
set_option linter.unusedVariables false
set_option maxRecDepth 100000
set_option maxHeartbeats 8000000
namespace Go.Proofs.YtpifffkkgnbfpaaGreat.Tree
open Go.RowKit Go.Shelf Pages
attribute [local go_sem] Oper.semAt_some
abbrev Sp.all:Sp:=⟨⟨#[]⟩,⟨#[]⟩⟩
def iM (q:Sp) (ls:List (List En)):List En:=ls.flatMap (fun es=>es.filter (fun x=>q.has x.e.key))
def cQ (q:Sp):Option (Nat×T)→List En
 | none=>[]
 | some (h,t)=>iM q (lvs h t Sp.all q)
def pD (x:En) (args:Array Value) (S:Bl) (w:World):Prop:=args=#[.agg #[.string x.e.key,.string x.e.val,.int .i64 x.e.size,.int .i64 x.e.over]]
theorem yM {α:Type} (f:α→Bool) (l:List α) (j:Nat) (h:j<l.length):(l.take (j+1)).filter f=(l.take j).filter f++(if f l[j]=true then [l[j]] else []):=by
 rw [List.take_succ_eq_append_getElem h,List.filter_append]
 simp [List.filter_cons]
theorem xM (β:Nat) (sv lv:Value) (fs:Fs) (hl:(fs.life==0)=false) (root:Nat) (ca:Option Addr) (cn cc:Nat) (q:Sp) (o:Option (Nat×T)) (hro:bI fs root o) (bt bq:Nat) (Rd:Bl) (w:World)
  (xt:w.heap[bt]?=some (.cells (tA β root ca cn cc) 95)) (xq:w.heap[bq]?=some (.cells #[.string q.lo,.string q.hi] 135))
  (hf:aG w β sv lv fs) (r1:Rd bt) (r4:Rd bq) (rf:∀ k,fpF β sv lv k→Rd k) :
  mT Tryz.prog 104 #[.pointer (some ⟨bt,0,none⟩),.pointer (some ⟨bq,0,none⟩)] pD (cQ q o) Rd w:=by
 intro l J Jx Y W hon hRd sJ lJ sJx lJx hY h0
 refine callsIn_of_wp_marks Tryz.func104 rfl trivial ?_ rfl
 simp only [Tryz.ntmps104,jA,jB,jN,Nat.reduceAdd,Nat.reduceSub,jR,jO,jP,jT,jE,jF]
 have lY:=lJ [] Y W h0
 have l1:=(hRd bt r1).2
 have l4:=(hRd bq r4).2
 obtain⟨W1,hW1⟩:=nM (W.alloc (.cells #[.func (.yield l) #[] #[]] 172))
 have f1:Fr Bl.none W W1:=hW1▸(Fr.refl _ W).alloc _
 have y1:W1.heap[W.heap.size]?=some (.cells #[.func (.yield l) #[] #[]] 172):=hW1▸aA W _
 have o1:On Rd w W1:=hon.trans (f1.on (fun k hk=>⟨(hRd k hk).2,fun h=>h⟩))
 obtain⟨a0,a1,a2⟩:=eR (o1.heap xt r1)
 obtain⟨c0,c1⟩:=bU (o1.heap xq r4)
 have hJ1:=sJ _ _ _ _ h0 (f1.on (fun k hk=>⟨lY k hk,fun h=>h⟩))
 cases o with
 | none =>
  have hr:root=0:=hro
  subst hr
  have F1:Fr Y W W1:=f1.mono (fun _ h=>h.elim)
  gi_wp2
  exact⟨_,results_none rfl _ _ _,⟨_,rfl⟩,Y,F1,aI.refl _ _,.inl hJ1⟩
 | some x =>
  obtain⟨h,t⟩:=x
  obtain⟨hr,hp,hst⟩:=hro
  have hrb:((root:Int)==0)=false:=by simp;omega
  have hLc:=yB root root β ca cn cc Sp.all q W1
  have HP:Hid (t.place=root):=hp
  clear hp
  gi_wp2_with (refine⟨trivial,rfl,?_⟩;gi_at_call 105;refine(callsIn_wide.2 hLc).mono ?_;clear hLc;rintro e W₆ ⟨rfl,p1,p2,p3,p4,hb₆⟩)
  rw [← HP.out] at p2
  have f6:Fr Bl.none W W₆:=f1.trans (Fr.of_below hb₆)
  have z1:W.heap.size<W1.heap.size:=(gL y1)
  have z6:W1.heap.size+1+1+1<W₆.heap.size:=(gL p4)
  have o6:On Rd w W₆:=hon.trans (f6.on (fun k hk=>⟨(hRd k hk).2,fun h=>h⟩))
  have hf6:=hf.on (o6.mono rf)
  have y6:=(hb₆.block _ z1).trans y1
  have hJ6:=sJ _ _ _ _ h0 (f6.on (fun k hk=>⟨lY k hk,fun h=>h⟩))
  have F6:Fr Y W W₆:=f6.mono (fun _ h=>h.elim)
  let R6:Bl:=fun k=>k=W1.heap.size∨k=W1.heap.size+1∨k=W1.heap.size+1+1∨k=W1.heap.size+1+1+1∨fpF β sv lv k
  have hit:=Lq β sv lv fs hl root ca cn cc q h t Sp.all hst W1.heap.size (W1.heap.size+1) (W1.heap.size+1+1) (W1.heap.size+1+1+1) R6 W₆ p1 p2 p3 p4 hf6 (.inl rfl) (.inr (.inl rfl)) (.inr (.inr (.inl rfl))) (.inr (.inr (.inr (.inl rfl)))) (fun k hk=>.inr (.inr (.inr (.inr hk))))
  have HL:Hid (cQ q (some (h,t))=iM q (lvs h t Sp.all q)):=rfl
  let I:List (List En)→Bl→World→Prop:=fun pre Y W=>J (iM q pre) Y W
  let Ix:Code→List (List En)→Bl→World→Prop:=fun c pre Y W=>c=.ret∧∃ pp,pp <+: cQ q (some (h,t))∧pp≠[]∧Jx pp Y W
  refine eS (P:=Tryz.prog) (Has:=vU) (Rd:=R6) rfl (enters_of Tryz.func130 (by kernel_rfl) rfl) hit (fun x args S W hH=>by obtain⟨g',v,rfl,_⟩:=hH;rfl) I Ix (fun s Y W W' hi ho=>sJ _ _ _ _ hi ho) ?_ (fun s Y W hi=>lJ _ _ _ hi) ?_ Y (by simpa [I,iM] using hJ6) ?_ ?_ ?_ ?_
  ·rintro c pre Y W W' ⟨rfl,pp,h1,h2,h3⟩ ho
   exact⟨rfl,pp,h1,h2,sJx _ _ _ _ h3 ho⟩
  ·rintro c pre Y W ⟨rfl,pp,h1,h2,h3⟩
   exact lJx _ _ _ h3
  ·rintro k (rfl|rfl|rfl|rfl|hk)
   ·exact⟨fun h=>by have:=lY _ h;omega,by omega⟩
   ·exact⟨fun h=>by have:=lY _ h;omega,by omega⟩
   ·exact⟨fun h=>by have:=lY _ h;omega,by omega⟩
   ·exact⟨fun h=>by have:=lY _ h;omega,by omega⟩
   ·exact⟨(hRd k (rf k hk)).1,hf6.lies k hk⟩
  ·-- a leaf
   rintro l2 pre2 x2 rest2 args S2 Y2 Wd hx2 hJd hH2 hS2 hFd hGd hl20 hl21 hl22 ⟨r2',hr2'⟩
   obtain⟨g2,v,rfl,hge,⟨ka2,ia2,ea2,kc2,ic2,ec2,rfl,w1,w2,w3,ww⟩,hgl⟩:=hH2
   have zd:W₆.heap.size≤Wd.heap.size:=hFd.size
   have yd:=hFd.heap y6 (fun h=>by have:=lY _ h;omega)
   have od:On Rd w Wd:=o6.trans (hFd.on (fun k hk=>⟨by have:=(hRd k hk).2;omega,(hRd k hk).1⟩))
   have Fd:Fr Y W Wd:=F6.trans hFd
   have Gd:aI W Y Y2:=(aI.refl W Y).trans F6.size hGd
   have lY2:=lJ _ _ _ hJd
   have HGE:Hid (g2.ents=x2.map (·.e)):=hge
   have HX2:Hid (lvs h t Sp.all q=pre2++x2 :: rest2):=hx2
   have HGL:Hid (g2.ents.length=x2.length):=by show _=_;rw [hge,List.length_map]
   clear hge hx2
   unfold iC
   gi_wp2
   refine⟨(Fr.refl _ Wd).alloc _,?_⟩
   intro We hTe
   have x3e:=hTe.heap (k:=Wd.heap.size) (aA Wd (pgO g2 ka2 ia2 ea2 kc2 ic2 ec2)) (Nat.ne_of_gt hl21)
   obtain⟨m0,m1,m2,m3,m4,m5,m6,m7⟩:=bM x3e
   have aE:Fr Bl.none Wd (Wd.alloc (pgO g2 ka2 ia2 ea2 kc2 ic2 ec2)):=(Fr.refl _ Wd).alloc _
   have fE:Fr (Bl.one l2) Wd We:=(aE.mono (fun _ h=>h.elim)).trans hTe.fr
   have yE:=fE.heap yd (oN (by omega))
   have hJe:J (iM q pre2) Y2 We:=sJ _ _ _ _ hJd (fE.on (fun k hk=>⟨lY2 k hk,fun h=>by simp only [Bl.one] at h;subst h;exact hl22 hk⟩))
   have oS:On S2 Wd We:=fE.on (fun k hk=>⟨(hS2 k hk).2.1,fun h=>(hS2 k hk).2.2 h⟩)
   have Fe:Fr Y W We:=Fd.grow fE (fun k hk=>.inr (by simp only [Bl.one] at hk;omega))
   have oE:On Rd w We:=od.trans (fE.on (fun k hk=>⟨by have:=(hRd k hk).2;omega,fun h=>by simp only [Bl.one] at h;have:=(hRd k hk).2;omega⟩))
   have zE:Wd.heap.size<We.heap.size:=(gL x3e)
   have wE:=w3.on oS
   have hec:=ww.2.2
   clear w1 w2 w3
   obtain⟨dn,hdn⟩:=nM (iM q pre2)
   rw [hdn] at hJe
   let f:En→Bool:=fun x=>q.has x.e.key
   have HSP:Hid (∀ j (hj:j<x2.length),f x2[j]=true→cQ q (some (h,t))=(dn++(x2.take j).filter f)++x2[j] :: ((x2.drop (j+1)).filter f++iM q rest2)):=by
    intro j hj hfj
    rw [HL.out,HX2.out]
    unfold iM
    rw [List.flatMap_append,List.flatMap_cons]
    have e:x2.filter f=(x2.take j).filter f++x2[j] :: (x2.drop (j+1)).filter f:=by
     conv=>lhs;rw [← List.take_append_drop j x2,List.filter_append,List.drop_eq_getElem_cons hj,List.filter_cons,if_pos hfj]
    have e2:List.filter (fun x=>q.has x.e.key) x2=(x2.take j).filter f++x2[j] :: (x2.drop (j+1)).filter f:=e
    rw [e2,← hdn]
    simp [iM,List.append_assoc]
   have HDN:Hid (dn++x2.filter f=iM q (pre2++[x2])):=by
    show _=_
    rw [← hdn];simp [iM,f]
   have hYw:¬ Y2 W.heap.size:=fun h=>(hGd _ h).elim (fun h'=>by have:=lY _ h';omega) (fun h'=>by omega)
   have hYq:∀ k,Rd k→¬ Y2 k:=fun k hk h=>(Gd k h).elim (hRd k hk).1 (fun h'=>by have:=(hRd k hk).2;omega)
   clear hdn m0 m1 m2 m3 m4 m5 m7 a0 a1 a2 c0 c1
   gi_wp2
   gi_loopw [20] (fun i wr=>∃ (j:Nat) (Yr:Bl),j≤g2.ents.length∧i=.int .i64 j∧J (dn++(x2.take j).filter f) Yr wr∧Fr Y2 We wr∧aI We Y2 Yr) (fun i _=>g2.ents.length-(intOf i).toNat)
   case atStart=>exact⟨0,Y2,Nat.zero_le _,rfl,by simpa using hJe,Fr.refl _ _,aI.refl _ _⟩
   case round =>
    obtain⟨j,Yr,hj,rfl,hJr,hFr,hGr⟩:=hrel
    have zr:We.heap.size≤wr.heap.size:=hFr.size
    have wR:=wE.on (hFr.on (fun k hk=>⟨jY (hS2 k hk).2.1 fE.size,(hS2 k hk).1⟩))
    have yR:=hFr.heap yE hYw
    have oR:On Rd w wr:=oE.trans (hFr.on (fun k hk=>⟨by have:=(hRd k hk).2;omega,hYq k hk⟩))
    have lYr:=lJ _ _ _ hJr
    have FR:Fr Y W wr:=Fe.grow hFr Gd
    have GR:aI W Y Yr:=Gd.trans Fe.size hGr
    by_cases hlt:j<g2.ents.length
    ·have hjx:j<x2.length:=by rw [← HGL.out];exact hlt
     obtain⟨X,hX⟩:=nM (x2[j])
     obtain⟨E,hE⟩:=nM (g2.ents[j])
     have hEX:E=X.e:=by rw [← hE,← hX];simp only [HGE.out];simp
     obtain⟨eb,eo,hea,hebS,q0,q1,q2,q3⟩:=wR.ent hlt
     rw [hE] at q0 q1 q2 q3
     have HTK:Hid ((x2.take (j+1)).filter f=(x2.take j).filter f++(if f X=true then [X] else [])):=by show _=_;rw [yM f x2 j hjx,hX]
     have HSX:=HSP.out j hjx
     rw [hX] at HSX
     have HSX':Hid (f X=true→cQ q (some (h,t))=(dn++(x2.take j).filter f)++X :: ((x2.drop (j+1)).filter f++iM q rest2)):=HSX
     subst hea
     obtain⟨Wa,hWa⟩:=nM (wr.alloc (.cells #[.string E.key,.string E.val,.int .i64 E.size,.int .i64 E.over] 108))
     have xa:Wa.heap[wr.heap.size]?=some (.cells #[.string E.key,.string E.val,.int .i64 E.size,.int .i64 E.over] 108):=hWa▸aA wr _
     obtain⟨g0,g1,g2',g3⟩:=iA xa
     have fa:Fr Bl.none wr Wa:=hWa▸(Fr.refl _ wr).alloc _
     have oA:On Rd w Wa:=oR.trans (fa.on (fun k hk=>⟨by have:=(hRd k hk).2;omega,fun h=>h⟩))
     obtain⟨s0,s1⟩:=bU (oA.heap xq r4)
     have hH:=zZ q E.key Wa
     have HEX:Hid (E=X.e):=hEX
     have za:wr.heap.size<Wa.heap.size:=(gL xa)
     clear hEX hE hX HSX
     cases hb:q.has E.key
     ·rw [hb] at hH
      have hfX:f X=false:=by show q.has X.e.key=false;rw [← HEX.out];exact hb
      gi_wp2_with (refine⟨trivial,rfl,?_⟩;gi_at_call 106;refine(CallsIn.inRound l2 (callsIn_wide.2 hH)).mono ?_;clear hH;rintro e Wb ⟨rfl,hbb⟩)
      have fb:Fr Bl.none wr Wb:=fa.trans (Fr.of_below hbb)
      have hJb:=sJ _ _ _ _ hJr (fb.on (fun k hk=>⟨lYr k hk,fun h=>h⟩))
      have HN:Hid (J (dn++(x2.take (j+1)).filter f) Yr Wb):=by
       show J _ _ _
       rw [HTK.out,hfX];simpa using hJb
      refine⟨fun _ h=>(by cases h),?_⟩
      gi_wp2
      go_roundw
      case rel=>exact⟨j+1,Yr,by omega,by go_num,HN.out,hFr.trans (fb.mono (fun _ h=>h.elim)),hGr⟩
      case measure=>simp [intOf];omega
     ·rw [hb] at hH
      have hfX:f X=true:=by show q.has X.e.key=true;rw [← HEX.out];exact hb
      gi_wp2_with (refine⟨trivial,rfl,?_⟩;gi_at_call 106;refine(CallsIn.inRound l2 (callsIn_wide.2 hH)).mono ?_;clear hH;rintro e Wb ⟨rfl,hbb⟩;have xb:=(hbb.block _ za).trans xa;obtain⟨t0,t1,t2,t3⟩:=iA xb;have fb:Fr Bl.none wr Wb:=fa.trans (Fr.of_below hbb);have yb:=fb.heap yR (fun h=>h);have yb0:Wb.cell? ⟨W.heap.size,0,none⟩=some (.func (.yield l) #[] #[]):=(by simp [World.cell?,yb]);have hJb:=sJ _ _ _ _ hJr (fb.on (fun k hk=>⟨lYr k hk,fun h=>h⟩));obtain⟨fn,tmps,assign,body,hy,hR⟩:=hY _ X _ #[.agg #[.string E.key,.string E.val,.int .i64 E.size,.int .i64 E.over]] Bl.none Yr Wb (HSX'.out hfX) hJb (by show _=_;rw [HEX.out]) (fun _ h=>h.elim) (FR.trans (fb.mono (fun _ h=>h.elim))) GR)
      refine⟨rfl,(lZ l2 (dF hR)).mono ?_⟩
      clear hy hR
      have FB:Fr Y2 We Wb:=hFr.trans (fb.mono (fun _ h=>h.elim))
      rintro e Wf (⟨rfl,Y5,hJ5,hF5,hG5⟩|⟨rfl,Y5,hJ5,hF5,hG5⟩)
      ·have HN:Hid (J (dn++(x2.take (j+1)).filter f) Y5 Wf):=by
        show J _ _ _
        rw [HTK.out,hfX,if_pos rfl,← List.append_assoc];exact hJ5
       clear hJ5
       gi_wp2
       go_roundw
       case rel=>exact⟨j+1,Y5,by omega,by go_num,HN.out,FB.grow hF5 hGr,hGr.trans FB.size hG5⟩
       case measure=>simp [intOf];omega
      ·gi_wp2
       exact⟨Y5,⟨rfl,_,by rw [HSX'.out hfX];exact⟨(x2.drop (j+1)).filter f++iM q rest2,by simp⟩,by simp,hJ5⟩,FB.grow hF5 hGr,hGr.trans FB.size hG5⟩
    ·obtain rfl:j=g2.ents.length:=by omega
     have HJ:Hid (J (iM q (pre2++[x2])) Yr wr):=by
      show J _ _ _
      rw [← HDN.out]
      have e:x2.take g2.ents.length=x2:=by rw [HGL.out];exact List.take_length
      rw [e] at hJr;exact hJr
     clear hJr
     gi_wp2
     exact⟨Yr,HJ.out,hFr,hGr⟩
  ·rintro D Y2 Wg hD hYD hJg hFg hGg hDW
   gi_wp2
   refine lO rfl hDW ⟨⟨_,rfl⟩,Y2,((F6.trans hFg).putObj (.inr (by omega)) _),(aI.refl W Y).trans F6.size hGg,.inl (sJ _ _ _ _ hJg ((On.refl _ _).putObj hYD _))⟩
  ·rintro D c pre Y2 Wg hD hYD hpre hne ⟨rfl,pp,h1,h2,h3⟩ hFg hGg hDW
   gi_wp2
   refine lO rfl hDW ⟨⟨_,rfl⟩,Y2,((F6.trans hFg).putObj (.inr (by omega)) _),(aI.refl W Y).trans F6.size hGg,.inr ⟨pp,h1,h2,sJx _ _ _ _ h3 ((On.refl _ _).putObj hYD _)⟩⟩
attribute [local go_sem] Oper.semAt_some
theorem qCo {α:Type} {P:Program} {g:Nat} {lb:Array Value} {Has:α→Array Value→Bl→World→Prop} {xs:List α} {Rd:Bl} {w w':World} (h:mT P g lb Has xs Rd w) (ho:On Rd w w'):mT P g lb Has xs Rd w' :=
 fun l J Jx Y W hon=>h l J Jx Y W (ho.trans hon)
def aN (es:List En):List Value:=(es.map (·.e)).flatMap Ent.cells
theorem Nn (es:List En) (x:En):aN (es++[x])=aN es++x.e.cells:=by simp [aN]
theorem Kb (bs:Nat) (ea:Option Addr) (ec:Nat) (es:List En) (S Rd:Bl) (w:World) (xs:w.heap[bs]?=some (.cells #[.slice ea es.length ec] 83)) (hR:aH w S ea (aN es)) (hn:es.length≤1000000) (hc:es.length≤ec) (r1:Rd bs) (rs:∀ k,S k→Rd k) :
  mT Tryz.prog 185 #[.pointer (some ⟨bs,0,none⟩)] pD es Rd w:=by
 intro l J Jx Y W hon hRd sJ lJ sJx lJx hY h0
 refine callsIn_of_wp Tryz.func185 rfl trivial ?_ rfl
 simp only [Tryz.ntmps185,jA,jB,jN,Nat.reduceAdd,Nat.reduceSub,jR,jO,jP,jT,jE,jF]
 have c0:W.cell? ⟨bs,0,none⟩=some (.slice ea es.length ec):=by simp [World.cell?,hon.heap xs r1]
 have RW:=hR.on (hon.mono rs)
 gi_wp2
 gi_loopw [7] (fun i wr=>∃ (j:Nat) (Yr:Bl),j≤es.length∧i=.int .i64 j∧J (es.take j) Yr wr∧Fr Y W wr∧aI W Y Yr) (fun i _=>es.length-(intOf i).toNat)
 case atStart=>exact⟨0,Y,Nat.zero_le _,rfl,by simpa using h0,Fr.refl _ _,aI.refl _ _⟩
 case round =>
  obtain⟨j,Yr,hj,rfl,hJr,hFr,hGr⟩:=hrel
  have lYr:=lJ _ _ _ hJr
  by_cases hlt:j<es.length
  ·have hlt':j<(es.map (·.e)).length:=by simpa using hlt
   obtain⟨rb,ro,hea,hrb,k0,k1,k2,k3⟩:=(RW.on (hFr.on (fun k hk=>⟨(hRd k (rs k hk)).2,(hRd k (rs k hk)).1⟩))).ent hlt'
   subst hea
   obtain⟨X,hX⟩:=nM (es[j])
   simp only [List.getElem_map,hX] at k0 k1 k2 k3
   obtain⟨Wa,hWa⟩:=nM (wr.alloc (.cells #[.string X.e.key,.string X.e.val,.int .i64 X.e.size,.int .i64 X.e.over] 108))
   have xa:Wa.heap[wr.heap.size]?=some (.cells #[.string X.e.key,.string X.e.val,.int .i64 X.e.size,.int .i64 X.e.over] 108):=hWa▸aA wr _
   obtain⟨g0,g1,g2,g3⟩:=iA xa
   have fa:Fr Bl.none wr Wa:=hWa▸(Fr.refl _ wr).alloc _
   have hsp:es=es.take j++X :: es.drop (j+1):=by rw [← hX];exact qM (jQ hlt)
   have htk:es.take (j+1)=es.take j++[X]:=by rw [← hX];exact List.take_succ_eq_append_getElem hlt
   have HSP:Hid (es=es.take j++X :: es.drop (j+1)):=hsp
   have HTK:Hid (es.take (j+1)=es.take j++[X]):=htk
   have hJa:=sJ _ _ _ _ hJr (fa.on (fun k hk=>⟨lYr k hk,fun h=>h⟩))
   have Fa:Fr Y W Wa:=hFr.trans (fa.mono (fun _ h=>h.elim))
   obtain⟨fn,tmps,assign,body,hy,hRr⟩:=hY _ X _ #[.agg #[.string X.e.key,.string X.e.val,.int .i64 X.e.size,.int .i64 X.e.over]] Bl.none Yr Wa hsp hJa rfl (fun _ h=>h.elim) Fa hGr
   clear hsp htk hX hR RW
   gi_wp2
   refine⟨rfl,(dF hRr).mono ?_⟩
   clear hy hRr
   rintro e Wf (⟨rfl,Y5,hJ5,hF5,hG5⟩|⟨rfl,Y5,hJ5,hF5,hG5⟩)
   ·have HN:Hid (J (es.take (j+1)) Y5 Wf):=by rw [HTK.out];exact hJ5
    clear hJ5
    gi_wp2
    go_roundw
    case rel=>exact⟨j+1,Y5,by omega,by go_num,HN.out,Fa.grow hF5 hGr,hGr.trans Fa.size hG5⟩
    case measure=>simp [intOf];omega
   ·gi_wp2
    refine bodyPost_ret (results_none rfl _ _ _) rfl ?_
    exact⟨⟨_,rfl⟩,Y5,Fa.grow hF5 hGr,hGr.trans Fa.size hG5,.inr ⟨_,by rw [← HTK.out];exact List.take_prefix _ _,by simp,hJ5⟩⟩
  ·obtain rfl:j=es.length:=by omega
   have HJ:Hid (J es Yr wr):=by rw [List.take_length] at hJr;exact hJr
   clear hJr
   gi_wp2
   go_end0
   exact⟨⟨_,rfl⟩,Yr,hFr,hGr,.inl HJ.out⟩
theorem Cv:(Tryz.prog.info? 108).map (fun i=>(i.zero,i.size,i.bytes))=some (some (.agg #[.string ⟨#[]⟩,.string ⟨#[]⟩,.int .i64 0,.int .i64 0]),4,48):=Tf
theorem Ex (gf:Nat) (lb:Array Value) (eg:∀ args w,(callFunc gf args).run Tryz.prog w=.ok (.enter gf args) w) (xs:List En) (Re:Bl) (w:World) (hseq:mT Tryz.prog gf lb pD xs Re w) (hRe:∀ k,Re k→k<w.heap.size) (hn:xs.length≤1000000) :
  Calls Tryz.prog 175 #[.slice none 0 0,.func (.func gf) #[] lb] w fun e w'=>∃ v,e=.returned v∧w'.ownsRow 0 108 4 v xs.length (aN xs)∧Below w.heap.size w w'∧∀ k,v.ownBlock=some k→w.heap.size≤k:=by
 refine(callsIn_wide (n:=0)).1 (callsIn_of_wp_marks Tryz.func175 rfl trivial ?_ rfl)
 simp only [Tryz.ntmps175,jA,jB,jN,Nat.reduceAdd,Nat.reduceSub,jR,jO,jP,jT,jE,jF]
 obtain⟨W1,hW1⟩:=nM (w.alloc (.cells #[.slice none 0 0] 83))
 have x1:W1.heap[w.heap.size]?=some (.cells #[.slice none 0 0] 83):=hW1▸aA w _
 have f1:Fr Bl.none w W1:=hW1▸(Fr.refl _ w).alloc _
 have z1:w.heap.size<W1.heap.size:=(gL x1)
 have hseq1:=qCo hseq (f1.on (fun k hk=>⟨hRe k hk,fun h=>h⟩))
 gi_wp2
 let b:=w.heap.size
 let I:List En→Bl→World→Prop:=fun pre Y W=>∃ v,W.heap[b]?=some (.cells #[v] 83)∧W.ownsRow 0 108 4 v pre.length (aN pre)∧(∀ k,Y k↔k=b∨v.ownBlock=some k)∧(∀ k,v.ownBlock=some k→w.heap.size≤k)
 refine eS (P:=Tryz.prog) (Has:=pD) (Rd:=Re) rfl eg hseq1 (fun x args S W hH=>by rw [show args=_ from hH];rfl) I (fun _ _ _ _=>False) ?_ (fun _ _ _ _ _ h=>h.elim) ?_ (fun _ _ _ _ h=>h.elim) (Bl.one b) ⟨.slice none 0 0,x1,by simpa [aN] using World.ownsRow_nil _ _ _ _,fun k=>by simp [Bl.one,Value.ownBlock],by simp [Value.ownBlock]⟩ ?_ ?_ ?_ (fun _ _ _ _ _ _ _ _ _ h=>h.elim)
 ·rintro pre Y A B ⟨v,h1,h2,h3,h4⟩ ho
  exact⟨v,ho.heap h1 ((h3 _).2 (.inl rfl)),aZ h2 ho (fun k hk=>(h3 k).2 (.inr hk)),h3,h4⟩
 ·rintro pre Y A ⟨v,h1,h2,h3,h4⟩ k hk
  rcases (h3 k).1 hk with rfl|h
  ·exact(gL h1)
  ·exact aQ h2 h
 ·intro k hk
  exact⟨fun h=>by simp only [Bl.one,b] at h;have:=hRe k hk;omega,by have:=hRe k hk;omega⟩
 ·rintro l pre x rest args S Y' W hx ⟨v,h1,h2,h3,h4⟩ hH hS hFW hGW hl0 hl1 hl2 ⟨r,hr⟩
  have hH':args=#[.agg #[.string x.e.key,.string x.e.val,.int .i64 x.e.size,.int .i64 x.e.over]]:=hH
  subst hH'
  have hpl:pre.length<1000000:=by have:=congrArg List.length hx;simp at this;omega
  clear hx
  unfold iC
  gi_wp2
  refine⟨(Fr.refl _ W).alloc _,?_⟩
  intro W₂ hT
  have x2:=hT.heap (k:=W.heap.size) (aA W (.cells #[.string x.e.key,.string x.e.val,.int .i64 x.e.size,.int .i64 x.e.over] 108)) (Nat.ne_of_gt hl1)
  obtain⟨m0,m1,m2,m3⟩:=iA x2
  have aW:Fr Bl.none W (W.alloc (.cells #[.string x.e.key,.string x.e.val,.int .i64 x.e.size,.int .i64 x.e.over] 108)):=(Fr.refl _ W).alloc _
  have fX:Fr (Bl.one l) W W₂:=(aW.mono (fun _ h=>h.elim)).trans hT.fr
  have b2:=fX.heap h1 (fun h=>by simp only [Bl.one] at h;exact hl2 ((h3 _).2 (.inl h.symm)))
  have o2:W₂.ownsRow 0 108 4 v pre.length (aN pre):=aZ h2 (fX.on (Z:=fun k=>v.ownBlock=some k) (fun k hk=>⟨aQ h2 hk,fun h=>by simp only [Bl.one] at h;subst h;exact hl2 ((h3 _).2 (.inr hk))⟩)) (fun k hk=>hk)
  have c2:W₂.cell? ⟨w.heap.size,0,none⟩=some v:=by
   have:W₂.heap[w.heap.size]?=_:=b2
   simp [World.cell?,this]
  have nb:=bD o2 b2 (by decide)
  obtain⟨a,c,rfl⟩:=aO o2
  have zb:b<W₂.heap.size:=(gL b2)
  gi_wp2_with (gi_at_builtin;refine Fb W₂ rfl (.tmp 8) (.tmp 10) 83 108 _ 4 48 rfl Tryz.underlying83 Cv rfl (by decide) (.slice a pre.length c) pre.length (aN pre) rfl o2 [.string x.e.key,.string x.e.val,.int .i64 x.e.size,.int .i64 x.e.over] rfl rfl (by simp [Value.oneCell']) (by omega) (by omega) ?_;intro v3 W₃ A3;obtain⟨g3,k3,rfl⟩:=A3.shape (by decide);have b3:=A3.fr.heap b2 nb;have c3:W₃.cell? ⟨w.heap.size,0,none⟩=some (.slice a pre.length c):=(by have:W₃.heap[w.heap.size]?=_:=b3;simp [World.cell?,this]);have mfr:∀ k,W₃.frozen? ⟨w.heap.size,k,none⟩=false:=aD (show W₃.heap[w.heap.size]?=_ from b3))
  have b4:=aF (show W₃.heap[w.heap.size]?=_ from b3) 0 (.slice (some ⟨g3,0,none⟩) (pre.length+1) k3)
  refine⟨fun k=>k=b∨g3=k,⟨.slice (some ⟨g3,0,none⟩) (pre.length+1) k3,by simpa using b4,?_,fun k=>by simp [Value.ownBlock],?_⟩,?_,?_⟩
  ·rw [jK,List.length_singleton,Nn]
   exact aZ A3.row ((On.refl (fun k=>Value.ownBlock _=some k) W₃).setCell (p:=⟨w.heap.size,0,none⟩) (fun hk=>bD A3.row (show W₃.heap[w.heap.size]?=_ from b3) (by decide) hk) _) (fun k hk=>hk)
  ·intro k hk
   rcases A3.lies k hk with h|h
   ·exact h4 k h
   ·have:w.heap.size<W₂.heap.size:=zb;omega
  ·have FA:Fr Y' W₂ W₃:=A3.fr.mono (fun k hk=>.inl ((h3 k).2 (.inr hk)))
   exact FA.setCell (p:=⟨w.heap.size,0,none⟩) (.inl ((h3 _).2 (.inl rfl))) _
  ·rintro k (rfl|hk)
   ·exact .inl ((h3 _).2 (.inl rfl))
   ·rcases A3.lies k (by simp [Value.ownBlock,hk]) with h|h
    ·exact .inl ((h3 k).2 (.inr h))
    ·exact .inr h
 ·rintro D Y' W hD hYD ⟨v,h1,h2,h3,h4⟩ hFW hGW hDW
  have c1:W.cell? ⟨w.heap.size,0,none⟩=some v:=by
   have:W.heap[w.heap.size]?=_:=h1
   simp [World.cell?,this]
  obtain⟨a,c,rfl⟩:=aO h2
  have hm:Marks w.heap.size [mk D] W:=(Marks.nil w.heap.size W1).cons (fun D' _ h=>hFW.heap h (fun e=>by simp only [Bl.one,b] at e;subst e;rw [x1] at h;simp at h)) (by omega) hDW hD
  gi_wp2
  refine Nj rfl hm ?_
  intro w' ht'
  exact⟨_,rfl,qU h2 ht',((f1.mono (fun _ h=>h.elim)).trans hFW |>.took ht' (jU _)).below (jU _) (fun k hk=>by simp only [Bl.one,b] at hk;omega),h4⟩
theorem yQ (gf:Nat) (lb:Array Value) (eg:∀ args w,(callFunc gf args).run Tryz.prog w=.ok (.enter gf args) w) (xs:List En) (Re:Bl) (w:World) (hseq:mT Tryz.prog gf lb pD xs Re w) (hRe:∀ k,Re k→k<w.heap.size) (hn:xs.length≤1000000) :
  Calls Tryz.prog 163 #[.func (.func gf) #[] lb] w fun e w'=>∃ v,e=.returned v∧w'.ownsRow 0 108 4 v xs.length (aN xs)∧Below w.heap.size w w'∧∀ k,v.ownBlock=some k→w.heap.size≤k:=by
 have hA:=Ex gf lb eg xs Re w hseq hRe hn
 go_enter Tryz.func163,Tryz.ntmps163
 go_wp2_with (go_at_call 175;refine hA.mono ?_;rintro e w1 ⟨v,rfl,h1,h2,h3⟩)
 go_ret
 exact⟨_,rfl,h1,h2,h3⟩
variable {P:Program} {S:Bl} {a:Option Addr} {j z:Nat} {w:World} {α:Type}
def tot {α:Type} (sz:α→Nat) (l:List α):Nat:=(l.map sz).sum
theorem Se (sz:α→Nat):tot sz []=0:=rfl
theorem gH (sz:α→Nat) (x:α) (l:List α):tot sz (x :: l)=sz x+tot sz l:=by simp [tot]
theorem As (sz:α→Nat) (l m:List α):tot sz (l++m)=tot sz l+tot sz m:=by simp [tot]
theorem rV (sz:α→Nat) (l:List α) (j:Nat) (h:j<l.length):tot sz (l.take (j+1))=tot sz (l.take j)+sz l[j]:=by
 rw [List.take_succ_eq_append_getElem h,As];simp [tot]
theorem Fj (sz:α→Nat) (l:List α) (j:Nat):tot sz l=tot sz (l.take j)+tot sz (l.drop j):=by
 rw [← As,List.take_append_drop]
theorem qK (sz:α→Nat) (l:List α) (m:Nat) (h:∀ x∈l,sz x≤m):tot sz l≤l.length * m:=by
 induction l with
 | nil=>simp [tot]
 | cons x l ih =>
  rw [gH,jB,Nat.succ_mul]
  have:=ih (fun y hy=>h y (by simp [hy]))
  have:=h x (by simp)
  omega
def shN {α:Type} (sz:α→Nat) (all:Nat):List α→Nat→Nat
 | [],_=>0
 | x :: l,f=>if 2 * f+sz x≤all∧f+sz x≤250 then shN sz all l (f+sz x)+1 else 0
theorem tG (sz:α→Nat) (all:Nat):∀ (l:List α) (f:Nat),shN sz all l f≤l.length
 | [],_=>by simp [shN]
 | x :: l,f=>by
  simp only [shN]
  have:=tG sz all l (f+sz x)
  split<;>simp<;>omega
theorem Pf (sz:α→Nat) (all:Nat):∀ (l:List α) (f j:Nat),j≤shN sz all l f→(hj:j<l.length)→(j<shN sz all l f↔(2 * (f+tot sz (l.take j))+sz l[j]≤all∧f+tot sz (l.take j)+sz l[j]≤250))
 | [],_,_,_,hj=>by simp at hj
 | x :: l,f,0,_,_=>by
  simp only [shN,List.take_zero,Se,Nat.add_zero,List.getElem_cons_zero]
  split<;>simp_all
 | x :: l,f,j+1,h,hj=>by
  simp only [shN] at h ⊢
  split at h
  ·rename_i hc
   rw [if_pos hc,List.take_succ_cons,gH,List.getElem_cons_succ,← Nat.add_assoc]
   have:=Pf sz all l (f+sz x) j (by omega) (by simpa using hj)
   rw [← this];omega
  ·omega
theorem uH (sz:α→Nat) (all:Nat):∀ (l:List α) (f:Nat),f≤250→f+tot sz (l.take (shN sz all l f))≤250
 | [],f,h=>by simpa [shN,tot] using h
 | x :: l,f,h=>by
  simp only [shN]
  split
  ·rename_i hc
   rw [List.take_succ_cons,gH,← Nat.add_assoc]
   exact uH sz all l _ hc.2
  ·simpa [tot] using h
theorem Az (sz:α→Nat) (all:Nat) (l:List α) (hb:250<tot sz l):shN sz all l 0<l.length:=by
 rcases Nat.lt_or_ge (shN sz all l 0) l.length with h|h
 ·exact h
 ·have:=uH sz all l 0 (by omega)
  rw [List.take_of_length_le h] at this;omega
theorem sC (sz:α→Nat) (l:List α) (hl:250<tot sz l) (hs:∀ x∈l,sz x≤250):0<shN sz (tot sz l) l 0:=by
 cases l with
 | nil=>simp [tot] at hl
 | cons x l =>
  simp only [shN]
  have:=hs x (by simp)
  rw [if_pos ⟨by omega,by omega⟩]
  omega
def mO {α:Type} (sz:α→Nat):Nat→List α→List (List α)
 | 0,_=>[]
 | k+1,l=>if tot sz l≤250 then (if l.length=0 then [] else [l]) else l.take (shN sz (tot sz l) l 0) :: mO sz k (l.drop (shN sz (tot sz l) l 0))
theorem Hs (sz:α→Nat):∀ (k:Nat) (l:List α),(∀ x∈l,sz x≤250)→l.length<k→(mO sz k l).flatten=l
 | 0,l,_,h=>by omega
 | k+1,l,hs,h=>by
  simp only [mO]
  split
  ·split
   ·rename_i h0;simp [List.eq_nil_of_length_eq_zero h0]
   ·simp
  ·rename_i hb
   have hp:=sC sz l (by omega) hs
   have hle:=tG sz (tot sz l) l 0
   rw [List.flatten_cons,Hs sz k _ (fun x hx=>hs x (List.mem_of_mem_drop hx)) (by rw [List.length_drop];omega),List.take_append_drop]
theorem Tn (sz:α→Nat):∀ (k:Nat) (l:List α),(∀ x∈l,sz x≤250)→∀ p∈mO sz k l,p≠[]
 | 0,l,_,p,h=>by simp [mO] at h
 | k+1,l,hs,p,h=>by
  simp only [mO] at h
  split at h
  ·split at h
   ·simp at h
   ·simp at h;subst h;intro e;subst e;simp at *
  ·rename_i hb
   have hp:=sC sz l (by omega) hs
   have hle:=tG sz (tot sz l) l 0
   rcases List.mem_cons.1 h with rfl|h
   ·intro e
    have:=congrArg List.length e
    rw [List.length_take,jN] at this;omega
   ·exact Tn sz k _ (fun x hx=>hs x (List.mem_of_mem_drop hx)) p h
theorem Ns (sz:α→Nat):∀ (k:Nat) (l:List α),∀ p∈mO sz k l,tot sz p≤250
 | 0,l,p,h=>by simp [mO] at h
 | k+1,l,p,h=>by
  simp only [mO] at h
  split at h
  ·split at h
   ·simp at h
   ·simp at h;subst h;assumption
  ·rcases List.mem_cons.1 h with rfl|h
   ·have:=uH sz (tot sz l) l 0 (by omega);omega
   ·exact Ns sz k _ p h
theorem Hr (sz:α→Nat):∀ (k k':Nat) (l:List α),(∀ x∈l,sz x≤250)→l.length<k→l.length<k'→mO sz k l=mO sz k' l
 | 0,_,l,_,h,_=>by omega
 | _,0,l,_,_,h=>by omega
 | k+1,k'+1,l,hs,h,h'=>by
  simp only [mO]
  split
  ·rfl
  ·rename_i hb
   have hp:=sC sz l (by omega) hs
   have hle:=tG sz (tot sz l) l 0
   rw [Hr sz k k' _ (fun x hx=>hs x (List.mem_of_mem_drop hx)) (by rw [List.length_drop];omega) (by rw [List.length_drop];omega)]
def eC {α:Type} (sz:α→Nat) (l:List α):List (List α):=mO sz (l.length+1) l
theorem Hq (sz:α→Nat) (l:List α) (hs:∀ x∈l,sz x≤250) (hb:250<tot sz l):eC sz l=l.take (shN sz (tot sz l) l 0) :: eC sz (l.drop (shN sz (tot sz l) l 0)):=by
 have hp:=sC sz l (by omega) hs
 have hle:=tG sz (tot sz l) l 0
 show mO sz (l.length+1) l=_
 simp only [mO]
 rw [if_neg (by omega)]
 congr 1
 exact Hr sz _ _ _ (fun x hx=>hs x (List.mem_of_mem_drop hx)) (by rw [List.length_drop];omega) (by omega)
theorem sP (sz:α→Nat) (l:List α) (hb:tot sz l≤250):eC sz l=if l.length=0 then [] else [l]:=by
 show mO sz (l.length+1) l=_
 simp only [mO]
 rw [if_pos hb]
theorem oV (sz:α→Nat) (l:List α) (hs:∀ x∈l,sz x≤250):(eC sz l).flatten=l:=Hs sz _ l hs (by omega)
theorem Af (sz:α→Nat) (l:List α) (hs:∀ x∈l,sz x≤250):∀ p∈eC sz l,p≠[]:=Tn sz _ l hs
theorem qAq (sz:α→Nat) (l:List α):∀ p∈eC sz l,tot sz p≤250:=Ns sz _ l
def esz (x:En):Nat:=if 60<x.e.size then x.e.key.size+6 else x.e.key.size+x.e.val.size+3
theorem tB (x:En) (w:World) (hb:x.e.key.size≤1000000) (hb2:x.e.val.size≤1000000) :
  Calls Tryz.prog 174 #[.agg #[.string x.e.key,.string x.e.val,.int .i64 x.e.size,.int .i64 x.e.over]] w fun e w'=>e=.returned (.int .i64 (esz x))∧Below w.heap.size w w':=by
 obtain⟨W1,hW1⟩:=nM (w.alloc (.cells #[.string x.e.key,.string x.e.val,.int .i64 x.e.size,.int .i64 x.e.over] 108))
 have b1:Below w.heap.size w W1:=hW1▸(bA _ _)
 obtain⟨m0,m1,m2,m3⟩:=iA (hW1▸aA w _:W1.heap[w.heap.size]?=some (.cells #[.string x.e.key,.string x.e.val,.int .i64 x.e.size,.int .i64 x.e.over] 108))
 have e1:60<x.e.size→esz x=x.e.key.size+6:=fun h=>if_pos h
 have e2:¬ 60<x.e.size→esz x=x.e.key.size+x.e.val.size+3:=fun h=>if_neg h
 go_enter Tryz.func174,Tryz.ntmps174
 by_cases hs:60<x.e.size
 ·have E1:Hid (esz x=x.e.key.size+6):=e1 hs
  clear e1 e2
  go_wp2
  go_ret
  exact⟨by rw [E1.out];first|rfl|(congr 2;go_num),b1⟩
 ·have E1:Hid (esz x=x.e.key.size+x.e.val.size+3):=e2 hs
  clear e1 e2
  go_wp2
  go_ret
  exact⟨by rw [E1.out];first|rfl|(congr 2;go_num),b1⟩
def En.fits (x:En):Prop:=x.e.key.size≤24∧x.e.val.size≤400
theorem oT {x:En} (h:x.fits):esz x≤427:=by unfold esz;have:=h.1;have:=h.2;split<;>omega
theorem Ar (ea:Option Addr) (ec:Nat) (es:List En) (S:Bl) (w:World) (hR:aH w S ea (aN es)) (hS:∀ b,S b→b<w.heap.size) (hn:es.length≤1000000) (hc:es.length≤ec) (hf:∀ x∈es,x.fits) :
  Calls Tryz.prog 183 #[.slice ea es.length ec,.func (.func 174) #[] #[]] w fun e w'=>e=.returned (.int .i64 (tot esz es))∧Below w.heap.size w w':=by
 go_enter Tryz.func183,Tryz.ntmps183
 go_wp2
 go_loopw [5,10] (fun a b wr=>∃ j:Nat,a=.int .i64 (tot esz (es.take j))∧b=.int .i64 j∧j≤es.length∧Below w.heap.size w wr) (fun _ b _=>es.length-(intOf b).toNat)
 case atStart=>exact⟨0,by simp [tot],rfl,Nat.zero_le _,Below.refl _ _⟩
 case round =>
  obtain⟨j,rfl,rfl,hj,hb⟩:=hrel
  by_cases hlt:j<es.length
  ·have hlt':j<(es.map (·.e)).length:=by simpa using hlt
   obtain⟨rb,ro,hea,hrb,k0,k1,k2,k3⟩:=(hR.on (vV hb hS)).ent hlt'
   subst hea
   obtain⟨X,hX⟩:=nM (es[j])
   simp only [List.getElem_map,hX] at k0 k1 k2 k3
   have hXf:X.fits:=hX▸hf _ (List.getElem_mem hlt)
   obtain⟨Wa,hWa⟩:=nM (wr.alloc (.cells #[.string X.e.key,.string X.e.val,.int .i64 X.e.size,.int .i64 X.e.over] 108))
   have xa:Wa.heap[wr.heap.size]?=some (.cells #[.string X.e.key,.string X.e.val,.int .i64 X.e.size,.int .i64 X.e.over] 108):=hWa▸aA wr _
   obtain⟨g0,g1,g2,g3⟩:=iA xa
   have ba:Below w.heap.size w Wa:=hWa▸hb.alloc hb.size _
   have hC:=tB X Wa (by have:=hXf.1;omega) (by have:=hXf.2;omega)
   have htk:tot esz (es.take (j+1))=tot esz (es.take j)+esz X:=by rw [← hX];exact rV esz es j hlt
   have HTK:Hid (tot esz (es.take (j+1))=tot esz (es.take j)+esz X):=htk
   have hle:=qK esz (es.take j) 427 (fun x hx=>oT (hf x (List.mem_of_mem_take hx)))
   have hle2:tot esz (es.take j)≤427000000:=by
    have:(es.take j).length≤1000000:=by rw [List.length_take];omega
    omega
   have hsx:=oT hXf
   obtain⟨n,hn'⟩:∃ n,tot esz (es.take j)=n:=⟨_,rfl⟩
   obtain⟨m,hm⟩:=nM (esz X)
   rw [hn'] at hle2
   rw [hm] at hsx
   simp only [hm] at hC
   have HM:Hid (tot esz (es.take (j+1))=n+m):=by rw [htk,hn',hm];exact rfl
   have HN:Hid (tot esz (es.take j)=n):=hn'
   simp only [hn']
   clear htk HTK hX hR hle hn' hm
   go_wp2_with (go_at_call 174;refine hC.mono ?_;rintro e w2 ⟨rfl,hb2⟩)
   go_roundw
   case rel=>exact⟨j+1,by rw [HM.out];congr 1,by go_num,by omega,ba.trans (hb2.mono ba.size)⟩
   case measure=>simp [intOf];omega
  ·obtain rfl:j=es.length:=by omega
   have HT:Hid (tot esz (es.take es.length)=tot esz es):=by rw [List.take_length];exact rfl
   go_wp2
   go_ret
   exact⟨by first|rfl|(rw [← HT.out];rfl)|(rw [HT.out];rfl)|(simp [HT.out];done),hb⟩
theorem Ir {a a' b b':Nat} (h1:a=a') (h2:b=b'):Ending.returned (.tuple #[.int .i64 a,.int .i64 b])=.returned (.tuple #[.int .i64 a',.int .i64 b']):=by rw [h1,h2]
theorem Pe (ea:Option Addr) (ec:Nat) (es:List En) (all:Nat) (S:Bl) (w:World) (hR:aH w S ea (aN es)) (hS:∀ b,S b→b<w.heap.size) (hn:es.length≤1000000) (hc:es.length≤ec) (hf:∀ x∈es,x.fits) (ha:250<tot esz es) (ha2:all≤427000000) :
  Calls Tryz.prog 184 #[.slice ea es.length ec,.func (.func 174) #[] #[],.int .i64 all] w fun e w'=>e=.returned (.tuple #[.int .i64 (shN esz all es 0),.int .i64 (tot esz (es.take (shN esz all es 0)))])∧Below w.heap.size w w':=by
 go_enter Tryz.func184,Tryz.ntmps184
 go_wp2
 go_loopw [8,9] (fun a b wr=>∃ j:Nat,b=.int .i64 (tot esz (es.take j))∧a=.int .i64 j∧j≤shN esz all es 0∧Below w.heap.size w wr) (fun a _ _=>es.length-(intOf a).toNat)
 case atStart=>exact⟨0,by simp [tot],rfl,Nat.zero_le _,Below.refl _ _⟩
 case round =>
  obtain⟨j,rfl,rfl,hj,hb⟩:=hrel
  have hin:j<es.length:=Nat.lt_of_le_of_lt hj (Az esz all es ha)
  have hat:=Pf esz all es 0 j hj hin
  have hin':j<(es.map (·.e)).length:=by simpa using hin
  obtain⟨rb,ro,hea,hrb,k0,k1,k2,k3⟩:=(hR.on (vV hb hS)).ent hin'
  subst hea
  have htk:tot esz (es.take (j+1))=tot esz (es.take j)+esz es[j]:=rV esz es j hin
  have hXf:(es[j]).fits:=hf _ (List.getElem_mem hin)
  obtain⟨X,hX⟩:=nM (es[j])
  simp only [List.getElem_map,hX] at k0 k1 k2 k3 htk hXf hat
  have hsx:=oT hXf
  have hft:=uH esz all es 0 (by omega)
  obtain⟨n,hn'⟩:∃ n,tot esz (es.take j)=n:=⟨_,rfl⟩
  obtain⟨m,hm⟩:=nM (esz X)
  have hn2:n≤427000000:=by
   have h1:=qK esz (es.take j) 427 (fun x hx=>oT (hf x (List.mem_of_mem_take hx)))
   have h2:(es.take j).length≤1000000:=by rw [List.length_take];omega
   omega
  simp only [hn',Nat.zero_add,hm] at hat htk hsx ⊢
  have HM:Hid (tot esz (es.take (j+1))=n+m):=htk
  have HN:Hid (tot esz (es.take j)=n):=hn'
  have HX:Hid (esz X=m):=hm
  have HAT:Hid (j<shN esz all es 0↔2 * n+m≤all∧n+m≤250):=hat
  have on:∀ W,Below wr.heap.size wr W→On S wr W:=fun W hW=>vV hW (fun k hk=>jY (hS k hk) hb.size)
  have HK:Hid (∀ W,Below wr.heap.size wr W→W.cell? ⟨rb,ro+j * 4,none⟩=some (.string X.e.key)∧W.cell? ⟨rb,ro+j * 4+1,none⟩=some (.string X.e.val)∧W.cell? ⟨rb,ro+j * 4+2,none⟩=some (.int .i64 X.e.size)∧W.cell? ⟨rb,ro+j * 4+3,none⟩=some (.int .i64 X.e.over)):=fun W hW=>⟨(on W hW).cell _ hrb |>.trans k0,(on W hW).cell _ hrb |>.trans k1,(on W hW).cell _ hrb |>.trans k2,(on W hW).cell _ hrb |>.trans k3⟩
  have HC:Hid (∀ W,Calls Tryz.prog 174 #[.agg #[.string X.e.key,.string X.e.val,.int .i64 X.e.size,.int .i64 X.e.over]] W fun e w'=>e=.returned (.int .i64 m)∧Below W.heap.size W w'):=fun W=>by have h:=tB X W (by have:=hXf.1;omega) (by have:=hXf.2;omega);rw [hm] at h;exact h
  have hbb:Below wr.heap.size wr wr:=Below.refl _ _
  have hjs:¬ j<shN esz all es 0→Hid (shN esz all es 0=j∧tot esz (es.take (shN esz all es 0))=n):=fun h=>by
   have e:shN esz all es 0=j:=by omega
   exact⟨e,by rw [e,hn']⟩
  clear htk hX hR hn' hm hft on
  by_cases hle1:2 * n+m≤all
  ·have hl1:2 * (n:Int)+(m:Int)≤(all:Int):=by omega
   by_cases hle:n+m≤250
   ·have hlei:(n:Int)+(m:Int)≤250:=by omega
    clear hjs hat
    go_wp2_with (go_at_call 174;refine jC (HC.out _) ?_;rintro e w2 ⟨rfl,hb2⟩;have hbb:=hbb.trans (hb2.mono hbb.size);obtain⟨k0,k1,k2,k3⟩:=HK.out _ hbb)
    go_roundw
    case rel=>exact⟨j+1,by rw [HM.out];congr 1,by go_num,HAT.out.2 ⟨hle1,hle⟩,hb.trans (hbb.mono hb.size)⟩
    case measure=>simp [intOf];omega
   ·have hlei:¬ (n:Int)+(m:Int)≤250:=by omega
    have hje:=hjs (fun h=>hle (hat.1 h).2)
    clear hjs hat
    go_wp2_with (go_at_call 174;refine jC (HC.out _) ?_;rintro e w2 ⟨rfl,hb2⟩;have hbb:=hbb.trans (hb2.mono hbb.size);obtain⟨k0,k1,k2,k3⟩:=HK.out _ hbb)
    go_ret2
    exact⟨Ir hje.out.1.symm hje.out.2.symm,hb.trans (hbb.mono hb.size)⟩
  ·have hl1:¬ 2 * (n:Int)+(m:Int)≤(all:Int):=by omega
   have hje:=hjs (fun h=>hle1 (hat.1 h).1)
   clear hjs hat
   go_wp2_with (go_at_call 174;refine jC (HC.out _) ?_;rintro e w2 ⟨rfl,hb2⟩;have hbb:=hbb.trans (hb2.mono hbb.size);obtain⟨k0,k1,k2,k3⟩:=HK.out _ hbb)
   go_ret2
   exact⟨Ir hje.out.1.symm hje.out.2.symm,hb.trans (hbb.mono hb.size)⟩
structure Pc (α:Type) where
 a:Option Addr
 c:Nat
 l:List α
def Pc.val {α:Type} (q:Pc α):Value:=.slice q.a q.l.length q.c
theorem Df {g:α→List Value}  (l:List α) (hz:∀ x∈l,(g x).length=z):(l.flatMap g).length=l.length * z:=by
 induction l with
 | nil=>simp
 | cons x l ih =>
  rw [List.flatMap_cons,jK,ih (fun y hy=>hz y (by simp [hy])),hz x (by simp),jB,Nat.succ_mul]
  omega
theorem aH.takeZ {g:α→List Value} {z:Nat}    {l:List α} (n:Nat) (h:aH w S a (l.flatMap g)):aH w S a ((l.take n).flatMap g):=by
 have e:l.flatMap g=(l.take n).flatMap g++(l.drop n).flatMap g:=by rw [← List.flatMap_append,List.take_append_drop]
 rcases h with h|⟨b,off,hb,hs,hc⟩
 ·rw [e] at h
  exact .inl (List.append_eq_nil_iff.1 h).1
 ·refine .inr ⟨b,off,hb,hs,fun j u hu=>hc j u ?_⟩
  rw [e,List.getElem?_append_left (List.getElem?_eq_some_iff.1 hu).1]
  exact hu
theorem aH.dropZ {g:α→List Value}    {b off:Nat} {l:List α} (n:Nat) (hz:∀ x∈l,(g x).length=z) (h:aH w S (some ⟨b,off,none⟩) (l.flatMap g)) (hn:n≤l.length):aH w S (some ⟨b,off+n * z,none⟩) ((l.drop n).flatMap g):=by
 have e:l.flatMap g=(l.take n).flatMap g++(l.drop n).flatMap g:=by rw [← List.flatMap_append,List.take_append_drop]
 have e2:((l.take n).flatMap g).length=n * z:=by rw [Df _ (fun x hx=>hz x (List.mem_of_mem_take hx)),List.length_take,Nat.min_eq_left hn]
 rcases h with h|⟨b',off',hb,hs,hc⟩
 ·rw [e] at h
  exact .inl (List.append_eq_nil_iff.1 h).2
 ·simp only [Option.some.injEq,Addr.mk.injEq,and_true] at hb
  obtain⟨rfl,rfl⟩:=hb
  refine .inr ⟨b,off+n * z,rfl,hs,fun j u hu=>?_⟩
  have:=hc (n * z+j) u (by rw [e,List.getElem?_append_right (by omega),e2];simpa using hu)
  rw [Nat.add_assoc];exact this
theorem rL (es:List En):aN es=es.flatMap (fun x=>x.e.cells):=by
 simp [aN,List.flatMap_map]
theorem Nm (es:List En):∀ x∈es,((fun x:En=>x.e.cells) x).length=4:=fun x _=>rfl
theorem aH.addr {vs:List Value} (h:aH w S a vs) (hne:vs≠[]):∃ b off,a=some ⟨b,off,none⟩∧S b:=by
 rcases h with h|⟨b,off,ha,hb,_⟩
 ·exact(hne h).elim
 ·exact⟨b,off,ha,hb⟩
theorem wZ {es:List En} (h:0<es.length):aN es≠[]:=by
 cases es with
 | nil=>simp at h
 | cons x l=>simp [aN,Ent.cells]
theorem Mo:(Tryz.prog.info? 83).map (fun i=>(i.zero,i.size,i.bytes))=some (some (.slice none 0 0),1,24):=by kernel_rfl
def qFp (w:World) (S:Bl) (v:Value) (ps:List (List En)):Prop :=
 ∃ qs:List (Pc En),w.ownsRow 0 83 1 v qs.length (qs.map Pc.val)∧qs.map (·.l)=ps∧∀ q∈qs,q.l.length≤q.c∧aH w S q.a (aN q.l)
theorem qAs (ea:Option Addr) (ec:Nat) (es:List En) (S:Bl) (w:World) (hR:aH w S ea (aN es)) (hS:∀ b,S b→b<w.heap.size) (hn:es.length≤1000000) (hc:es.length≤ec) (hf:∀ x∈es,x.fits) (h250:∀ x∈es,esz x≤250) :
  Calls Tryz.prog 173 #[.slice ea es.length ec,.func (.func 174) #[] #[]] w fun e w'=>∃ v,e=.returned v∧qFp w' S v (eC esz es)∧Below w.heap.size w w'∧∀ k,v.ownBlock=some k→w.heap.size≤k:=by
 have hT:=Ar ea ec es S w hR hS hn hc hf
 have hle:∀ r:List En,(∀ x∈r,x∈es)→r.length≤es.length→tot esz r≤427000000:=fun r hr hl=>by
  have:=qK esz r 427 (fun x hx=>oT (hf x (hr x hx)))
  omega
 go_enter Tryz.func173,Tryz.ntmps173
 go_wp2_with (go_at_call 183;refine hT.mono ?_;rintro e w1 ⟨rfl,hb1⟩)
 go_loopw [0,5,6] (fun a p t wr=>∃ (r:List En) (ra:Option Addr) (rc:Nat) (qs:List (Pc En)),a=.slice ra r.length rc∧r.length≤rc∧t=.int .i64 (tot esz r)∧aH w S ra (aN r)∧(∀ x∈r,x∈es)∧r.length≤es.length∧qs.length+r.length≤es.length∧eC esz es=qs.map (·.l)++eC esz r∧wr.ownsRow 0 83 1 p qs.length (qs.map Pc.val)∧(∀ q∈qs,q.l.length≤q.c∧aH w S q.a (aN q.l))∧Below w.heap.size w wr∧∀ k,p.ownBlock=some k→w.heap.size≤k) (fun a _ _ _=>match a with|.slice _ n _=>n|_=>0)
 case atStart=>exact⟨es,ea,ec,[],rfl,hc,rfl,hR,fun _ h=>h,jU _,by simp,by simp,World.ownsRow_nil _ _ _ _,by simp,hb1,by simp [Value.ownBlock]⟩
 case round =>
  obtain⟨r,ra,rc,qs,rfl,hrc,rfl,hRr,hmem,hrl,hql,hcut,hown,hqs,hb,hlies⟩:=hrel
  have hRw:=hRr.on (vV hb hS)
  have hSw:∀ b,S b→b<wr.heap.size:=fun b h=>jY (hS b h) hb.size
  have htr:=hle r hmem hrl
  have HCUT:Hid (eC esz es=qs.map (·.l)++eC esz r):=hcut
  clear hcut
  by_cases hgt:250<tot esz r
  ·have hr0:0<r.length:=by
    cases r with
    | nil=>simp [tot] at hgt
    | cons x r=>simp
   obtain⟨rb,ro,rfl,hrb⟩:=hRr.addr (wZ hr0)
   have hrmem:∀ x∈r,esz x≤250:=fun x hx=>h250 x (hmem x hx)
   have hSh:=Pe (some ⟨rb,ro,none⟩) rc r (tot esz r) S wr hRw hSw (by omega) hrc (fun x hx=>hf x (hmem x hx)) (by omega) (by omega)
   have hpos:=sC esz r (by omega) hrmem
   have hnle:=tG esz (tot esz r) r 0
   have hst:=Hq esz r hrmem hgt
   have hsp:=Fj esz r (shN esz (tot esz r) r 0)
   obtain⟨n,hn'⟩:∃ n,shN esz (tot esz r) r 0=n:=⟨_,rfl⟩
   rw [hn'] at hSh hpos hnle hst hsp
   obtain⟨f,hf'⟩:∃ f,tot esz (r.take n)=f:=⟨_,rfl⟩
   rw [hf'] at hSh hsp
   obtain⟨t,ht⟩:=nM (tot esz r)
   rw [ht] at hSh hgt htr hsp
   simp only [ht]
   have hgti:(t:Int) > 250:=by omega
   have hSz:∀ z:Int,z=((t:Nat):Int)→Calls Tryz.prog 184 #[.slice (some ⟨rb,ro,none⟩) r.length rc,.func (.func 174) #[] #[],.int .i64 z] wr fun e w'=>e=.returned (.tuple #[.int .i64 n,.int .i64 f])∧Below wr.heap.size wr w':=fun z hz=>hz▸hSh
   have HST:Hid (eC esz r=r.take n :: eC esz (r.drop n)):=hst
   have HF:Hid (tot esz (r.drop n)=t-f):=by show _=_;omega
   have hfle:f≤t:=by omega
   have hnli:(n:Int)≤(rc:Int):=by omega
   have hnli2:(n:Int)≤(r.length:Int):=by omega
   have hdl:(r.drop n).length=r.length-n:=List.length_drop ..
   have HDL:Hid ((r.drop n).length=r.length-n):=hdl
   have HTL:Hid ((r.take n).length=n):=by show _=_;rw [List.length_take];omega
   clear hst hsp hn' hf' ht hT hle hdl hSh
   obtain⟨pa,pcp,rfl⟩:=aO hown
   have hQ:qs.length+1≤1000001:=by omega
   go_wp2_with (first
    | (go_at_call 184;refine(hSz _ (by first|rfl|omega)).mono ?_;clear hSz;rintro e w2 ⟨rfl,hb2⟩;have f2:Fr Bl.none wr w2:=Fr.of_below hb2;have o2:=aZ hown (f2.on (Z:=fun k=>Value.ownBlock (.slice pa qs.length pcp)=some k) (fun k hk=>⟨aQ hown hk,fun h=>h⟩)) (fun k hk=>hk))
    | (at_builtin;refine nA w2 rfl (.tmp 21) (.tmp 25) 245 83 _ 1 24 rfl Tryz.underlying245 Mo rfl (by decide) (.slice pa qs.length pcp) qs.length (qs.map Pc.val) rfl o2 [.slice (some ⟨rb,ro,none⟩) n rc] rfl rfl (by simp [Value.oneCell']) (by omega) (by omega) ?_;intro v3 w3 A3;obtain⟨g3,k3,rfl⟩:=A3.shape (by decide)))
   have b3:Below w.heap.size w w3:=(hb.trans (hb2.mono hb.size)).trans (A3.fr.below (vJ hb.size hb2.size) hlies)
   have hnn:0<n:=hpos
   go_roundw
   case rel =>
    refine⟨r.drop n,(if rc=n then some ⟨rb,ro,none⟩ else some ⟨rb,ro+n * 4,none⟩),rc-n,qs++[⟨some ⟨rb,ro,none⟩,rc,r.take n⟩],?_,?_,?_,?_,?_,?_,?_,?_,?_,?_,b3,?_⟩
    ·rw [HDL.out]
    ·rw [HDL.out];omega
    ·rw [HF.out];congr 1;omega
    ·by_cases hrn:rc=n
     ·exact .inl (by rw [List.drop_eq_nil_of_le (by omega)];rfl)
     ·rw [if_neg hrn]
      rw [rL] at hRr ⊢
      exact hRr.dropZ n (Nm r) hnle
    ·exact fun x hx=>hmem x (List.mem_of_mem_drop hx)
    ·rw [HDL.out];omega
    ·rw [HDL.out,jK,List.length_singleton];omega
    ·rw [HCUT.out,HST.out];simp
    ·have e1:Pc.val (⟨some ⟨rb,ro,none⟩,rc,r.take n⟩:Pc En)=.slice (some ⟨rb,ro,none⟩) n rc:=by unfold Pc.val;simp only [HTL.out]
     rw [List.map_append,jK,List.length_singleton,List.map_cons,List.map_nil,e1]
     exact A3.row
    ·intro q hq
     rcases List.mem_append.1 hq with hq|hq
     ·exact hqs q hq
     ·obtain rfl:=List.mem_singleton.1 hq
      refine⟨by show (r.take n).length≤rc;rw [HTL.out];omega,?_⟩
      show aH w S (some ⟨rb,ro,none⟩) (aN (r.take n))
      rw [rL] at hRr ⊢
      exact hRr.takeZ (z:=4) n
    ·intro k hk
     rcases A3.lies k hk with h|h
     ·exact hlies k h
     ·exact vJ hb.size (vJ hb2.size h)
   case measure=>simp;omega
  ·have hla:=sP esz r (by omega)
   obtain⟨pa,pcp,rfl⟩:=aO hown
   by_cases hr0:0<r.length
   ·have HLA:Hid (eC esz r=[r]):=by show _=_;rw [hla,if_neg (by omega)]
    have hr0i:(0:Int)<(r.length:Int):=by omega
    obtain⟨t,ht⟩:=nM (tot esz r)
    simp only [ht] at hgt ⊢
    have hgti:¬ (t:Int) > 250:=by omega
    have hQ:qs.length+1≤1000001:=by omega
    clear hla ht hT hle
    go_wp2_with (at_builtin;refine nA wr rfl (.tmp 36) (.tmp 38) 245 83 _ 1 24 rfl Tryz.underlying245 Mo rfl (by decide) (.slice pa qs.length pcp) qs.length (qs.map Pc.val) rfl hown [.slice ra r.length rc] rfl rfl (by simp [Value.oneCell']) (by omega) (by omega) ?_;intro v3 w3 A3;obtain⟨g3,k3,rfl⟩:=A3.shape (by decide))
    go_ret
    have b3:Below w.heap.size w w3:=hb.trans (A3.fr.below hb.size hlies)
    refine⟨_,rfl,⟨qs++[⟨ra,rc,r⟩],?_,?_,?_⟩,b3,?_⟩
    ·rw [List.map_append,jK,List.length_singleton,List.map_cons,List.map_nil]
     exact A3.row
    ·rw [HCUT.out,HLA.out];simp
    ·intro q hq
     rcases List.mem_append.1 hq with hq|hq
     ·exact⟨(hqs q hq).1,(hqs q hq).2.on (vV b3 hS)⟩
     ·obtain rfl:=List.mem_singleton.1 hq
      exact⟨hrc,hRr.on (vV b3 hS)⟩
    ·intro k hk
     rcases A3.lies k hk with h|h
     ·exact hlies k h
     ·exact vJ hb.size h
   ·have hr00:r.length=0:=by omega
    have HLA:Hid (eC esz r=[]):=by show _=_;rw [hla,if_pos hr00]
    obtain rfl:=List.eq_nil_of_length_eq_zero hr00
    clear hla hT hle
    go_wp2
    go_ret
    refine⟨_,rfl,⟨qs,hown,?_,?_⟩,hb,hlies⟩
    ·rw [HCUT.out,HLA.out];simp
    ·exact fun q hq=>⟨(hqs q hq).1,(hqs q hq).2.on (vV hb hS)⟩
structure MN where
 lo:ByteArray
 hi:ByteArray
 place:Nat
 ea:Option Addr
 en:Nat
 ec:Nat
 ka:Option Addr
 kn:Nat
 kc:Nat
def MN.cells (m:MN):List Value:=[.string m.lo,.string m.hi,.int .i64 m.place,.slice m.ea m.en m.ec,.slice m.ka m.kn m.kc]
abbrev MN.val (m:MN):Value:=.agg #[.string m.lo,.string m.hi,.int .i64 m.place,.slice m.ea m.en m.ec,.slice m.ka m.kn m.kc]
def aL (ms:List MN):List Value:=ms.flatMap MN.cells
theorem xZ (ms:List MN):aL ms=ms.flatMap MN.cells:=rfl
theorem xY (ms:List MN) (m:MN):aL (ms++[m])=aL ms++m.cells:=by simp [aL]
theorem kO (ms ns:List MN):aL (ms++ns)=aL ms++aL ns:=by simp [aL]
theorem Ll (ms:List MN):∀ x∈ms,(MN.cells x).length=5:=fun x _=>rfl
theorem iU (ms:List MN):(aL ms).length=ms.length * 5:=Df ms (Ll ms)
theorem Gj {ms:List MN} (h:0<ms.length):aL ms≠[]:=by
 cases ms with
 | nil=>simp at h
 | cons x l=>simp [aL,MN.cells]
theorem lR {l:List MN} {j i:Nat} (hj:j<l.length) (hi:i<5):(aL l)[j * 5+i]?=(l[j].cells)[i]?:=by
 have e:aL l=aL (l.take j)++(l[j].cells++aL (l.drop (j+1))):=by
  have:l=l.take j++(l[j] :: l.drop (j+1)):=by simp
  conv=>lhs;rw [this]
  rw [kO];rfl
 have e2:(aL (l.take j)).length=j * 5:=by rw [iU,List.length_take,Nat.min_eq_left (by omega)]
 rw [e,List.getElem?_append_right (by omega),e2,Nat.add_sub_cancel_left,List.getElem?_append_left (by show i<5;exact hi)]
theorem aH.nod {l:List MN}  (h:aH w S a (aL l)) (hj:j<l.length):∃ b off,a=some ⟨b,off,none⟩∧S b∧w.cell? ⟨b,off+j * 5,none⟩=some (.string (l[j]).lo)∧w.cell? ⟨b,off+j * 5+1,none⟩=some (.string (l[j]).hi)∧w.cell? ⟨b,off+j * 5+2,none⟩=some (.int .i64 (l[j]).place)∧w.cell? ⟨b,off+j * 5+3,none⟩=some (.slice (l[j]).ea (l[j]).en (l[j]).ec)∧w.cell? ⟨b,off+j * 5+4,none⟩=some (.slice (l[j]).ka (l[j]).kn (l[j]).kc):=by
 have hne:aL l≠[]:=Gj (by omega)
 rcases h with h|⟨b,off,ha,hb,hc⟩
 ·exact(hne h).elim
 ·exact⟨b,off,ha,hb,hc (j * 5+0) _ (lR hj (by omega)),hc (j * 5+1) _ (lR hj (by omega)),hc (j * 5+2) _ (lR hj (by omega)),hc (j * 5+3) _ (lR hj (by omega)),hc (j * 5+4) _ (lR hj (by omega))⟩
def ksz (m:MN):Nat:=m.lo.size+3
def MN.fits (m:MN):Prop:=m.lo.size≤24
theorem MN.fits.out {m:MN} (h:m.fits):m.lo.size≤24:=h
theorem oL {m:MN} (h:m.fits):ksz m≤27:=by unfold ksz;have:=h.out;omega
theorem kF:(Tryz.prog.info? 224).map (fun i=>(i.zero,i.size,i.bytes))=some (some (.agg #[.string ⟨#[]⟩,.string ⟨#[]⟩,.int .i64 0,.slice none 0 0,.slice none 0 0]),5,88):=by kernel_rfl
theorem Mn:(Tryz.prog.info? 221).map (fun i=>(i.zero,i.size,i.bytes))=some (some (.slice none 0 0),1,24):=by kernel_rfl
theorem yI (x:MN) (w:World) (hb:x.lo.size≤1000000) :
  Calls Tryz.prog 179 #[.agg #[.string x.lo,.string x.hi,.int .i64 x.place,.slice x.ea x.en x.ec,.slice x.ka x.kn x.kc]] w fun e w'=>e=.returned (.int .i64 (ksz x))∧Below w.heap.size w w':=by
 obtain⟨W1,hW1⟩:=nM (w.alloc (.cells #[.string x.lo,.string x.hi,.int .i64 x.place,.slice x.ea x.en x.ec,.slice x.ka x.kn x.kc] 224))
 have b1:Below w.heap.size w W1:=hW1▸(bA _ _)
 obtain⟨m0,m1,m2,m3,m4⟩:=eE (hW1▸aA w _:W1.heap[w.heap.size]?=some (.cells #[.string x.lo,.string x.hi,.int .i64 x.place,.slice x.ea x.en x.ec,.slice x.ka x.kn x.kc] 224))
 have E1:Hid (ksz x=x.lo.size+3):=rfl
 go_enter Tryz.func179,Tryz.ntmps179
 go_wp2
 go_ret
 exact⟨by rw [E1.out];first|rfl|(congr 2;go_num),b1⟩
theorem Aq (ea:Option Addr) (ec:Nat) (es:List MN) (S:Bl) (w:World) (hR:aH w S ea (aL es)) (hS:∀ b,S b→b<w.heap.size) (hn:es.length≤1000000) (hc:es.length≤ec) (hf:∀ x∈es,x.fits) :
  Calls Tryz.prog 188 #[.slice ea es.length ec,.func (.func 179) #[] #[]] w fun e w'=>e=.returned (.int .i64 (tot ksz es))∧Below w.heap.size w w':=by
 go_enter Tryz.func188,Tryz.ntmps188
 go_wp2
 go_loopw [5,10] (fun a b wr=>∃ j:Nat,a=.int .i64 (tot ksz (es.take j))∧b=.int .i64 j∧j≤es.length∧Below w.heap.size w wr) (fun _ b _=>es.length-(intOf b).toNat)
 case atStart=>exact⟨0,by simp [tot],rfl,Nat.zero_le _,Below.refl _ _⟩
 case round =>
  obtain⟨j,rfl,rfl,hj,hb⟩:=hrel
  by_cases hlt:j<es.length
  ·have hlt':j<es.length:=hlt
   obtain⟨rb,ro,hea,hrb,k0,k1,k2,k3,k4⟩:=(hR.on (vV hb hS)).nod hlt'
   subst hea
   obtain⟨X,hX⟩:=nM (es[j])
   simp only [hX] at k0 k1 k2 k3 k4
   have hXf:X.fits:=hX▸hf _ (List.getElem_mem hlt)
   obtain⟨Wa,hWa⟩:=nM (wr.alloc (.cells #[.string X.lo,.string X.hi,.int .i64 X.place,.slice X.ea X.en X.ec,.slice X.ka X.kn X.kc] 224))
   have xa:Wa.heap[wr.heap.size]?=some (.cells #[.string X.lo,.string X.hi,.int .i64 X.place,.slice X.ea X.en X.ec,.slice X.ka X.kn X.kc] 224):=hWa▸aA wr _
   obtain⟨g0,g1,g2,g3,g4⟩:=eE xa
   have ba:Below w.heap.size w Wa:=hWa▸hb.alloc hb.size _
   have hC:=yI X Wa (by have:=hXf.out;omega)
   have htk:tot ksz (es.take (j+1))=tot ksz (es.take j)+ksz X:=by rw [← hX];exact rV ksz es j hlt
   have HTK:Hid (tot ksz (es.take (j+1))=tot ksz (es.take j)+ksz X):=htk
   have hle:=qK ksz (es.take j) 27 (fun x hx=>oL (hf x (List.mem_of_mem_take hx)))
   have hle2:tot ksz (es.take j)≤27000000:=by
    have:(es.take j).length≤1000000:=by rw [List.length_take];omega
    omega
   have hsx:=oL hXf
   obtain⟨n,hn'⟩:∃ n,tot ksz (es.take j)=n:=⟨_,rfl⟩
   obtain⟨m,hm⟩:=nM (ksz X)
   rw [hn'] at hle2
   rw [hm] at hsx
   simp only [hm] at hC
   have HM:Hid (tot ksz (es.take (j+1))=n+m):=by rw [htk,hn',hm];exact rfl
   have HN:Hid (tot ksz (es.take j)=n):=hn'
   simp only [hn']
   clear htk HTK hX hR hle hn' hm
   go_wp2_with (go_at_call 179;refine hC.mono ?_;rintro e w2 ⟨rfl,hb2⟩)
   go_roundw
   case rel=>exact⟨j+1,by rw [HM.out];congr 1,by go_num,by omega,ba.trans (hb2.mono ba.size)⟩
   case measure=>simp [intOf];omega
  ·obtain rfl:j=es.length:=by omega
   have HT:Hid (tot ksz (es.take es.length)=tot ksz es):=by rw [List.take_length];exact rfl
   go_wp2
   go_ret
   exact⟨by first|rfl|(rw [← HT.out];rfl)|(rw [HT.out];rfl)|(simp [HT.out];done),hb⟩
theorem Pd (ea:Option Addr) (ec:Nat) (es:List MN) (all:Nat) (S:Bl) (w:World) (hR:aH w S ea (aL es)) (hS:∀ b,S b→b<w.heap.size) (hn:es.length≤1000000) (hc:es.length≤ec) (hf:∀ x∈es,x.fits) (ha:250<tot ksz es) (ha2:all≤27000000) :
  Calls Tryz.prog 189 #[.slice ea es.length ec,.func (.func 179) #[] #[],.int .i64 all] w fun e w'=>e=.returned (.tuple #[.int .i64 (shN ksz all es 0),.int .i64 (tot ksz (es.take (shN ksz all es 0)))])∧Below w.heap.size w w':=by
 go_enter Tryz.func189,Tryz.ntmps189
 go_wp2
 go_loopw [8,9] (fun a b wr=>∃ j:Nat,b=.int .i64 (tot ksz (es.take j))∧a=.int .i64 j∧j≤shN ksz all es 0∧Below w.heap.size w wr) (fun a _ _=>es.length-(intOf a).toNat)
 case atStart=>exact⟨0,by simp [tot],rfl,Nat.zero_le _,Below.refl _ _⟩
 case round =>
  obtain⟨j,rfl,rfl,hj,hb⟩:=hrel
  have hin:j<es.length:=Nat.lt_of_le_of_lt hj (Az ksz all es ha)
  have hat:=Pf ksz all es 0 j hj hin
  have hin':j<es.length:=hin
  obtain⟨rb,ro,hea,hrb,k0,k1,k2,k3,k4⟩:=(hR.on (vV hb hS)).nod hin'
  subst hea
  have htk:tot ksz (es.take (j+1))=tot ksz (es.take j)+ksz es[j]:=rV ksz es j hin
  have hXf:(es[j]).fits:=hf _ (List.getElem_mem hin)
  obtain⟨X,hX⟩:=nM (es[j])
  simp only [hX] at k0 k1 k2 k3 k4 htk hXf hat
  have hsx:=oL hXf
  have hft:=uH ksz all es 0 (by omega)
  obtain⟨n,hn'⟩:∃ n,tot ksz (es.take j)=n:=⟨_,rfl⟩
  obtain⟨m,hm⟩:=nM (ksz X)
  have hn2:n≤27000000:=by
   have h1:=qK ksz (es.take j) 27 (fun x hx=>oL (hf x (List.mem_of_mem_take hx)))
   have h2:(es.take j).length≤1000000:=by rw [List.length_take];omega
   omega
  simp only [hn',Nat.zero_add,hm] at hat htk hsx ⊢
  have HM:Hid (tot ksz (es.take (j+1))=n+m):=htk
  have HN:Hid (tot ksz (es.take j)=n):=hn'
  have HX:Hid (ksz X=m):=hm
  have HAT:Hid (j<shN ksz all es 0↔2 * n+m≤all∧n+m≤250):=hat
  have on:∀ W,Below wr.heap.size wr W→On S wr W:=fun W hW=>vV hW (fun k hk=>jY (hS k hk) hb.size)
  have HK:Hid (∀ W,Below wr.heap.size wr W→W.cell? ⟨rb,ro+j * 5,none⟩=some (.string X.lo)∧W.cell? ⟨rb,ro+j * 5+1,none⟩=some (.string X.hi)∧W.cell? ⟨rb,ro+j * 5+2,none⟩=some (.int .i64 X.place)∧W.cell? ⟨rb,ro+j * 5+3,none⟩=some (.slice X.ea X.en X.ec)∧W.cell? ⟨rb,ro+j * 5+4,none⟩=some (.slice X.ka X.kn X.kc)):=fun W hW=>⟨(on W hW).cell _ hrb |>.trans k0,(on W hW).cell _ hrb |>.trans k1,(on W hW).cell _ hrb |>.trans k2,(on W hW).cell _ hrb |>.trans k3,(on W hW).cell _ hrb |>.trans k4⟩
  have HC:Hid (∀ W,Calls Tryz.prog 179 #[.agg #[.string X.lo,.string X.hi,.int .i64 X.place,.slice X.ea X.en X.ec,.slice X.ka X.kn X.kc]] W fun e w'=>e=.returned (.int .i64 m)∧Below W.heap.size W w'):=fun W=>by have h:=yI X W (by have:=hXf.out;omega);rw [hm] at h;exact h
  have hbb:Below wr.heap.size wr wr:=Below.refl _ _
  have hjs:¬ j<shN ksz all es 0→Hid (shN ksz all es 0=j∧tot ksz (es.take (shN ksz all es 0))=n):=fun h=>by
   have e:shN ksz all es 0=j:=by omega
   exact⟨e,by rw [e,hn']⟩
  clear htk hX hR hn' hm hft on
  by_cases hle1:2 * n+m≤all
  ·have hl1:2 * (n:Int)+(m:Int)≤(all:Int):=by omega
   by_cases hle:n+m≤250
   ·have hlei:(n:Int)+(m:Int)≤250:=by omega
    clear hjs hat
    go_wp2_with (go_at_call 179;refine jC (HC.out _) ?_;rintro e w2 ⟨rfl,hb2⟩;have hbb:=hbb.trans (hb2.mono hbb.size);obtain⟨k0,k1,k2,k3,k4⟩:=HK.out _ hbb)
    go_roundw
    case rel=>exact⟨j+1,by rw [HM.out];congr 1,by go_num,HAT.out.2 ⟨hle1,hle⟩,hb.trans (hbb.mono hb.size)⟩
    case measure=>simp [intOf];omega
   ·have hlei:¬ (n:Int)+(m:Int)≤250:=by omega
    have hje:=hjs (fun h=>hle (hat.1 h).2)
    clear hjs hat
    go_wp2_with (go_at_call 179;refine jC (HC.out _) ?_;rintro e w2 ⟨rfl,hb2⟩;have hbb:=hbb.trans (hb2.mono hbb.size);obtain⟨k0,k1,k2,k3,k4⟩:=HK.out _ hbb)
    go_ret2
    exact⟨Ir hje.out.1.symm hje.out.2.symm,hb.trans (hbb.mono hb.size)⟩
  ·have hl1:¬ 2 * (n:Int)+(m:Int)≤(all:Int):=by omega
   have hje:=hjs (fun h=>hle1 (hat.1 h).1)
   clear hjs hat
   go_wp2_with (go_at_call 179;refine jC (HC.out _) ?_;rintro e w2 ⟨rfl,hb2⟩;have hbb:=hbb.trans (hb2.mono hbb.size);obtain⟨k0,k1,k2,k3,k4⟩:=HK.out _ hbb)
   go_ret2
   exact⟨Ir hje.out.1.symm hje.out.2.symm,hb.trans (hbb.mono hb.size)⟩
def qFo (w:World) (S:Bl) (v:Value) (ps:List (List MN)):Prop :=
 ∃ qs:List (Pc MN),w.ownsRow 0 221 1 v qs.length (qs.map Pc.val)∧qs.map (·.l)=ps∧∀ q∈qs,q.l.length≤q.c∧aH w S q.a (aL q.l)
theorem qAr (ea:Option Addr) (ec:Nat) (es:List MN) (S:Bl) (w:World) (hR:aH w S ea (aL es)) (hS:∀ b,S b→b<w.heap.size) (hn:es.length≤1000000) (hc:es.length≤ec) (hf:∀ x∈es,x.fits) (h250:∀ x∈es,ksz x≤250) :
  Calls Tryz.prog 178 #[.slice ea es.length ec,.func (.func 179) #[] #[]] w fun e w'=>∃ v,e=.returned v∧qFo w' S v (eC ksz es)∧Below w.heap.size w w'∧∀ k,v.ownBlock=some k→w.heap.size≤k:=by
 have hT:=Aq ea ec es S w hR hS hn hc hf
 have hle:∀ r:List MN,(∀ x∈r,x∈es)→r.length≤es.length→tot ksz r≤27000000:=fun r hr hl=>by
  have:=qK ksz r 27 (fun x hx=>oL (hf x (hr x hx)))
  omega
 go_enter Tryz.func178,Tryz.ntmps178
 go_wp2_with (go_at_call 188;refine hT.mono ?_;rintro e w1 ⟨rfl,hb1⟩)
 go_loopw [0,5,6] (fun a p t wr=>∃ (r:List MN) (ra:Option Addr) (rc:Nat) (qs:List (Pc MN)),a=.slice ra r.length rc∧r.length≤rc∧t=.int .i64 (tot ksz r)∧aH w S ra (aL r)∧(∀ x∈r,x∈es)∧r.length≤es.length∧qs.length+r.length≤es.length∧eC ksz es=qs.map (·.l)++eC ksz r∧wr.ownsRow 0 221 1 p qs.length (qs.map Pc.val)∧(∀ q∈qs,q.l.length≤q.c∧aH w S q.a (aL q.l))∧Below w.heap.size w wr∧∀ k,p.ownBlock=some k→w.heap.size≤k) (fun a _ _ _=>match a with|.slice _ n _=>n|_=>0)
 case atStart=>exact⟨es,ea,ec,[],rfl,hc,rfl,hR,fun _ h=>h,jU _,by simp,by simp,World.ownsRow_nil _ _ _ _,by simp,hb1,by simp [Value.ownBlock]⟩
 case round =>
  obtain⟨r,ra,rc,qs,rfl,hrc,rfl,hRr,hmem,hrl,hql,hcut,hown,hqs,hb,hlies⟩:=hrel
  have hRw:=hRr.on (vV hb hS)
  have hSw:∀ b,S b→b<wr.heap.size:=fun b h=>jY (hS b h) hb.size
  have htr:=hle r hmem hrl
  have HCUT:Hid (eC ksz es=qs.map (·.l)++eC ksz r):=hcut
  clear hcut
  by_cases hgt:250<tot ksz r
  ·have hr0:0<r.length:=by
    cases r with
    | nil=>simp [tot] at hgt
    | cons x r=>simp
   obtain⟨rb,ro,rfl,hrb⟩:=hRr.addr (Gj hr0)
   have hrmem:∀ x∈r,ksz x≤250:=fun x hx=>h250 x (hmem x hx)
   have hSh:=Pd (some ⟨rb,ro,none⟩) rc r (tot ksz r) S wr hRw hSw (by omega) hrc (fun x hx=>hf x (hmem x hx)) (by omega) (by omega)
   have hpos:=sC ksz r (by omega) hrmem
   have hnle:=tG ksz (tot ksz r) r 0
   have hst:=Hq ksz r hrmem hgt
   have hsp:=Fj ksz r (shN ksz (tot ksz r) r 0)
   obtain⟨n,hn'⟩:∃ n,shN ksz (tot ksz r) r 0=n:=⟨_,rfl⟩
   rw [hn'] at hSh hpos hnle hst hsp
   obtain⟨f,hf'⟩:∃ f,tot ksz (r.take n)=f:=⟨_,rfl⟩
   rw [hf'] at hSh hsp
   obtain⟨t,ht⟩:=nM (tot ksz r)
   rw [ht] at hSh hgt htr hsp
   simp only [ht]
   have hgti:(t:Int) > 250:=by omega
   have hSz:∀ z:Int,z=((t:Nat):Int)→Calls Tryz.prog 189 #[.slice (some ⟨rb,ro,none⟩) r.length rc,.func (.func 179) #[] #[],.int .i64 z] wr fun e w'=>e=.returned (.tuple #[.int .i64 n,.int .i64 f])∧Below wr.heap.size wr w':=fun z hz=>hz▸hSh
   have HST:Hid (eC ksz r=r.take n :: eC ksz (r.drop n)):=hst
   have HF:Hid (tot ksz (r.drop n)=t-f):=by show _=_;omega
   have hfle:f≤t:=by omega
   have hnli:(n:Int)≤(rc:Int):=by omega
   have hnli2:(n:Int)≤(r.length:Int):=by omega
   have hdl:(r.drop n).length=r.length-n:=List.length_drop ..
   have HDL:Hid ((r.drop n).length=r.length-n):=hdl
   have HTL:Hid ((r.take n).length=n):=by show _=_;rw [List.length_take];omega
   clear hst hsp hn' hf' ht hT hle hdl hSh
   obtain⟨pa,pcp,rfl⟩:=aO hown
   have hQ:qs.length+1≤1000001:=by omega
   go_wp2_with (first
    | (go_at_call 189;refine(hSz _ (by first|rfl|omega)).mono ?_;clear hSz;rintro e w2 ⟨rfl,hb2⟩;have f2:Fr Bl.none wr w2:=Fr.of_below hb2;have o2:=aZ hown (f2.on (Z:=fun k=>Value.ownBlock (.slice pa qs.length pcp)=some k) (fun k hk=>⟨aQ hown hk,fun h=>h⟩)) (fun k hk=>hk))
    | (at_builtin;refine nA w2 rfl (.tmp 21) (.tmp 25) 250 221 _ 1 24 rfl Tryz.underlying250 Mn rfl (by decide) (.slice pa qs.length pcp) qs.length (qs.map Pc.val) rfl o2 [.slice (some ⟨rb,ro,none⟩) n rc] rfl rfl (by simp [Value.oneCell']) (by omega) (by omega) ?_;intro v3 w3 A3;obtain⟨g3,k3,rfl⟩:=A3.shape (by decide)))
   have b3:Below w.heap.size w w3:=(hb.trans (hb2.mono hb.size)).trans (A3.fr.below (vJ hb.size hb2.size) hlies)
   have hnn:0<n:=hpos
   go_roundw
   case rel =>
    refine⟨r.drop n,(if rc=n then some ⟨rb,ro,none⟩ else some ⟨rb,ro+n * 5,none⟩),rc-n,qs++[⟨some ⟨rb,ro,none⟩,rc,r.take n⟩],?_,?_,?_,?_,?_,?_,?_,?_,?_,?_,b3,?_⟩
    ·rw [HDL.out]
    ·rw [HDL.out];omega
    ·rw [HF.out];congr 1;omega
    ·by_cases hrn:rc=n
     ·exact .inl (by rw [List.drop_eq_nil_of_le (by omega)];rfl)
     ·rw [if_neg hrn]
      rw [xZ] at hRr ⊢
      exact hRr.dropZ n (Ll r) hnle
    ·exact fun x hx=>hmem x (List.mem_of_mem_drop hx)
    ·rw [HDL.out];omega
    ·rw [HDL.out,jK,List.length_singleton];omega
    ·rw [HCUT.out,HST.out];simp
    ·have e1:Pc.val (⟨some ⟨rb,ro,none⟩,rc,r.take n⟩:Pc MN)=.slice (some ⟨rb,ro,none⟩) n rc:=by unfold Pc.val;simp only [HTL.out]
     rw [List.map_append,jK,List.length_singleton,List.map_cons,List.map_nil,e1]
     exact A3.row
    ·intro q hq
     rcases List.mem_append.1 hq with hq|hq
     ·exact hqs q hq
     ·obtain rfl:=List.mem_singleton.1 hq
      refine⟨by show (r.take n).length≤rc;rw [HTL.out];omega,?_⟩
      show aH w S (some ⟨rb,ro,none⟩) (aL (r.take n))
      rw [xZ] at hRr ⊢
      exact hRr.takeZ (z:=5) n
    ·intro k hk
     rcases A3.lies k hk with h|h
     ·exact hlies k h
     ·exact vJ hb.size (vJ hb2.size h)
   case measure=>simp;omega
  ·have hla:=sP ksz r (by omega)
   obtain⟨pa,pcp,rfl⟩:=aO hown
   by_cases hr0:0<r.length
   ·have HLA:Hid (eC ksz r=[r]):=by show _=_;rw [hla,if_neg (by omega)]
    have hr0i:(0:Int)<(r.length:Int):=by omega
    obtain⟨t,ht⟩:=nM (tot ksz r)
    simp only [ht] at hgt ⊢
    have hgti:¬ (t:Int) > 250:=by omega
    have hQ:qs.length+1≤1000001:=by omega
    clear hla ht hT hle
    go_wp2_with (at_builtin;refine nA wr rfl (.tmp 36) (.tmp 38) 250 221 _ 1 24 rfl Tryz.underlying250 Mn rfl (by decide) (.slice pa qs.length pcp) qs.length (qs.map Pc.val) rfl hown [.slice ra r.length rc] rfl rfl (by simp [Value.oneCell']) (by omega) (by omega) ?_;intro v3 w3 A3;obtain⟨g3,k3,rfl⟩:=A3.shape (by decide))
    go_ret
    have b3:Below w.heap.size w w3:=hb.trans (A3.fr.below hb.size hlies)
    refine⟨_,rfl,⟨qs++[⟨ra,rc,r⟩],?_,?_,?_⟩,b3,?_⟩
    ·rw [List.map_append,jK,List.length_singleton,List.map_cons,List.map_nil]
     exact A3.row
    ·rw [HCUT.out,HLA.out];simp
    ·intro q hq
     rcases List.mem_append.1 hq with hq|hq
     ·exact⟨(hqs q hq).1,(hqs q hq).2.on (vV b3 hS)⟩
     ·obtain rfl:=List.mem_singleton.1 hq
      exact⟨hrc,hRr.on (vV b3 hS)⟩
    ·intro k hk
     rcases A3.lies k hk with h|h
     ·exact hlies k h
     ·exact vJ hb.size h
   ·have hr00:r.length=0:=by omega
    have HLA:Hid (eC ksz r=[]):=by show _=_;rw [hla,if_pos hr00]
    obtain rfl:=List.eq_nil_of_length_eq_zero hr00
    clear hla hT hle
    go_wp2
    go_ret
    refine⟨_,rfl,⟨qs,hown,?_,?_⟩,hb,hlies⟩
    ·rw [HCUT.out,HLA.out];simp
    ·exact fun q hq=>⟨(hqs q hq).1,(hqs q hq).2.on (vV hb hS)⟩
def iR (es:List En):ByteArray:=match es with|[]=>⟨#[]⟩|x :: _=>x.e.key
def kB (q:Pc En):MN:=⟨iR q.l,⟨#[]⟩,0,q.a,q.l.length,q.c,none,0,0⟩
theorem Mz {es:List En} (h:0<es.length):iR es=es[0].e.key:=by
 cases es with
 | nil=>simp at h
 | cons x l=>rfl
theorem nG {B:Nat} {e:TypeId}   {c:Nat} {n:Nat} {xs:List Value} (h:w.ownsRow B e z (.slice a n c) n xs)  {u:Value} (hu:xs[j]?=some u):∃ g,a=some ⟨g,0,none⟩∧g<w.heap.size∧n≤c∧w.cell? ⟨g,j,none⟩=some u:=by
 obtain⟨g,h1,h2,h3,h4⟩:=gQ h hu
 exact⟨g,h1,h2,h3,h4⟩
theorem nQ (ea:Option Addr) (ec:Nat) (es:List En) (S:Bl) (w:World) (hR:aH w S ea (aN es)) (hS:∀ b,S b→b<w.heap.size) (hn:es.length≤1000000) (hc:es.length≤ec) (hf:∀ x∈es,x.fits) (h250:∀ x∈es,esz x≤250) :
  Calls Tryz.prog 162 #[.slice ea es.length ec] w fun e w'=>∃ v,∃ qs:List (Pc En),e=.returned v∧w'.ownsRow 0 224 5 v qs.length (aL (qs.map kB))∧qs.map (·.l)=eC esz es∧(∀ q∈qs,q.l.length≤q.c∧aH w' S q.a (aN q.l))∧Below w.heap.size w w'∧∀ k,v.ownBlock=some k→w.heap.size≤k:=by
 have hC:=qAs ea ec es S w hR hS hn hc hf h250
 have hne:=Af esz es h250
 go_enter Tryz.func162,Tryz.ntmps162
 go_wp2_with (go_at_call 173;refine hC.mono ?_;clear hC;rintro e w1 ⟨v,rfl,⟨qs,hown,hl,hq⟩,hb1,hlies⟩;obtain⟨pa,pcp,rfl⟩:=aO hown)
 have hlen:qs.length≤es.length+1:=by
  have h1:qs.length=(eC esz es).length:=by rw [← hl];simp
  have h2:=oV esz es h250
  have h3:(eC esz es).length≤(eC esz es).flatten.length:=by
   rw [List.length_flatten]
   generalize eC esz es=ps at hne
   clear h1 h2 hl
   induction ps with
   | nil=>simp
   | cons p ps ih =>
    have:=ih (fun p hp=>hne p (by simp [hp]))
    have hp:0<p.length:=List.length_pos_iff.2 (hne p (by simp))
    simp;omega
  rw [h2] at h3
  omega
 have HL:Hid (qs.map (·.l)=eC esz es):=hl
 have hqn:∀ q∈qs,0<q.l.length:=fun q hq=>List.length_pos_iff.2 (hne q.l (by rw [← hl];exact List.mem_map_of_mem (f:=fun q:Pc En=>q.l) hq))
 clear hl hne
 go_loopw [3,9] (fun a b wr=>∃ j:Nat,b=.int .i64 j∧j≤qs.length∧wr.ownsRow 0 224 5 a j (aL ((qs.take j).map kB))∧Below w1.heap.size w1 wr∧∀ k,a.ownBlock=some k→w1.heap.size≤k) (fun _ b _=>qs.length-(intOf b).toNat)
 case atStart=>exact⟨0,rfl,Nat.zero_le _,World.ownsRow_nil _ _ _ _,Below.refl _ _,by simp [Value.ownBlock]⟩
 case round =>
  obtain⟨j,rfl,hj,ho,hb,hk⟩:=hrel
  obtain⟨aa,ac,rfl⟩:=aO ho
  by_cases hlt:j<qs.length
  ·obtain⟨Q,hQ⟩:=nM (qs[j])
   have hQm:Q∈qs:=hQ▸List.getElem_mem hlt
   have hu:(qs.map Pc.val)[j]?=some (.slice Q.a Q.l.length Q.c):=by rw [List.getElem?_map,jQ hlt,hQ];rfl
   obtain⟨g,hg,hgl,hnc,hcell⟩:=nG hown hu
   subst hg
   have oW:=vV (Y:=fun k=>k<w1.heap.size) hb (fun k h=>h)
   have hcw:wr.cell? ⟨g,j,none⟩=some (.slice Q.a Q.l.length Q.c):=(oW.cell _ hgl).trans hcell
   have hS1:∀ b,S b→b<w1.heap.size:=fun b h=>jY (hS b h) hb1.size
   have hRq:=((hq Q hQm).2.on (vV hb hS1))
   have hq0:=hqn Q hQm
   have hq0':0<(Q.l.map (·.e)).length:=by simpa using hq0
   obtain⟨rb,ro,hqa,hrb,k0,_,_,_⟩:=hRq.ent hq0'
   rw [List.getElem_map,← Mz hq0] at k0
   simp only [Nat.zero_mul,Nat.add_zero] at k0
   obtain⟨Qa,Qc,Ql⟩:=Q
   simp only at hqa hq0 hq0' hcw k0
   subst hqa
   obtain⟨K,hK⟩:=nM (iR Ql)
   rw [hK] at k0
   have HTK:Hid (aL ((qs.take (j+1)).map kB)=aL ((qs.take j).map kB)++[.string K,.string ⟨#[]⟩,.int .i64 0,.slice (some ⟨rb,ro,none⟩) Ql.length Qc,.slice none 0 0]):=by
    show _=_
    rw [List.take_succ_eq_append_getElem hlt,hQ,List.map_append,List.map_cons,List.map_nil,xY]
    simp only [kB,MN.cells,hK];rfl
   clear hQ hQm hu hcell hown hq hRq hK
   go_wp2_with (at_builtin;refine nA wr rfl (.tmp 13) (.tmp 21) 221 224 _ 5 88 rfl Tryz.underlying221 kF rfl (by decide) (.slice aa j ac) j (aL ((qs.take j).map kB)) rfl ho [.string K,.string ⟨#[]⟩,.int .i64 0,.slice (some ⟨rb,ro,none⟩) Ql.length Qc,.slice none 0 0] rfl rfl (by simp [Value.oneCell']) (by omega) (by omega) ?_;intro v3 w3 A3;obtain⟨g3,k3,rfl⟩:=A3.shape (by decide))
   go_roundw
   case rel =>
    refine⟨j+1,by go_num,by omega,by rw [HTK.out];exact A3.row,hb.trans (A3.fr.below hb.size hk),?_⟩
    intro k h
    rcases A3.lies k h with h|h
    ·exact hk k h
    ·exact vJ hb.size h
   case measure=>simp [intOf];omega
  ·obtain rfl:j=qs.length:=by omega
   go_wp2
   go_ret
   refine⟨_,qs,rfl,by rw [List.take_length] at ho;exact ho,HL.out,fun q h=>⟨(hq q h).1,(hq q h).2.on (vV hb (fun b h=>jY (hS b h) hb1.size))⟩,hb1.trans (hb.mono hb1.size),fun k h=>vJ hb1.size (hk k h)⟩
def Ac (ms:List MN):ByteArray:=match ms with|[]=>⟨#[]⟩|x :: _=>x.lo
def kM (q:Pc MN):MN:=⟨Ac q.l,⟨#[]⟩,0,none,0,0,q.a,q.l.length,q.c⟩
theorem Ra {es:List MN} (h:0<es.length):Ac es=es[0].lo:=by
 cases es with
 | nil=>simp at h
 | cons x l=>rfl
theorem qF (ea:Option Addr) (ec:Nat) (es:List MN) (S:Bl) (w:World) (hR:aH w S ea (aL es)) (hS:∀ b,S b→b<w.heap.size) (hn:es.length≤1000000) (hc:es.length≤ec) (hf:∀ x∈es,x.fits) (h250:∀ x∈es,ksz x≤250) :
  Calls Tryz.prog 165 #[.slice ea es.length ec] w fun e w'=>∃ v,∃ qs:List (Pc MN),e=.returned v∧w'.ownsRow 0 224 5 v qs.length (aL (qs.map kM))∧qs.map (·.l)=eC ksz es∧(∀ q∈qs,q.l.length≤q.c∧aH w' S q.a (aL q.l))∧Below w.heap.size w w'∧∀ k,v.ownBlock=some k→w.heap.size≤k:=by
 have hC:=qAr ea ec es S w hR hS hn hc hf h250
 have hne:=Af ksz es h250
 go_enter Tryz.func165,Tryz.ntmps165
 go_wp2_with (go_at_call 178;refine hC.mono ?_;clear hC;rintro e w1 ⟨v,rfl,⟨qs,hown,hl,hq⟩,hb1,hlies⟩;obtain⟨pa,pcp,rfl⟩:=aO hown)
 have hlen:qs.length≤es.length+1:=by
  have h1:qs.length=(eC ksz es).length:=by rw [← hl];simp
  have h2:=oV ksz es h250
  have h3:(eC ksz es).length≤(eC ksz es).flatten.length:=by
   rw [List.length_flatten]
   generalize eC ksz es=ps at hne
   clear h1 h2 hl
   induction ps with
   | nil=>simp
   | cons p ps ih =>
    have:=ih (fun p hp=>hne p (by simp [hp]))
    have hp:0<p.length:=List.length_pos_iff.2 (hne p (by simp))
    simp;omega
  rw [h2] at h3
  omega
 have HL:Hid (qs.map (·.l)=eC ksz es):=hl
 have hqn:∀ q∈qs,0<q.l.length:=fun q hq=>List.length_pos_iff.2 (hne q.l (by rw [← hl];exact List.mem_map_of_mem (f:=fun q:Pc MN=>q.l) hq))
 clear hl hne
 go_loopw [3,9] (fun a b wr=>∃ j:Nat,b=.int .i64 j∧j≤qs.length∧wr.ownsRow 0 224 5 a j (aL ((qs.take j).map kM))∧Below w1.heap.size w1 wr∧∀ k,a.ownBlock=some k→w1.heap.size≤k) (fun _ b _=>qs.length-(intOf b).toNat)
 case atStart=>exact⟨0,rfl,Nat.zero_le _,World.ownsRow_nil _ _ _ _,Below.refl _ _,by simp [Value.ownBlock]⟩
 case round =>
  obtain⟨j,rfl,hj,ho,hb,hk⟩:=hrel
  obtain⟨aa,ac,rfl⟩:=aO ho
  by_cases hlt:j<qs.length
  ·obtain⟨Q,hQ⟩:=nM (qs[j])
   have hQm:Q∈qs:=hQ▸List.getElem_mem hlt
   have hu:(qs.map Pc.val)[j]?=some (.slice Q.a Q.l.length Q.c):=by rw [List.getElem?_map,jQ hlt,hQ];rfl
   obtain⟨g,hg,hgl,hnc,hcell⟩:=nG hown hu
   subst hg
   have oW:=vV (Y:=fun k=>k<w1.heap.size) hb (fun k h=>h)
   have hcw:wr.cell? ⟨g,j,none⟩=some (.slice Q.a Q.l.length Q.c):=(oW.cell _ hgl).trans hcell
   have hS1:∀ b,S b→b<w1.heap.size:=fun b h=>jY (hS b h) hb1.size
   have hRq:=((hq Q hQm).2.on (vV hb hS1))
   have hq0:=hqn Q hQm
   have hq0':0<Q.l.length:=hq0
   obtain⟨rb,ro,hqa,hrb,k0,k1,k2,k3,k4⟩:=hRq.nod hq0'
   rw [← Ra hq0] at k0
   clear k1 k2 k3 k4
   simp only [Nat.zero_mul,Nat.add_zero] at k0
   obtain⟨Qa,Qc,Ql⟩:=Q
   simp only at hqa hq0 hq0' hcw k0
   subst hqa
   obtain⟨K,hK⟩:=nM (Ac Ql)
   rw [hK] at k0
   have HTK:Hid (aL ((qs.take (j+1)).map kM)=aL ((qs.take j).map kM)++[.string K,.string ⟨#[]⟩,.int .i64 0,.slice none 0 0,.slice (some ⟨rb,ro,none⟩) Ql.length Qc]):=by
    show _=_
    rw [List.take_succ_eq_append_getElem hlt,hQ,List.map_append,List.map_cons,List.map_nil,xY]
    simp only [kM,MN.cells,hK];rfl
   clear hQ hQm hu hcell hown hq hRq hK
   go_wp2_with (at_builtin;refine nA wr rfl (.tmp 13) (.tmp 22) 221 224 _ 5 88 rfl Tryz.underlying221 kF rfl (by decide) (.slice aa j ac) j (aL ((qs.take j).map kM)) rfl ho [.string K,.string ⟨#[]⟩,.int .i64 0,.slice none 0 0,.slice (some ⟨rb,ro,none⟩) Ql.length Qc] rfl rfl (by simp [Value.oneCell']) (by omega) (by omega) ?_;intro v3 w3 A3;obtain⟨g3,k3,rfl⟩:=A3.shape (by decide))
   go_roundw
   case rel =>
    refine⟨j+1,by go_num,by omega,by rw [HTK.out];exact A3.row,hb.trans (A3.fr.below hb.size hk),?_⟩
    intro k h
    rcases A3.lies k h with h|h
    ·exact hk k h
    ·exact vJ hb.size h
   case measure=>simp [intOf];omega
  ·obtain rfl:j=qs.length:=by omega
   go_wp2
   go_ret
   refine⟨_,qs,rfl,by rw [List.take_length] at ho;exact ho,HL.out,fun q h=>⟨(hq q h).1,(hq q h).2.on (vV hb (fun b h=>jY (hS b h) hb1.size))⟩,hb1.trans (hb.mono hb1.size),fun k h=>vJ hb1.size (hk k h)⟩
theorem Yh (w:World) (T I ty E:TypeId) (zero:Value) (z bytes:Nat) (hT:P.underlying T=some (.slice E)) (hI:P.underlying I=some (.int .i64)) (hi:(P.info? E).map (fun i=>(i.zero,i.size,i.bytes))=some (some zero,z,bytes)) (hzs:zero.cells.size=z) (hsz:0<z)
  (m:Nat) (hm:0<m) (hl:m≤140737488355328) (hb:m * bytes≤140737488355328) :
  ∃ c w',(Builtin.append_ #[T,I] ty #[.slice none 0 0,.int .i64 m]).run P w=.ok (.slice (some ⟨w.heap.size,0,none⟩) m c) w'∧m≤c∧w'.ownsRow 0 E z (.slice (some ⟨w.heap.size,0,none⟩) 0 c) 0 []∧Fr Bl.none w w':=by
 obtain⟨i0,hi0,hz0,hz1,hz2⟩:=info_parts hi
 have hw:IntKind.i64.wrap (m:Int)=(m:Int):=by simp [IntKind.wrap,IntKind.bits,IntKind.signed];omega
 have hm0:¬ ((m:Int)<0):=by omega
 have hmb:¬ ((281474976710656:Int)<(m:Int) * (bytes:Int)):=by
  have:((m * bytes:Nat):Int)=(m:Int) * (bytes:Int):=by simp
  omega
 have hai:∀ u:World,Sem.run P (asIntOf (Value.int IntKind.i64 (m:Int))) u=.ok (.i64,(m:Int)) u:=fun _=>rfl
 have hmz:¬ m=0:=by omega
 have hmz2:¬ (m * z=0):=by rw [Nat.mul_eq_zero];omega
 have hz':¬ z=0:=by omega
 have hmp:¬ ((m:Int)≤0):=by omega
 have hmx:max (m:Int) 0=(m:Int):=by omega
 have h63':¬ (9223372036854775807<(m:Int)):=by omega
 have h48:=growslice_fits (need:=m) (old:=0) (bytes:=bytes) hm hb
 have h48':¬ (281474976710656<Builtin.nextslicecap m 0 * bytes):=by omega
 have hge:=grownCap_ge w m 0 E
 have hcm':grownCap w m 0 E≤maxLen:=grownCap_le_maxLen w m 0 E (by unfold maxLen;omega)
 refine⟨grownCap w m 0 E,w.drew.alloc (.cells (Builtin.zeroCells zero.cells m++Builtin.zeroCells zero.cells (grownCap w m 0 E-m)) E),?_,hge,?_,?_⟩
 ·simp [Builtin.append_,run_underlying hT,run_underlying hI,sizeOf,typeInfo,hi0,hz0,hz1,hz2,asInt,hai,hw,hm0,hmb,zeroValue,hmz,hmz2,hz',hmp,hmx,h63',h48',Question.forced,newRow,grownCap,Builtin.firstCells]
 ·refine⟨by simp,.inr ⟨w.heap.size,_,_,rfl,Nat.zero_le _,heap_alloc_new w.drew _,Nat.zero_le _,hcm',?_,by simp⟩⟩
  simp [Builtin.zeroCells,hzs]
  rw [← Nat.add_mul]
  congr 1;omega
 ·exact(Fr.refl _ w).drew.alloc _
theorem qBo {ops:Array Oper} {rest:List Oper} {o:Oper} {a:Act} {Q:Exit→Act→World→Prop} (w:World) (hgd:o.guard=none) (sl x:Operand) (T I E:TypeId) (zero:Value) (z bytes:Nat) (ho:o.op=.call { callee:=.builtin .append,args:=#[sl,x],argTypes:=#[T,I] }) (hT:P.underlying T=some (.slice E)) (hI:P.underlying I=some (.int .i64)) (hi:(P.info? E).map (fun i=>(i.zero,i.size,i.bytes))=some (some zero,z,bytes)) (hzs:zero.cells.size=z) (hsz:0<z)
  (m:Nat) (hs:a.eval sl=.slice none 0 0) (hx:a.eval x=.int .i64 m) (hm:0<m) (hl:m≤140737488355328) (hb:m * bytes≤140737488355328)
  (h:∀ c w',m≤c→w'.ownsRow 0 E z (.slice (some ⟨w.heap.size,0,none⟩) 0 c) 0 []→Fr Bl.none w w'→wpList P ops Q rest (a.put o.dst (.slice (some ⟨w.heap.size,0,none⟩) m c)) w') :
  wpList P ops Q (o :: rest) a w:=by
 refine wpList_plain hgd fun K hK=>?_
 obtain⟨c,w',hr,h1,h2,h3⟩:=Yh (P:=P) w T I o.type E zero z bytes hT hI hi hzs hsz m hm hl hb
 unfold Oper.wp execOp
 simp only [ho,resolve,invoke,builtin,Sem.run_bind,Sem.run_pure,Result.andThen_ok,List.map_toArray,List.map_cons,List.map_nil,hs,hx,hr]
 exact hK _ _ (h c w' h1 h2 h3)
theorem Wl (m:Nat) (w:World) (hn:m≤4000000) :
  Calls Tryz.prog 193 #[.slice none 0 0,.int .i64 m] w fun e w'=>∃ v,e=.returned v∧w'.ownsRow 0 108 4 v 0 []∧Below w.heap.size w w'∧∀ k,v.ownBlock=some k→w.heap.size≤k:=by
 go_enter Tryz.func193,Tryz.ntmps193
 by_cases hm:0<m
 ·have hmi:(0:Int)<(m:Int):=by omega
  go_wp2_with (at_builtin;refine qBo w rfl (.tmp 20) (.tmp 21) 83 3 108 _ 4 48 rfl Tryz.underlying83 Tryz.underlying3 Cv rfl (by decide) m rfl rfl hm (by omega) (by omega) ?_;intro c w2 hc ho2 hf2)
  go_ret
  exact⟨_,rfl,ho2,hf2.below0,by simp [Value.ownBlock]⟩
 ·obtain rfl:m=0:=by omega
  go_wp2
  go_ret
  exact⟨_,rfl,World.ownsRow_nil _ _ _ _,Below.refl _ _,by simp [Value.ownBlock]⟩
theorem Kx (w:World) (T ty E:TypeId) (zero:Value) (z bytes:Nat) (hT:P.underlying T=some (.slice E)) (hi:(P.info? E).map (fun i=>(i.zero,i.size,i.bytes))=some (some zero,z,bytes))
  (v:Value) (n:Nat) (xs:List Value) (hv:w.ownsRow 0 E z v n xs) (qa:Option Addr) (qc:Nat) :
  (Builtin.append_ #[T,T] ty #[v,.slice qa 0 qc]).run P w=.ok v w:=by
 obtain⟨i0,hi0,hz0,hz1,hz2⟩:=info_parts hi
 obtain⟨_,h2⟩:=hv
 rcases h2 with⟨rfl,rfl⟩|⟨g,c,cur,rfl,_,hg,hnc,_⟩
 ·cases qa<;>simp [Builtin.append_,run_underlying hT,sizeOf,typeInfo,hi0,hz0,hz1,hz2,Builtin.lenOf,Builtin.firstCells,loadCells,loadCellsFrom]
 ·cases qa<;>simp [Builtin.append_,run_underlying hT,sizeOf,typeInfo,hi0,hz0,hz1,hz2,Builtin.lenOf,Builtin.firstCells,loadCells,loadCellsFrom,hnc,storeCells]
theorem qBp {ops:Array Oper} {rest:List Oper} {o:Oper} {a:Act} {Q:Exit→Act→World→Prop} (w:World) (hgd:o.guard=none) (sl x:Operand) (T E:TypeId) (zero:Value) (z bytes:Nat) (ho:o.op=.call { callee:=.builtin .append,args:=#[sl,x],argTypes:=#[T,T] }) (hT:P.underlying T=some (.slice E)) (hi:(P.info? E).map (fun i=>(i.zero,i.size,i.bytes))=some (some zero,z,bytes))
  (v:Value) (n:Nat) (xs:List Value) (hs:a.eval sl=v) (hv:w.ownsRow 0 E z v n xs) (qa:Option Addr) (qc:Nat) (hx:a.eval x=.slice qa 0 qc)
  (h:wpList P ops Q rest (a.put o.dst v) w) :
  wpList P ops Q (o :: rest) a w:=by
 refine wpList_plain hgd fun K hK=>?_
 have hr:=Kx (P:=P) w T o.type E zero z bytes hT hi v n xs hv qa qc
 unfold Oper.wp execOp
 simp only [ho,resolve,invoke,builtin,Sem.run_bind,Sem.run_pure,Result.andThen_ok,List.map_toArray,List.map_cons,List.map_nil,hs,hx,hr]
 exact hK _ _ h
theorem aH.val {vs:List Value}  {u:Value} (h:aH w S a vs) (hu:vs[j]?=some u):∃ b off,a=some ⟨b,off,none⟩∧S b∧w.cell? ⟨b,off+j,none⟩=some u:=by
 rcases h with h|⟨b,off,ha,hb,hc⟩
 ·subst h;simp at hu
 ·exact⟨b,off,ha,hb,hc j u hu⟩
def lens {α:Type} (qs:List (Pc α)):Nat:=(qs.map (·.l.length)).sum
theorem Cj (qs:List (Pc α)) (j:Nat) (h:j<qs.length):lens (qs.take (j+1))=lens (qs.take j)+qs[j].l.length:=by
 unfold lens;rw [List.take_succ_eq_append_getElem h,List.map_append,List.sum_append];simp only [List.map_cons,List.map_nil,List.sum_cons,List.sum_nil,Nat.add_zero]
theorem Sx (qs:List (Pc α)) (j:Nat):lens (qs.take j)≤lens qs:=by
 have:qs.map (·.l.length)=(qs.take j).map (·.l.length)++(qs.drop j).map (·.l.length):=by rw [← List.map_append,List.take_append_drop]
 unfold lens;rw [this,List.sum_append];exact Nat.le_add_right _ _
theorem Eu (a b:List En):aN (a++b)=aN a++aN b:=by simp [aN]
theorem mN (a:List En):(aN a).length=a.length * 4:=by rw [rL];exact Df a (Nm a)
theorem Dk (a:List En):∀ u∈aN a,u.oneCell'=true:=by
 intro u hu
 simp [aN,Ent.cells] at hu
 obtain⟨x,_,h|h|h|h⟩:=hu<;>subst h<;>rfl
theorem mH (a:List MN):∀ u∈aL a,u.oneCell'=true:=by
 intro u hu
 simp [aL,MN.cells] at hu
 obtain⟨x,_,h|h|h|h|h⟩:=hu<;>subst h<;>rfl
theorem Nt (qs:List (Pc En)) (ga:Option Addr) (gc:Nat) (S:Bl) (w:World) (hR:aH w S ga (qs.map Pc.val)) (hq:∀ q∈qs,q.l.length≤q.c∧aH w S q.a (aN q.l)) (hS:∀ b,S b→b<w.heap.size) (hn:lens qs≤1000000) (hql:qs.length≤1000000) (hgc:qs.length≤gc) :
  Calls Tryz.prog 191 #[.slice ga qs.length gc] w fun e w'=>∃ v,e=.returned v∧w'.ownsRow 0 108 4 v (lens qs) (aN (qs.flatMap (·.l)))∧Below w.heap.size w w'∧∀ k,v.ownBlock=some k→w.heap.size≤k:=by
 have hG:=Wl (lens qs) w (by omega)
 go_enter Tryz.func191,Tryz.ntmps191
 go_wp2
 go_loopw [3,11] (fun a b wr=>∃ j:Nat,a=.int .i64 (lens (qs.take j))∧b=.int .i64 j∧j≤qs.length∧wr=w) (fun _ b _=>qs.length-(intOf b).toNat)
 case atStart=>exact⟨0,by simp [lens],rfl,Nat.zero_le _,rfl⟩
 case round =>
  obtain⟨j,rfl,rfl,hj,hwr⟩:=hrel
  subst wr
  by_cases hlt:j<qs.length
  ·obtain⟨Q,hQ⟩:=nM (qs[j])
   obtain⟨gb,go,hga,hgb,hcell⟩:=hR.val (j:=j) (u:=.slice Q.a Q.l.length Q.c) (by rw [List.getElem?_map,jQ hlt,hQ];rfl)
   subst hga
   have hle1:=Sx qs (j+1)
   have htk:=Cj qs j hlt
   rw [hQ] at htk
   obtain⟨n,hn'⟩:∃ n,lens (qs.take j)=n:=⟨_,rfl⟩
   rw [hn'] at htk
   obtain⟨m,hm'⟩:∃ m,Q.l.length=m:=⟨_,rfl⟩
   rw [hm'] at htk hcell
   have hnm:n+m≤1000000:=by omega
   have HTK:Hid (lens (qs.take (j+1))=n+m):=htk
   simp only [hn']
   clear htk hle1 hn' hm' hQ hG hR hq
   have hnn:¬ ((n:Int)+(m:Int)<0):=by omega
   go_wp2
   go_roundw
   case rel=>exact⟨j+1,by rw [HTK.out];congr 1,by go_num,by omega,by first|trivial|rfl⟩
   case measure=>simp [intOf];omega
  ·obtain rfl:j=qs.length:=by omega
   have HTL:Hid (qs.take qs.length=qs):=List.take_length
   simp only [List.take_length]
   obtain⟨N,hN⟩:=nM (lens qs)
   have HN:Hid (lens qs=N):=hN
   rw [hN] at hG hn
   simp only [hN]
   clear hN
   go_wp2_with (go_at_call 193;refine hG.mono ?_;clear hG;rintro e w1 ⟨v,rfl,ho1,hb1,hl1⟩)
   go_loopw [6,27] (fun a b wr=>∃ j:Nat,b=.int .i64 j∧j≤qs.length∧wr.ownsRow 0 108 4 a (lens (qs.take j)) (aN ((qs.take j).flatMap (·.l)))∧Below w.heap.size w wr∧∀ k,a.ownBlock=some k→w.heap.size≤k) (fun _ b _=>qs.length-(intOf b).toNat)
   case atStart=>exact⟨0,rfl,Nat.zero_le _,by simpa [lens,aN] using ho1,hb1,hl1⟩
   case round =>
    obtain⟨j,rfl,hj2,ho,hb,hk⟩:=hrel
    obtain⟨aa,ac,rfl⟩:=aO ho
    by_cases hlt2:j<qs.length
    ·obtain⟨Q,hQ⟩:=nM (qs[j])
     have hQm:Q∈qs:=hQ▸List.getElem_mem hlt2
     obtain⟨gb,go,hga,hgb,hcell⟩:=(hR.on (vV hb hS)).val (j:=j) (u:=.slice Q.a Q.l.length Q.c) (by rw [List.getElem?_map,jQ hlt2,hQ];rfl)
     subst hga
     have hle1:=Sx qs (j+1)
     have htk:=Cj qs j hlt2
     rw [hQ] at htk
     have htk2:(qs.take (j+1)).flatMap (·.l)=(qs.take j).flatMap (·.l)++Q.l:=by rw [List.take_succ_eq_append_getElem hlt2,hQ];simp
     obtain⟨n,hn'⟩:∃ n,lens (qs.take j)=n:=⟨_,rfl⟩
     rw [hn'] at htk ho
     simp only [hn'] at hk
     have hle2:n+Q.l.length≤1000000:=by have:=HN.out;omega
     have HTK:Hid (lens (qs.take (j+1))=n+Q.l.length):=htk
     have HTK2:Hid (aN ((qs.take (j+1)).flatMap (·.l))=aN ((qs.take j).flatMap (·.l))++aN Q.l):=by show _=_;rw [htk2,Eu]
     simp only [hn']
     have hQr:=(hq Q hQm).2.on (vV hb hS)
     clear htk htk2 hle1 hn' hQ
     obtain⟨Qa,Qc,Ql⟩:=Q
     simp only at hcell hle2 hQr HTK HTK2
     by_cases hl0:0<Ql.length
     ·obtain⟨rb,ro,rfl,hrb⟩:=hQr.addr (wZ hl0)
      have hnews:∀ i u,(aN Ql)[i]?=some u→wr.cell? ((⟨rb,ro,none⟩:Addr).add i)=some u:=by
       intro i u hu
       obtain⟨b,off,hbo,_,hc⟩:=hQr.val hu
       simp only [Option.some.injEq,Addr.mk.injEq,and_true] at hbo
       obtain⟨rfl,rfl⟩:=hbo
       have e:(⟨rb,ro,none⟩:Addr).add i=⟨rb,ro+i,none⟩:=by unfold Addr.add;split<;>simp_all
       rw [e];exact hc
      go_wp2_with (at_builtin;refine Ai wr rfl (.tmp 31) (.tmp 32) 83 108 _ 4 48 rfl Tryz.underlying83 Cv rfl (by decide) (.slice aa n ac) n (aN ((qs.take j).flatMap (·.l))) rfl ho ⟨rb,ro,none⟩ Ql.length Qc (aN Ql) rfl (mN Ql) hnews (Dk Ql) (by omega) (by omega) ?_;intro v3 w3 A3;obtain⟨g3,k3,rfl⟩:=A3.shape hl0)
      go_roundw
      case rel =>
       refine⟨j+1,by go_num,by omega,by rw [HTK.out,HTK2.out];exact A3.row,hb.trans (A3.fr.below hb.size hk),?_⟩
       intro k h
       rcases A3.lies k h with h|h
       ·exact hk k h
       ·exact vJ hb.size h
      case measure=>simp [intOf];omega
     ·obtain rfl:=List.eq_nil_of_length_eq_zero (by omega:Ql.length=0)
      simp only [jN] at hcell
      go_wp2_with (at_builtin;refine qBp wr rfl (.tmp 31) (.tmp 32) 83 108 _ 4 48 rfl Tryz.underlying83 Cv (.slice aa n ac) n (aN ((qs.take j).flatMap (·.l))) rfl ho Qa Qc rfl ?_)
      go_roundw
      case rel=>exact⟨j+1,by go_num,by omega,by rw [HTK.out,HTK2.out];simpa [aN] using ho,hb,hk⟩
      case measure=>simp [intOf];omega
    ·obtain rfl:j=qs.length:=by omega
     simp only [List.take_length] at ho hk ⊢
     go_wp2
     go_ret
     exact⟨_,rfl,ho,hb,hk⟩
