/-
  Joined: Over.
-/
import Derived.Test.YtfnhmpcpeahfkaaGreatU30
set_option linter.unusedSimpArgs false
set_option linter.unusedVariables false
set_option maxRecDepth 100000
set_option maxHeartbeats 8000000
namespace Go.Proofs.YtfnhmpcpeahfkaaGreat.Tree
open Go.RowKit Go.Shelf Pages
variable {cs:List Ch} {w:World}
attribute [local go_sem] Oper.semAt_some
def lH (a:List En×List Ch) (x:En):List En×List Ch :=
 (a.1++(cS (a.2.take (cL a.2 x.e.key))++if fnd a.2 x.e.key=true then [] else [x]),a.2.drop (cL a.2 x.e.key))
def fK (es:List En) (cs:List Ch):List En×List Ch:=es.foldl lH ([],cs)
def bK (es:List En) (cs:List Ch):List En:=(fK es cs).1++cS (fK es cs).2
theorem qBu (es:List En) (x:En) (cs:List Ch):fK (es++[x]) cs=lH (fK es cs) x:=by simp [fK]
theorem pO:∀ (es:List En) (a:List En×List Ch),∃ t,(es.foldl lH a).1=a.1++t
 | [],a=>⟨[],by simp⟩
 | x :: es,a=>by
  obtain⟨t,ht⟩:=pO es (lH a x)
  exact⟨_,by rw [List.foldl_cons,ht,lH,List.append_assoc]⟩
theorem qSh (pre post:List En) (cs:List Ch):∃ t,bK (pre++post) cs=(fK pre cs).1++t:=by
 obtain⟨t,ht⟩:=pO post (fK pre cs)
 refine⟨t++cS (fK (pre++post) cs).2,?_⟩
 unfold bK
 have e:fK (pre++post) cs=post.foldl lH (fK pre cs):=by simp [fK]
 rw [← List.append_assoc,← ht,e]
theorem qBv (hr:cI cs):∀ (es:List En),cI (fK es cs).2∧(fK es cs).2.length≤cs.length:=by
 intro es
 have:∀ (es:List En) (a:List En×List Ch),cI a.2→cI (es.foldl lH a).2∧(es.foldl lH a).2.length≤a.2.length:=by
  intro es
  induction es with
  | nil=>intro a h;exact⟨h,Nat.le_refl _⟩
  | cons x es ih =>
   intro a h
   obtain⟨h1,h2⟩:=ih (lH a x) (List.Pairwise.sublist (List.drop_sublist _ _) h)
   refine⟨h1,Nat.le_trans h2 ?_⟩
   simp [lH]
 exact this es ([],cs) hr
theorem nH.on {α:Type} {P:Program} {g:Nat} {lb:Array Value} {Has:α→Array Value→Bl→World→Prop} {xs:List α} {Rd:Bl} {w w':World} (h:nH P g lb Has xs Rd w) (ho:On Rd w w'):nH P g lb Has xs Rd w' :=
 fun l J Jx Y W hon=>h l J Jx Y W (ho.trans hon)
theorem aL.cut {S:Bl} {b off:Nat}  {i:Nat} {a:Option Addr} (h:aL w S (some ⟨b,off,none⟩) (cs.flatMap Ch.cells)) (ha:i<cs.length→a=some ⟨b,off+i * 3,none⟩):aL w S a ((cs.drop i).flatMap Ch.cells):=by
 by_cases hi:i<cs.length
 ·rw [ha hi]
  rcases h with h|⟨b',off',hb,hs,hc⟩
  ·have:cs=[]:=by
    cases cs with
    | nil=>rfl
    | cons c cs=>simp [Ch.cells] at h
   subst this
   simp at hi
  ·simp only [Option.some.injEq,Addr.mk.injEq,and_true] at hb
   obtain⟨rfl,rfl⟩:=hb
   refine .inr ⟨b,off+i * 3,rfl,hs,fun j u hu=>?_⟩
   have e:(cs.flatMap Ch.cells)[i * 3+j]?=some u:=by
    have h3:((cs.take i).flatMap Ch.cells).length=i * 3:=by
     have:∀ (l:List Ch),(l.flatMap Ch.cells).length=l.length * 3:=by
      intro l
      induction l with
      | nil=>rfl
      | cons c l ih=>rw [List.flatMap_cons,List.length_append,ih,List.length_cons];simp [Ch.cells];omega
     rw [this,List.length_take,Nat.min_eq_left (by omega)]
    rw [← List.take_append_drop i cs,List.flatMap_append,List.getElem?_append_right (by omega),h3]
    simpa using hu
   have:=hc _ _ e
   rw [Nat.add_assoc]
   exact this
 ·exact .inl (by rw [List.drop_eq_nil_of_le (by omega)];rfl)
theorem aL.head {S:Bl} {a:Option Addr}  {i:Nat} (h:aL w S a (cs.flatMap Ch.cells)):aL w S a ((cs.take i).flatMap Ch.cells):=by
 rcases h with h|⟨b,off,hb,hs,hc⟩
 ·left
  have:cs=[]:=by
   cases cs with
   | nil=>rfl
   | cons c cs=>simp [Ch.cells] at h
  subst this;simp
 ·refine .inr ⟨b,off,hb,hs,fun j u hu=>hc j u ?_⟩
  rw [← List.take_append_drop i cs,List.flatMap_append,List.getElem?_append_left (List.getElem?_eq_some_iff.1 hu).1]
  exact hu
theorem qEi (gf:Nat) (lb:Array Value) (eg:∀ args w,(callFunc gf args).run Tryz.prog w=.ok (.enter gf args) w) (es:List En) (Re:Bl) (bc be:Nat) (ca:Option Addr) (cc:Nat) (cs:List Ch) (S Rd:Bl) (w:World)
  (hseq:nH Tryz.prog gf lb oH es Re w) (xc:w.heap[bc]?=some (.cells #[.slice ca cs.length cc] 93)) (xe:w.heap[be]?=some (.cells #[.func (.func gf) #[] lb] 132)) (hR:aL w S ca (cs.flatMap Ch.cells)) (hr:cI cs) (hn:cs.length≤1000000) (hcc:cs.length≤cc) (hca:(ca=none∧cc=0)∨∃ b off,ca=some ⟨b,off,none⟩)
  (rc:Rd bc) (re:Rd be) (rs:∀ k,S k→Rd k) (rr:∀ k,Re k→Rd k) :
  nH Tryz.prog 148 #[.pointer (some ⟨bc,0,none⟩),.pointer (some ⟨be,0,none⟩)] oH (bK es cs) Rd w:=by
 intro l J Jx Y W hon hRd sJ lJ sJx lJx hY h0
 refine callsIn_of_wp_marks Tryz.func148 rfl trivial ?_ rfl
 simp only [Tryz.ntmps148,List.size_toArray,List.length_cons,List.length_nil,Nat.reduceAdd,Nat.reduceSub,Array.replicate_succ,Array.replicate_zero,List.push_toArray,List.append_toArray,List.nil_append,List.cons_append]
 have lY:=lJ [] Y W h0
 have l1:=(hRd bc rc).2
 have l2:=(hRd be re).2
 obtain⟨W1,hW1⟩:=nM (W.alloc (.cells #[.func (.yield l) #[] #[]] 172))
 have f1:Fr Bl.none W W1:=hW1▸(Fr.refl _ W).alloc _
 have y1:W1.heap[W.heap.size]?=some (.cells #[.func (.yield l) #[] #[]] 172):=hW1▸aB W _
 have o1:On Rd w W1:=hon.trans (f1.on (fun k hk=>⟨(hRd k hk).2,fun h=>h⟩))
 have c0:W1.cell? ⟨bc,0,none⟩=some (.slice ca cs.length cc):=by simp [World.cell?,o1.heap xc rc]
 obtain⟨W2,hW2⟩:=nM (W1.alloc (.cells #[.slice ca cs.length cc] 93))
 have f2:Fr Bl.none W W2:=f1.trans (hW2▸(Fr.refl _ W1).alloc _)
 have x2:W2.heap[W1.heap.size]?=some (.cells #[.slice ca cs.length cc] 93):=hW2▸aB W1 _
 have o2:On Rd w W2:=hon.trans (f2.on (fun k hk=>⟨(hRd k hk).2,fun h=>h⟩))
 have e0:W2.cell? ⟨be,0,none⟩=some (.func (.func gf) #[] lb):=by simp [World.cell?,o2.heap xe re]
 have z1:W.heap.size<W1.heap.size:=(Array.getElem?_eq_some_iff.1 y1).1
 have z2:W1.heap.size<W2.heap.size:=(Array.getElem?_eq_some_iff.1 x2).1
 have y2:W2.heap[W.heap.size]?=some (.cells #[.func (.yield l) #[] #[]] 172):=hW2▸aF _ y1
 have hJ2:=sJ _ _ _ _ h0 (f2.on (fun k hk=>⟨lY k hk,fun h=>h⟩))
 have F2:Fr Y W W2:=f2.mono (fun _ h=>h.elim)
 have R2:=hR.on (o2.mono rs)
 have hseq2:=hseq.on (o2.mono rr)
 gi_wp2
 let br:=W1.heap.size
 let I:List En→Bl→World→Prop:=fun pre Y' W'=>∃ (Yj:Bl) (a:Option Addr) (c:Nat),J (fK pre cs).1 Yj W'∧(∀ k,Y' k↔Yj k∨k=br)∧¬ Yj br∧W'.heap[br]?=some (.cells #[.slice a (fK pre cs).2.length c] 93)∧(fK pre cs).2.length≤c∧(∀ Wx,aL Wx S ca (cs.flatMap Ch.cells)→aL Wx S a ((fK pre cs).2.flatMap Ch.cells))∧((a=none∧c=0)∨∃ b off,a=some ⟨b,off,none⟩)
 let Ix:Code→List En→Bl→World→Prop:=fun c pre Y' W'=>c=.ret∧∃ Yj pp,pp <+: bK es cs∧pp≠[]∧Jx pp Yj W'∧(∀ k,Yj k→Y' k)∧(∀ k,Y' k→k<W'.heap.size)
 have hRb:∀ k,Rd k→k≠br:=fun k hk=>by have:=(hRd k hk).2;show k≠W1.heap.size;omega
 refine eO (P:=Tryz.prog) (Has:=oH) (Rd:=Re) rfl eg hseq2 (fun x args S W hH=>by rw [show args=_ from hH];rfl) I Ix ?_ ?_ ?_ ?_ (fun k=>Y k∨k=br) ⟨Y,ca,cc,by simpa [fK] using hJ2,fun k=>Iff.rfl,fun h=>by have:=lY _ h;show False;simp only [br] at this;omega,by simpa [fK] using x2,by simpa [fK] using hcc,fun Wx h=>by simpa [fK] using h,hca⟩ ?_ ?_ ?_ ?_
 ·rintro pre Y' A B ⟨Yj,a,c,h1,h2,h3,h4,h5,h6,h7⟩ ho
  exact⟨Yj,a,c,sJ _ _ _ _ h1 (ho.mono (fun k hk=>(h2 k).2 (.inl hk))),h2,h3,ho.heap h4 ((h2 _).2 (.inr rfl)),h5,h6,h7⟩
 ·rintro c pre Y' A B ⟨rfl,Yj,pp,h1,h2,h3,h4,h5⟩ ho
  exact⟨rfl,Yj,pp,h1,h2,sJx _ _ _ _ h3 (ho.mono h4),h4,fun k hk=>Nat.lt_of_lt_of_le (h5 k hk) ho.size⟩
 ·rintro pre Y' A ⟨Yj,a,c,h1,h2,h3,h4,h5,h6,h7⟩ k hk
  rcases (h2 k).1 hk with h|rfl
  ·exact lJ _ _ _ h1 k h
  ·exact(Array.getElem?_eq_some_iff.1 h4).1
 ·rintro c pre Y' A ⟨rfl,Yj,pp,h1,h2,h3,h4,h5⟩
  exact h5
 ·intro k hk
  have hk':=rr k hk
  exact⟨fun h=>h.elim (hRd k hk').1 (hRb k hk'),by have:=(hRd k hk').2;omega⟩
 ·-- an entry
  rintro lk pre x rest args S' Y2 Wd hx ⟨Yj,a,c,hJd,hYi,hnb,xb,hlc,hrow,hsh⟩ hH hS hFd hGd hl0 hl1 hl2 ⟨r',hr'⟩
  have hH':args=#[.agg #[.string x.e.key,.string x.e.val,.int .i64 x.e.size,.int .i64 x.e.over]]:=hH
  subst hH'
  obtain⟨hrise,hrl⟩:=qBv hr pre
  obtain⟨t,ht⟩:=qSh (pre++[x]) rest cs
  have hes:es=(pre++[x])++rest:=by rw [hx];simp
  rw [← hes,qBu] at ht
  have hsn:=qBu pre x cs
  obtain⟨dn,hdn⟩:=nM ((fK pre cs).1)
  obtain⟨rs',hrs⟩:∃ rs',(fK pre cs).2=rs':=⟨_,rfl⟩
  simp only [lH,hdn,hrs] at ht hsn
  rw [hdn] at hJd
  rw [hrs] at xb hlc hrow hrise hrl
  obtain⟨i,hi⟩:=nM (cL rs' x.e.key)
  have hile:i≤rs'.length:=by rw [← hi];exact oO _ _
  obtain⟨fb,hfb⟩:=nM (fnd rs' x.e.key)
  rw [hi,hfb] at ht hsn
  have HT:Hid (bK es cs=dn++(cS (rs'.take i)++((if fb=true then [] else [x])++t))):=by show _=_;rw [ht];simp
  have HS:Hid (fK (pre++[x]) cs=(dn++(cS (rs'.take i)++if fb=true then [] else [x]),rs'.drop i)):=hsn
  have zd:W2.heap.size≤Wd.heap.size:=hFd.size
  have Fd:Fr Y W Wd:=F2.grow hFd (fun k hk=>hk.elim .inl (fun h=>.inr (by subst h;show W.heap.size≤W1.heap.size;omega)))
  have Gd:aK W Y Yj:=fun k hk=>by
   rcases hGd k ((hYi k).2 (.inl hk)) with(h|h)|h
   ·exact .inl h
   ·exact .inr (by subst h;show W.heap.size≤W1.heap.size;omega)
   ·exact .inr (by omega)
  have od:On Rd w Wd:=o2.trans (hFd.on (fun k hk=>⟨by have:=(hRd k hk).2;omega,fun h=>h.elim (hRd k hk).1 (hRb k hk)⟩))
  have yd:=hFd.heap y2 (fun h=>h.elim (fun h=>by have:=lY _ h;omega) (fun h=>by simp only [br] at h;omega))
  have lYj:=lJ _ _ _ hJd
  have hSearch:=fun Wx (h:aL Wx S ca (cs.flatMap Ch.cells)) (h2:∀ b,S b→b<Wx.heap.size)=>lL a c rs' x.e.key S Wx (hrow Wx h) h2 hrise (by omega) hlc
  rw [hi,hfb] at hSearch
  clear ht hsn hdn hrs hi hfb hes hx
  unfold gL
  gi_wp2
  refine⟨(Fr.refl _ Wd).alloc _,?_⟩
  intro We hTe
  have x3:=hTe.heap (k:=Wd.heap.size) (aB Wd (.cells #[.string x.e.key,.string x.e.val,.int .i64 x.e.size,.int .i64 x.e.over] 108)) (Nat.ne_of_gt hl1)
  obtain⟨m0,m1,m2,m3⟩:=gK x3
  have aE:Fr Bl.none Wd (Wd.alloc (.cells #[.string x.e.key,.string x.e.val,.int .i64 x.e.size,.int .i64 x.e.over] 108)):=(Fr.refl _ Wd).alloc _
  have fE:Fr (Bl.one lk) Wd We:=(aE.mono (fun _ h=>h.elim)).trans hTe.fr
  have zE:Wd.heap.size<We.heap.size:=(Array.getElem?_eq_some_iff.1 x3).1
  have hbr:br<Wd.heap.size:=(Array.getElem?_eq_some_iff.1 xb).1
  have xbE:=fE.heap xb (fun h=>by simp only [Bl.one] at h;subst h;exact hl2 ((hYi _).2 (.inr rfl)))
  have yE:=fE.heap yd (oN (by omega))
  have hJe:=sJ _ _ _ _ hJd (fE.on (fun k hk=>⟨lYj k hk,fun h=>by simp only [Bl.one] at h;subst h;exact hl2 ((hYi _).2 (.inl hk))⟩))
  have oE:On Rd w We:=od.trans (fE.on (fun k hk=>⟨by have:=(hRd k hk).2;omega,fun h=>by simp only [Bl.one] at h;have:=(hRd k hk).2;omega⟩))
  have Fe:Fr Y W We:=Fd.grow fE (fun k hk=>.inr (by simp only [Bl.one] at hk;omega))
  have cE:We.cell? ⟨W1.heap.size,0,none⟩=some (.slice a rs'.length c):=by
   have:We.heap[W1.heap.size]?=_:=xbE
   simp [World.cell?,this]
  have hSe:=hSearch We (hR.on (oE.mono rs)) (fun b hb=>by have:=(hRd b (rs b hb)).2;omega)
  have hmix:Tryz.prog.follows .mixedOrders=true:=by kernel_rfl
  gi_wp2_with (refine⟨trivial,rfl,?_⟩;gi_at_call 72;refine(CallsIn.inRound lk (callsIn_wide.2 hSe)).mono ?_;clear hSe hSearch;rintro e Wf ⟨rfl,hbf⟩;have fF:Fr Bl.none We Wf:=Fr.of_below hbf;have xbF:=fF.heap xbE (fun h=>h);have yF:=fF.heap yE (fun h=>h);have x3F:=fF.heap x3 (fun h=>h))
  have cF:Wf.cell? ⟨W1.heap.size,0,none⟩=some (.slice a rs'.length c):=by
   have:Wf.heap[W1.heap.size]?=_:=xbF
   simp [World.cell?,this]
  have yF0:Wf.cell? ⟨W.heap.size,0,none⟩=some (.func (.yield l) #[] #[]):=by simp [World.cell?,yF]
  have zF:=fF.size
  have hYjR:∀ k,Rd k→¬ Yj k:=fun k hk h=>(Gd k h).elim (hRd k hk).1 (fun h'=>by have:=(hRd k hk).2;omega)
  have fD:Fr Bl.none We Wf.drew:=fF.drew
  have oF:On Rd w Wf.drew:=oE.trans (fD.on (fun k hk=>⟨by have:=(hRd k hk).2;omega,fun h=>h⟩))
  have hJf:=sJ _ _ _ _ hJe (fD.on (fun k hk=>⟨lJ _ _ _ hJe k hk,fun h=>h⟩))
  have Ff:Fr Y W Wf.drew:=Fe.trans (fD.mono (fun _ h=>h.elim))
  have hlen:(rs'.take i).length=i:=by rw [List.length_take];omega
  have hTl:=qIj l (bK es cs) J Jx sJ lJ Y W hY a c (rs'.take i) S dn ((if fb=true then [] else [x])++t) Yj Wf.drew HT.out ((hrow _ (hR.on (oF.mono rs))).head) (fun b hb=>⟨hYjR b (rs b hb),by have:=(hRd b (rs b hb)).2;have:=fD.size;omega⟩) (by omega) (by omega) hJf Ff Gd
  rw [hlen] at hTl
  have hTl2:CallsIn Fence.wide 0 Tryz.prog 149 #[.slice a i c,.func (.yield l) #[] #[]] Wf.drew (fun e W'=>∃ b,e=.returned (.bool b)∧Hid (qZx J Jx (bK es cs) dn (cS (rs'.take i)) Yj Wf.drew (.returned (.bool b)) W')):=by
   refine hTl.mono ?_
   rintro e W' hT
   rcases id hT with⟨rfl,_⟩|⟨rfl,_⟩
   ·exact⟨true,rfl,hT⟩
   ·exact⟨false,rfl,hT⟩
  have hil:(i:Int)≤(c:Int):=by omega
  have hil2:(i:Int)≤(rs'.length:Int):=by omega
  clear hTl hlen m0 m1 m2 m3
  gi_region_with_o (refine⟨trivial,rfl,?_⟩;gi_at_call 149;refine(CallsIn.inRound lk hTl2).mono ?_;clear hTl2;rintro e Wg ⟨b,rfl,HTL⟩)
  all_goals
   have hgrow:∀ Y5,aK Wf.drew Yj Y5→aK We Y2 (fun k=>Y5 k∨k=br):=fun Y5 hG5 k hk=>by
    rcases hk with hk|rfl
    ·rcases hG5 k hk with h|h
     ·exact .inl ((hYi k).2 (.inl h))
     ·exact .inr (Nat.le_trans fD.size h)
    ·exact .inl ((hYi _).2 (.inr rfl))
   have hfr2:∀ Wx,Fr Yj Wf.drew Wx→Fr Y2 We Wx:=fun Wx h=>(fD.mono (fun _ h=>h.elim)).trans (h.mono (fun k hk=>.inl ((hYi k).2 (.inl hk))))
   cases b
   ·rcases HTL.out with⟨hb,_⟩|⟨_,Y5,pp,hp,hne,hJ5,hF5,hG5⟩
    ·simp at hb
    ·clear HTL
     have xg:=hF5.heap (show Wf.drew.heap[br]?=_ from xbF) hnb
     gi_wp2
     refine⟨fun k=>Y5 k∨k=br,⟨rfl,Y5,pp,hp,hne,hJ5,fun k h=>.inl h,?_⟩,hfr2 _ hF5,hgrow _ hG5⟩
     rintro k (hk|rfl)
     ·exact lJx _ _ _ hJ5 k hk
     ·exact(Array.getElem?_eq_some_iff.1 xg).1
   ·rcases HTL.out with⟨_,Y5,hJ5,hF5,hG5⟩|⟨hb,_⟩
    ·clear HTL
     have xg:=hF5.heap (show Wf.drew.heap[br]?=_ from xbF) hnb
     have cg:Wg.cell? ⟨W1.heap.size,0,none⟩=some (.slice a rs'.length c):=by
      have:Wg.heap[W1.heap.size]?=_:=xg
      simp [World.cell?,this]
     have gfr:∀ k,Wg.frozen? ⟨W1.heap.size,k,none⟩=false:=aJ (show Wg.heap[W1.heap.size]?=_ from xg)
     have hn5:¬ Y5 br:=fun h=>(hG5 _ h).elim hnb (fun h'=>by have h1:Wf.heap.size≤W1.heap.size:=h';have h2:W1.heap.size<Wd.heap.size:=hbr;omega)
     have hYw:¬ Yj W.heap.size:=fun h=>(hGd _ ((hYi _).2 (.inl h))).elim (fun h'=>h'.elim (fun h'=>by have:=lY _ h';omega) (fun h'=>by have h'':W.heap.size=W1.heap.size:=h';omega)) (fun h'=>by omega)
     have hYd:¬ Yj Wd.heap.size:=fun h=>by have:=lYj _ h;omega
     rcases hsh with⟨rfl,rfl⟩|⟨rb,ro,rfl⟩
     ·obtain rfl:rs'=[]:=List.eq_nil_of_length_eq_zero (by omega)
      obtain rfl:i=0:=by simpa using hile
      obtain⟨Wh,hWh⟩:=nM (Wg.setCell ⟨W1.heap.size,0,none⟩ (.slice none (0) (0)))
      have fh:Fr (Bl.one br) Wg Wh:=hWh▸(Fr.refl (Bl.one br) Wg).setCell (p:=⟨W1.heap.size,0,none⟩) (.inl rfl) _
      have xh:Wh.heap[br]?=some (.cells #[.slice none (0) (0)] 93):=(by rw [← hWh];simpa using aI (show Wg.heap[W1.heap.size]?=_ from xg) 0 (.slice none (0) (0)))
      have yg:=hF5.heap (show Wf.drew.heap[W.heap.size]?=_ from yF) hYw
      have yh:=fh.heap yg (fun h=>by have h':W.heap.size=W1.heap.size:=h;omega)
      have yh0:Wh.cell? ⟨W.heap.size,0,none⟩=some (.func (.yield l) #[] #[]):=(by simp [World.cell?,yh])
      have x3g:=hF5.heap (show Wf.drew.heap[Wd.heap.size]?=_ from x3F) hYd
      have x3h:=fh.heap x3g (fun h=>by have h':Wd.heap.size=W1.heap.size:=h;have h2:W1.heap.size<Wd.heap.size:=hbr;omega)
      obtain⟨n0,n1,n2,n3⟩:=gK x3h
      have hJh:=sJ _ _ _ _ hJ5 (fh.on (fun k hk=>⟨lJ _ _ _ hJ5 k hk,fun h=>by have h':k=br:=h;rw [h'] at hk;exact hn5 hk⟩))
      have Fgh:Fr Y2 We Wh:=(hfr2 _ hF5).trans (fh.mono (fun k hk=>.inl ((hYi k).2 (.inr hk))))
      have hrow':∀ Wx,aL Wx S ca (cs.flatMap Ch.cells)→aL Wx S none ((([]:List Ch).drop 0).flatMap Ch.cells):=(fun Wx _=>.inl rfl)
      have HN:Hid ((0)=(([]:List Ch).drop 0).length):=(by show _=_;simp)
      have HC:Hid ((0)≤(0)):=(by show _≤_;omega)
      cases fb
      ·have heq:bK es cs=(dn++cS (([]:List Ch).take 0))++x :: t:=(by rw [HT.out];simp)
       have HEQ:Hid (bK es cs=(dn++cS (([]:List Ch).take 0))++x :: t):=heq
       clear heq
       have FWh:Fr Y W Wh:=(Ff.grow hF5 Gd).grow fh (fun k hk=>.inr (by have h':k=W1.heap.size:=hk;omega))
       have GW5:aK W Y Y5:=Gd.trans Ff.size hG5
       obtain⟨fn,tmps,assign,body,hy,hRr⟩:=hY _ x _ #[.agg #[.string x.e.key,.string x.e.val,.int .i64 x.e.size,.int .i64 x.e.over]] Bl.none Y5 Wh HEQ.out hJh rfl (fun _ h=>h.elim) FWh GW5
       gi_wp2
       refine⟨rfl,(lM lk (cO hRr)).mono ?_⟩
       clear hy hRr
       rintro e Wi (⟨rfl,Y6,hJ6,hF6,hG6⟩|⟨rfl,Y6,hJ6,hF6,hG6⟩)
       ·have xi:=hF6.heap xh hn5
        have hn6:¬ Y6 br:=fun h=>(hG6 _ h).elim hn5 (fun h'=>by have h1:Wh.heap.size≤W1.heap.size:=h';have:=(Array.getElem?_eq_some_iff.1 xh).1;have h2:W1.heap.size<Wh.heap.size:=this;omega)
        gi_wp2
        refine⟨fun k=>Y6 k∨k=br,⟨Y6,none,0,?_,fun k=>Iff.rfl,hn6,?_,?_,?_,?_⟩,?_,?_⟩
        ·rw [HS.out];simpa using hJ6
        ·rw [HS.out];refine xi.trans ?_;exact congrArg (fun n=>some (Obj.cells #[Value.slice _ n _] 93)) HN.out
        ·rw [HS.out,← HN.out];exact HC.out
        ·rw [HS.out];exact hrow'
        ·exact .inl ⟨rfl,rfl⟩
        ·exact Fgh.grow hF6 (fun k hk=>hgrow _ hG5 k (.inl hk))
        ·intro k hk
         rcases hk with hk|rfl
         ·rcases hG6 k hk with h|h
          ·exact hgrow _ hG5 k (.inl h)
          ·exact .inr (Nat.le_trans Fgh.size h)
         ·exact .inl ((hYi _).2 (.inr rfl))
       ·have xi:=hF6.heap xh hn5
        gi_wp2
        refine⟨fun k=>Y6 k∨k=br,⟨rfl,Y6,_,by rw [HEQ.out];exact⟨t,by simp⟩,by simp,hJ6,fun k h=>.inl h,?_⟩,Fgh.grow hF6 (fun k hk=>hgrow _ hG5 k (.inl hk)),?_⟩
        ·rintro k (hk|rfl)
         ·exact lJx _ _ _ hJ6 k hk
         ·exact(Array.getElem?_eq_some_iff.1 xi).1
        ·intro k hk
         rcases hk with hk|rfl
         ·rcases hG6 k hk with h|h
          ·exact hgrow _ hG5 k (.inl h)
          ·exact .inr (Nat.le_trans Fgh.size h)
         ·exact .inl ((hYi _).2 (.inr rfl))
      ·gi_wp2
       refine⟨fun _ h=>(by cases h),?_⟩
       gi_wp2
       refine⟨fun k=>Y5 k∨k=br,⟨Y5,none,0,?_,fun k=>Iff.rfl,hn5,?_,?_,?_,?_⟩,Fgh,hgrow _ hG5⟩
       ·rw [HS.out];simpa using hJh
       ·rw [HS.out];refine xh.trans ?_;exact congrArg (fun n=>some (Obj.cells #[Value.slice _ n _] 93)) HN.out
       ·rw [HS.out,← HN.out];exact HC.out
       ·rw [HS.out];exact hrow'
       ·exact .inl ⟨rfl,rfl⟩
     ·by_cases hci:c=i
      ·subst hci
       obtain⟨Wh,hWh⟩:=nM (Wg.setCell ⟨W1.heap.size,0,none⟩ (.slice (some ⟨rb,ro,none⟩) (0) (0)))
       have fh:Fr (Bl.one br) Wg Wh:=hWh▸(Fr.refl (Bl.one br) Wg).setCell (p:=⟨W1.heap.size,0,none⟩) (.inl rfl) _
       have xh:Wh.heap[br]?=some (.cells #[.slice (some ⟨rb,ro,none⟩) (0) (0)] 93):=(by rw [← hWh];simpa using aI (show Wg.heap[W1.heap.size]?=_ from xg) 0 (.slice (some ⟨rb,ro,none⟩) (0) (0)))
       have yg:=hF5.heap (show Wf.drew.heap[W.heap.size]?=_ from yF) hYw
       have yh:=fh.heap yg (fun h=>by have h':W.heap.size=W1.heap.size:=h;omega)
       have yh0:Wh.cell? ⟨W.heap.size,0,none⟩=some (.func (.yield l) #[] #[]):=(by simp [World.cell?,yh])
       have x3g:=hF5.heap (show Wf.drew.heap[Wd.heap.size]?=_ from x3F) hYd
       have x3h:=fh.heap x3g (fun h=>by have h':Wd.heap.size=W1.heap.size:=h;have h2:W1.heap.size<Wd.heap.size:=hbr;omega)
       obtain⟨n0,n1,n2,n3⟩:=gK x3h
       have hJh:=sJ _ _ _ _ hJ5 (fh.on (fun k hk=>⟨lJ _ _ _ hJ5 k hk,fun h=>by have h':k=br:=h;rw [h'] at hk;exact hn5 hk⟩))
       have Fgh:Fr Y2 We Wh:=(hfr2 _ hF5).trans (fh.mono (fun k hk=>.inl ((hYi k).2 (.inr hk))))
       have hrow':∀ Wx,aL Wx S ca (cs.flatMap Ch.cells)→aL Wx S (some ⟨rb,ro,none⟩) ((rs'.drop c).flatMap Ch.cells):=(fun Wx h=>.inl (by rw [List.drop_eq_nil_of_le (by omega)];rfl))
       have HN:Hid ((0)=(rs'.drop c).length):=(by show _=_;simp;omega)
       have HC:Hid ((0)≤(0)):=(by show _≤_;omega)
       cases fb
       ·have heq:bK es cs=(dn++cS (rs'.take c))++x :: t:=(by rw [HT.out];simp)
        have HEQ:Hid (bK es cs=(dn++cS (rs'.take c))++x :: t):=heq
        clear heq
        have FWh:Fr Y W Wh:=(Ff.grow hF5 Gd).grow fh (fun k hk=>.inr (by have h':k=W1.heap.size:=hk;omega))
        have GW5:aK W Y Y5:=Gd.trans Ff.size hG5
        obtain⟨fn,tmps,assign,body,hy,hRr⟩:=hY _ x _ #[.agg #[.string x.e.key,.string x.e.val,.int .i64 x.e.size,.int .i64 x.e.over]] Bl.none Y5 Wh HEQ.out hJh rfl (fun _ h=>h.elim) FWh GW5
        gi_wp2
        refine⟨rfl,(lM lk (cO hRr)).mono ?_⟩
        clear hy hRr
        rintro e Wi (⟨rfl,Y6,hJ6,hF6,hG6⟩|⟨rfl,Y6,hJ6,hF6,hG6⟩)
        ·have xi:=hF6.heap xh hn5
         have hn6:¬ Y6 br:=fun h=>(hG6 _ h).elim hn5 (fun h'=>by have h1:Wh.heap.size≤W1.heap.size:=h';have:=(Array.getElem?_eq_some_iff.1 xh).1;have h2:W1.heap.size<Wh.heap.size:=this;omega)
         gi_wp2
         refine⟨fun k=>Y6 k∨k=br,⟨Y6,(some ⟨rb,ro,none⟩),0,?_,fun k=>Iff.rfl,hn6,?_,?_,?_,?_⟩,?_,?_⟩
         ·rw [HS.out];simpa using hJ6
         ·rw [HS.out];refine xi.trans ?_;exact congrArg (fun n=>some (Obj.cells #[Value.slice _ n _] 93)) HN.out
         ·rw [HS.out,← HN.out];exact HC.out
         ·rw [HS.out];exact hrow'
         ·exact .inr ⟨_,_,rfl⟩
         ·exact Fgh.grow hF6 (fun k hk=>hgrow _ hG5 k (.inl hk))
         ·intro k hk
          rcases hk with hk|rfl
          ·rcases hG6 k hk with h|h
           ·exact hgrow _ hG5 k (.inl h)
           ·exact .inr (Nat.le_trans Fgh.size h)
          ·exact .inl ((hYi _).2 (.inr rfl))
        ·have xi:=hF6.heap xh hn5
         gi_wp2
         refine⟨fun k=>Y6 k∨k=br,⟨rfl,Y6,_,by rw [HEQ.out];exact⟨t,by simp⟩,by simp,hJ6,fun k h=>.inl h,?_⟩,Fgh.grow hF6 (fun k hk=>hgrow _ hG5 k (.inl hk)),?_⟩
         ·rintro k (hk|rfl)
          ·exact lJx _ _ _ hJ6 k hk
          ·exact(Array.getElem?_eq_some_iff.1 xi).1
         ·intro k hk
          rcases hk with hk|rfl
          ·rcases hG6 k hk with h|h
           ·exact hgrow _ hG5 k (.inl h)
           ·exact .inr (Nat.le_trans Fgh.size h)
          ·exact .inl ((hYi _).2 (.inr rfl))
       ·gi_wp2
        refine⟨fun _ h=>(by cases h),?_⟩
        gi_wp2
        refine⟨fun k=>Y5 k∨k=br,⟨Y5,(some ⟨rb,ro,none⟩),0,?_,fun k=>Iff.rfl,hn5,?_,?_,?_,?_⟩,Fgh,hgrow _ hG5⟩
        ·rw [HS.out];simpa using hJh
        ·rw [HS.out];refine xh.trans ?_;exact congrArg (fun n=>some (Obj.cells #[Value.slice _ n _] 93)) HN.out
        ·rw [HS.out,← HN.out];exact HC.out
        ·rw [HS.out];exact hrow'
        ·exact .inr ⟨_,_,rfl⟩
      ·have hci':¬ (i:Int)=(c:Int):=by omega
       obtain⟨Wh,hWh⟩:=nM (Wg.setCell ⟨W1.heap.size,0,none⟩ (.slice (some ⟨rb,ro+i * 3,none⟩) (rs'.length-i) (c-i)))
       have fh:Fr (Bl.one br) Wg Wh:=hWh▸(Fr.refl (Bl.one br) Wg).setCell (p:=⟨W1.heap.size,0,none⟩) (.inl rfl) _
       have xh:Wh.heap[br]?=some (.cells #[.slice (some ⟨rb,ro+i * 3,none⟩) (rs'.length-i) (c-i)] 93):=(by rw [← hWh];simpa using aI (show Wg.heap[W1.heap.size]?=_ from xg) 0 (.slice (some ⟨rb,ro+i * 3,none⟩) (rs'.length-i) (c-i)))
       have yg:=hF5.heap (show Wf.drew.heap[W.heap.size]?=_ from yF) hYw
       have yh:=fh.heap yg (fun h=>by have h':W.heap.size=W1.heap.size:=h;omega)
       have yh0:Wh.cell? ⟨W.heap.size,0,none⟩=some (.func (.yield l) #[] #[]):=(by simp [World.cell?,yh])
       have x3g:=hF5.heap (show Wf.drew.heap[Wd.heap.size]?=_ from x3F) hYd
       have x3h:=fh.heap x3g (fun h=>by have h':Wd.heap.size=W1.heap.size:=h;have h2:W1.heap.size<Wd.heap.size:=hbr;omega)
       obtain⟨n0,n1,n2,n3⟩:=gK x3h
       have hJh:=sJ _ _ _ _ hJ5 (fh.on (fun k hk=>⟨lJ _ _ _ hJ5 k hk,fun h=>by have h':k=br:=h;rw [h'] at hk;exact hn5 hk⟩))
       have Fgh:Fr Y2 We Wh:=(hfr2 _ hF5).trans (fh.mono (fun k hk=>.inl ((hYi k).2 (.inr hk))))
       have hrow':∀ Wx,aL Wx S ca (cs.flatMap Ch.cells)→aL Wx S (some ⟨rb,ro+i * 3,none⟩) ((rs'.drop i).flatMap Ch.cells):=(fun Wx h=>(hrow Wx h).cut (fun _=>rfl))
       have HN:Hid ((rs'.length-i)=(rs'.drop i).length):=(by show _=_;simp)
       have HC:Hid ((rs'.length-i)≤(c-i)):=(by show _≤_;omega)
       cases fb
       ·have heq:bK es cs=(dn++cS (rs'.take i))++x :: t:=(by rw [HT.out];simp)
        have HEQ:Hid (bK es cs=(dn++cS (rs'.take i))++x :: t):=heq
        clear heq
        have FWh:Fr Y W Wh:=(Ff.grow hF5 Gd).grow fh (fun k hk=>.inr (by have h':k=W1.heap.size:=hk;omega))
        have GW5:aK W Y Y5:=Gd.trans Ff.size hG5
        obtain⟨fn,tmps,assign,body,hy,hRr⟩:=hY _ x _ #[.agg #[.string x.e.key,.string x.e.val,.int .i64 x.e.size,.int .i64 x.e.over]] Bl.none Y5 Wh HEQ.out hJh rfl (fun _ h=>h.elim) FWh GW5
        gi_wp2
        refine⟨rfl,(lM lk (cO hRr)).mono ?_⟩
        clear hy hRr
        rintro e Wi (⟨rfl,Y6,hJ6,hF6,hG6⟩|⟨rfl,Y6,hJ6,hF6,hG6⟩)
        ·have xi:=hF6.heap xh hn5
         have hn6:¬ Y6 br:=fun h=>(hG6 _ h).elim hn5 (fun h'=>by have h1:Wh.heap.size≤W1.heap.size:=h';have:=(Array.getElem?_eq_some_iff.1 xh).1;have h2:W1.heap.size<Wh.heap.size:=this;omega)
         gi_wp2
         refine⟨fun k=>Y6 k∨k=br,⟨Y6,(some ⟨rb,ro+i * 3,none⟩),c-i,?_,fun k=>Iff.rfl,hn6,?_,?_,?_,?_⟩,?_,?_⟩
         ·rw [HS.out];simpa using hJ6
         ·rw [HS.out];refine xi.trans ?_;exact congrArg (fun n=>some (Obj.cells #[Value.slice _ n _] 93)) HN.out
         ·rw [HS.out,← HN.out];exact HC.out
         ·rw [HS.out];exact hrow'
         ·exact .inr ⟨_,_,rfl⟩
         ·exact Fgh.grow hF6 (fun k hk=>hgrow _ hG5 k (.inl hk))
         ·intro k hk
          rcases hk with hk|rfl
          ·rcases hG6 k hk with h|h
           ·exact hgrow _ hG5 k (.inl h)
           ·exact .inr (Nat.le_trans Fgh.size h)
          ·exact .inl ((hYi _).2 (.inr rfl))
        ·have xi:=hF6.heap xh hn5
         gi_wp2
         refine⟨fun k=>Y6 k∨k=br,⟨rfl,Y6,_,by rw [HEQ.out];exact⟨t,by simp⟩,by simp,hJ6,fun k h=>.inl h,?_⟩,Fgh.grow hF6 (fun k hk=>hgrow _ hG5 k (.inl hk)),?_⟩
         ·rintro k (hk|rfl)
          ·exact lJx _ _ _ hJ6 k hk
          ·exact(Array.getElem?_eq_some_iff.1 xi).1
         ·intro k hk
          rcases hk with hk|rfl
          ·rcases hG6 k hk with h|h
           ·exact hgrow _ hG5 k (.inl h)
           ·exact .inr (Nat.le_trans Fgh.size h)
          ·exact .inl ((hYi _).2 (.inr rfl))
       ·gi_wp2
        refine⟨fun _ h=>(by cases h),?_⟩
        gi_wp2
        refine⟨fun k=>Y5 k∨k=br,⟨Y5,(some ⟨rb,ro+i * 3,none⟩),c-i,?_,fun k=>Iff.rfl,hn5,?_,?_,?_,?_⟩,Fgh,hgrow _ hG5⟩
        ·rw [HS.out];simpa using hJh
        ·rw [HS.out];refine xh.trans ?_;exact congrArg (fun n=>some (Obj.cells #[Value.slice _ n _] 93)) HN.out
        ·rw [HS.out,← HN.out];exact HC.out
        ·rw [HS.out];exact hrow'
        ·exact .inr ⟨_,_,rfl⟩
    ·simp at hb
 ·rintro D Y2 Wg hD hYD ⟨Yj,a,c,hJg,hYi,hnb,xb,hlc,hrow,hsh⟩ hFg hGg hDW
  have xbg:Wg.heap[W1.heap.size]?=_:=xb
  have cg:Wg.cell? ⟨W1.heap.size,0,none⟩=some (.slice a (fK es cs).2.length c):=by simp [World.cell?,xbg]
  have yg:=hFg.heap y2 (fun h=>h.elim (fun h=>by have:=lY _ h;omega) (fun h=>by simp only [br] at h;omega))
  have yg0:Wg.cell? ⟨W.heap.size,0,none⟩=some (.func (.yield l) #[] #[]):=by simp [World.cell?,yg]
  have FW:Fr Y W Wg:=F2.grow hFg (fun k hk=>hk.elim .inl (fun h=>.inr (by subst h;show W.heap.size≤W1.heap.size;omega)))
  have GW:aK W Y Yj:=fun k hk=>by
   rcases hGg k ((hYi k).2 (.inl hk)) with(h|h)|h
   ·exact .inl h
   ·exact .inr (by subst h;show W.heap.size≤W1.heap.size;omega)
   ·exact .inr (by omega)
  have og:On Rd w Wg:=o2.trans (hFg.on (fun k hk=>⟨by have:=(hRd k hk).2;omega,fun h=>h.elim (hRd k hk).1 (hRb k hk)⟩))
  obtain⟨hrise,hrl⟩:=qBv hr es
  have hYjR:∀ k,Rd k→¬ Yj k:=fun k hk h=>(GW k h).elim (hRd k hk).1 (fun h'=>by have:=(hRd k hk).2;omega)
  have hTl:=qIj l (bK es cs) J Jx sJ lJ Y W hY a c (fK es cs).2 S (fK es cs).1 [] Yj Wg (by simp [bK]) (hrow Wg (hR.on (og.mono rs))) (fun b hb=>⟨hYjR b (rs b hb),by have:=(hRd b (rs b hb)).2;have:=FW.size;omega⟩) (by omega) hlc hJg FW GW
  have hDY:¬ Yj D:=fun h=>hYD ((hYi D).2 (.inl h))
  gi_wp2_with (refine⟨trivial,rfl,?_⟩;gi_at_call 149;refine hTl.mono ?_;clear hTl;rintro e Wh (⟨rfl,Y5,hJ5,hF5,hG5⟩|⟨rfl,Y5,pp,hp,hne,hJ5,hF5,hG5⟩))
  all_goals
   have hDh:=hF5.heap hDW hDY
   have hD5:¬ Y5 D:=fun h=>(hG5 _ h).elim hDY (fun h'=>by have:=(Array.getElem?_eq_some_iff.1 hDW).1;omega)
   have FF:Fr Y W (Wh.putObj D (.deferred none)):=(FW.grow hF5 GW).putObj (.inr (by omega)) _
   have GG:aK W Y Y5:=GW.trans FW.size hG5
   have oo:On Y5 Wh (Wh.putObj D (.deferred none)):=(On.refl _ _).putObj hD5 _
  ·gi_wp2
   exact kT rfl hDh ⟨⟨_,rfl⟩,Y5,FF,GG,.inl (sJ _ _ _ _ hJ5 oo)⟩
  ·gi_wp2
   exact kT rfl hDh ⟨⟨_,rfl⟩,Y5,FF,GG,.inr ⟨pp,hp,hne,sJx _ _ _ _ hJ5 oo⟩⟩
 ·rintro D c pre Y2 Wg hD hYD hpre hne ⟨rfl,Yj,pp,h1,h2,h3,h4,h5⟩ hFg hGg hDW
  gi_wp2
  refine kT rfl hDW ⟨⟨_,rfl⟩,Yj,?_,?_,.inr ⟨pp,h1,h2,sJx _ _ _ _ h3 ((On.refl _ _).putObj (fun h=>hYD (h4 _ h)) _)⟩⟩
  ·exact(F2.grow hFg (fun k hk=>hk.elim .inl (fun h=>.inr (by subst h;show W.heap.size≤W1.heap.size;omega)))).putObj (.inr (by omega)) _
  ·intro k hk
   rcases hGg k (h4 k hk) with(h|h)|h
   ·exact .inl h
   ·exact .inr (by subst h;show W.heap.size≤W1.heap.size;omega)
   ·exact .inr (by omega)
end Go.Proofs.YtfnhmpcpeahfkaaGreat.Tree
