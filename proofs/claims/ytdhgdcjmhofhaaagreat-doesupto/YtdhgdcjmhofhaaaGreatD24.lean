import Derived.Test.YtdhgdcjmhofhaaaGreatD23
set_option linter.all false
set_option maxRecDepth 100000
set_option maxHeartbeats 8000000
namespace Go.Proofs.YtdhgdcjmhofhaaaGreat.Tree
open Go.RowKit Go.Shelf Pages
variable {cs:List Ch} {w:World}
attribute [local go_sem] CM
def nH(a:List En×List Ch)(x:En):List En×List Ch :=
 (a.1++(dC (a.2.take (cZ a.2 x.e.key))++if fnd a.2 x.e.key=true then [] else [x]),a.2.drop (cZ a.2 x.e.key))
def fQ(es:List En)(cs:List Ch):List En×List Ch:=es.foldl nH ([],cs)
def bD(es:List En)(cs:List Ch):List En:=(fQ es cs).1++dC (fQ es cs).2
theorem Er(es x cs):fQ (es++[x]) cs=nH (fQ es cs) x:=by simp[fQ]
theorem rM:∀(es:List En) (a:List En×List Ch),∃t,(es.foldl nH a).1=a.1++t
 |[],a=>⟨[],by simp⟩
 |x :: es,a=>by
  have⟨t,b⟩:=rM es (nH a x);exact⟨_,by rw[LK,b,nH,BX]⟩
theorem Zk(a b cs):∃t,bD (a++b) cs=(fQ a cs).1++t:=by
 have⟨t,d⟩:=rM b (fQ a cs);refine⟨t++dC (fQ (a++b) cs).2,?_⟩;unfold bD;have c:fQ (a++b) cs=b.foldl nH (fQ a cs):=by simp[fQ]
 rw[<-BX,<-d,c]
theorem Es (e:cJ cs):∀(es:List En),cJ (fQ es cs).2/\(fQ es cs).2.length<=cs.length:=by
 intro es;have:∀(es:List En) (a:List En×List Ch),cJ a.2->cJ (es.foldl nH a).2/\(es.foldl nH a).2.length<=a.2.length:=by
  intro es;induction es with
  |nil=>simp
  |cons x es ih =>
   intro a b;have⟨c,d⟩:=ih (nH a x) (GL (EX _ _) b);refine⟨c,vJ d ?_⟩;simp[nH]
 exact this es ([],cs) e
theorem oD.on{b P g a}{Has:b->Array Value->Bl->World->Prop}{xs Rd w w'}(h:oD P g a Has xs Rd w)(f:On Rd w w'):oD P g a Has xs Rd w' :=
 λj c d e W i=>h j c d e W (f.trans i)
theorem aD.cut {S b e i a}(h:aD w S (some ⟨b,e,none⟩) (cs.flatMap Ch.cells))(k:i<cs.length->a=some ⟨b,e+i * 3,none⟩):aD w S a ((cs.drop i).flatMap Ch.cells):=by
 by_cases hi:i<cs.length
 ·rw[k hi]
  rcases h with h|⟨q,r,f,m,l⟩
  ·have:cs=[]:=by
    cases cs with
    |nil=>rfl
    |cons c cs=>simp[Ch.cells]at h
   grind
  ·simp only[AX,CA,DA]at f
   obtain⟨rfl,rfl⟩:=f;refine .inr ⟨b,e+i * 3,rfl,m,λo p n=>?_⟩;have g:(cs.flatMap Ch.cells)[i * 3+o]?=some p:=by
    have j:((cs.take i).flatMap Ch.cells).length=i * 3:=by
     have:∀(d:List Ch),(d.flatMap Ch.cells).length=d.length * 3:=by
      intro d;induction d with
      |nil=>rfl
      |cons c d ih=>rw[AJ,jK,ih,jB];simp[Ch.cells];omega
     rw[this,AZ,GB (by omega)]
    rw[<-CB i cs,BU,BJ (by omega),j];grind
   grind
 ·exact .inl (by rw[CR (by omega)];rfl)
theorem aD.head {S a i}(h:aD w S a (cs.flatMap Ch.cells)):aD w S a ((cs.take i).flatMap Ch.cells):=by
 rcases h with h|⟨b,k,e,g,f⟩
 ·left
  have:cs=[]:=by
   cases cs with
   |nil=>rfl
   |cons c cs=>simp[Ch.cells]at h
  grind
 ·refine .inr ⟨b,k,e,g,λj l d=>f j l ?_⟩
  rw[<-CB i cs,BU,BT (AD.1 d).1];exact d
theorem Hv(b6:Nat)(cm)(e5:∀args w,(callFunc b6 args).run Tryz.prog w=.ok (.enter b6 args) w)(es c3 b2 b3 Y ap cs S Rd w)(eh:oD Tryz.prog b6 cm qF es c3 w)(et:w.heap[b2]?=some (.cells #[.slice Y cs.length ap] 88))(eu:w.heap[b3]?=some (.cells #[.func (.func b6) #[] cm] 151))(bq:aD w S Y (cs.flatMap Ch.cells))(df:cJ cs)(fb:cs.length<=1000000)(ee:cs.length<=ap)(ed:(Y=none/\ap=0)\/∃b cn,Y=some ⟨b,cn,none⟩)(dr:Rd b2)(ds:Rd b3)(rs:∀k,S k->Rd k)(du:∀k,c3 k->Rd k):
  oD Tryz.prog 195 #[.p b2 0,.p b3 0] qF (bD es cs) Rd w:=by
 intro l J bn C W de z a9 aa co c0 b8 d0;refine CN Tryz.func195 rfl trivial ?_ rfl;simp only[Tryz.ntmps195,jA,jB,jN,Nat.reduceAdd,Nat.reduceSub,jR,jO,jP,jT,jE,jF];have bd:=aa [] C W d0;have fe:=(z b2 dr).2;have ff:=(z b3 ds).2;have⟨g,da⟩:=nM (W.alloc (.cells #[.func (.yield l) #[] #[]] 200));have cy:Fr Bl.none W g:=da▸(AF _ W).alloc _;have dy:g.heap[W.heap.size]?=some (.cells #[.func (.yield l) #[] #[]] 200):=da▸aA W _;have en:On Rd w g:=de.trans (cy.on (λk f=>⟨(z k f).2,λd=>d⟩));have ez:g.c b2 0=some (.slice Y cs.length ap):=by simp[World.cell?,en.heap et dr]
 have⟨a7,cb⟩:=nM (g.alloc (.cells #[.slice Y cs.length ap] 88));have c4:Fr Bl.none W a7:=cy.trans (cb▸(AF _ g).alloc _);have dw:a7.heap[g.heap.size]?=some (.cells #[.slice Y cs.length ap] 88):=cb▸aA g _;have be:On Rd w a7:=de.trans (c4.on (λk f=>⟨(z k f).2,λd=>d⟩));have f2:a7.c b3 0=some (.func (.func b6) #[] cm):=by simp[World.cell?,be.heap eu ds]
 have fj:W.heap.size<g.heap.size:=(gL dy);have fk:g.heap.size<a7.heap.size:=(gL dw);have dz:a7.heap[W.heap.size]?=some (.cells #[.func (.yield l) #[] #[]] 200):=cb▸aI _ dy;have e9:=a9 _ _ _ _ d0 (c4.on (λk f=>⟨bd k f,λd=>d⟩));have c2:Fr C W a7:=c4.mono (λ_ d=>d.elim);have ex:=bq.on (be.mono rs);gi_wp2;let br:=g.heap.size;let I:List En->Bl->World->Prop:=λK af ae=>∃(q:Bl) (a:Option Addr) (c:Nat),J (fQ K cs).1 q ae/\(∀k,af k↔q k\/k=br)/\¬q br/\ae.heap[br]?=some (.cells #[.slice a (fQ K cs).2.length c] 88)/\(fQ K cs).2.length<=c/\(∀v,aD v S Y (cs.flatMap Ch.cells)->aD v S a ((fQ K cs).2.flatMap Ch.cells))/\((a=none/\c=0)\/∃b cn,a=some ⟨b,cn,none⟩);let Ix:Code->List En->Bl->World->Prop:=λc K af ae=>c=.ret/\∃q a2,a2 <+: bD es cs/\a2≠[]/\bn a2 q ae/\(∀k,q k->af k)/\(∀k,af k->k<ae.heap.size);have c8:∀k,Rd k->k≠br:=λk f=>by grind
 refine fF (P:=Tryz.prog) (Has:=qF) (Rd:=c3) rfl e5 (eh.on (be.mono du)) (λh args S W c6=>by rw[show args=_ from c6];rfl) I Ix ?_ ?_ ?_ ?_ (λk=>C k\/k=br) ⟨C,Y,ap,by simpa[fQ] using e9,λk=>EP,λd=>by grind,by simpa[fQ] using dw,by simpa[fQ] using ee,λv d=>by simpa[fQ] using d,ed⟩ ?_ ?_ ?_ ?_
 ·intro K af A B ⟨q,a,c,a1,G,aq,a8,ar,d1,d2⟩ ba
  exact⟨q,a,c,a9 _ _ _ _ a1 (ba.mono (λk f=>(G k).2 (.inl f))),G,aq,ba.heap a8 ((G _).2 (.inr rfl)),ar,d1,d2⟩
 ·rintro c K af A B ⟨rfl,q,a2,a1,G,aq,a8,ar⟩ ba
  exact⟨rfl,q,a2,a1,G,co _ _ _ _ aq (ba.mono a8),a8,λk f=>jY (ar k f) ba.size⟩
 ·intro K af A ⟨q,a,c,a1,G,aq,a8,ar,d1,d2⟩ k f
  rcases(G k).1 f with d|rfl
  ·exact aa _ _ _ a1 k d
  grind
 ·rintro c K af A ⟨rfl,q,a2,a1,G,aq,a8,ar⟩
  exact ar
 ·grind
 ·intro az K h dt args ey ao Wd di ⟨q,a,c,c7,H,bw,bh,bv,ay,dh⟩ c6 f5 bp d5 f9 eg dc ⟨fg,fd⟩;have e8:args=#[.agg #[.string h.e.key,.string h.e.val,.i h.e.size,.i h.e.over]]:=c6;subst e8;have⟨ck,dg⟩:=Es df K;have⟨t,bb⟩:=Zk (K++[h]) dt cs;have db:es=(K++[h])++dt:=by rw[di];simp
  rw[<-db,Er]at bb;have bz:=Er K h cs;have⟨a0,cg⟩:=nM ((fQ K cs).1);have⟨o,cl⟩:=nM ((fQ K cs).2);simp only[nH,cg,cl]at bb bz;rw[cg]at c7;rw[cl]at bh bv ay ck dg;have⟨i,bu⟩:=nM (cZ o h.e.key);have ef:i<=o.length:=by rw[<-bu];exact tI _ _
  have⟨ag,ch⟩:=nM (fnd o h.e.key);rw[bu,ch]at bb bz;have bl:Hid (bD es cs=a0++(dC (o.take i)++((if ag=true then [] else [h])++t))):=by show _=_;rw[bb];simp
  have x:Hid (fQ (K++[h]) cs=(a0++(dC (o.take i)++if ag=true then [] else [h]),o.drop i)):=bz;have fn:a7.heap.size<=Wd.heap.size:=bp.size;have e1:Fr C W Wd:=c2.grow bp (λk f=>f.elim .inl (λd=>.inr (by omega)));have ab:aJ W C q:=λk f=>by
   rcases d5 k ((H k).2 (.inl f)) with(d|d)|d
   ·grind
   ·omega
   omega
  have ep:On Rd w Wd:=be.trans (bp.on (λk f=>⟨by grind,λd=>d.elim (z k f).1 (c8 k f)⟩));have ew:=bp.heap dz (λd=>d.elim (λd=>by grind) (λd=>by omega));have dj:=aa _ _ _ c7;have c9:=λv (d:aD v S Y (cs.flatMap Ch.cells)) (G:∀b,S b->b<v.heap.size)=>nI a c o h.e.key S v (ay v d) G ck (by omega) bv;rw[bu,ch]at c9;clear bb bz cg cl bu ch db di;unfold iN;gi_wp2;refine⟨(AF _ Wd).alloc _,?_⟩;intro T d8;have cp:=d8.heap (k:=Wd.heap.size) (aA Wd (.cells #[.string h.e.key,.string h.e.val,.i h.e.size,.i h.e.over] 69)) (DK eg);have⟨ej,ek,el,em⟩:=iM cp;have e3:Fr Bl.none Wd (Wd.alloc (.cells #[.string h.e.key,.string h.e.val,.i h.e.size,.i h.e.over] 69)):=(AF _ Wd).alloc _;have b4:Fr (Bl.one az) Wd T:=(e3.mono (λ_ d=>d.elim)).trans d8.fr;have fl:Wd.heap.size<T.heap.size:=(gL cp);have bs:br<Wd.heap.size:=(gL bh);have dx:=b4.heap bh (oN (by omega));have d6:=a9 _ _ _ _ c7 (b4.on (λk f=>⟨dj k f,λd=>by simp only[Bl.one]at d;grind⟩));have dp:On Rd w T:=ep.trans (b4.on (λk f=>⟨by grind,λd=>by simp only[Bl.one]at d;grind⟩));have e2:Fr C W T:=e1.grow b4 (λk f=>.inr (by simp only[Bl.one]at f;omega));have f0:T.c g.heap.size 0=some (.slice a o.length c):=by
   have:T.heap[g.heap.size]?=_:=dx;simp[World.cell?,this]
  have d7:=c9 T (bq.on (dp.mono rs)) (λb a5=>by grind);have fa:Tryz.prog.follows .mixedOrders=true:=by kernel_rfl
  gi_wp2_with (refine⟨trivial,rfl,?_⟩;gi_at_call 96;apply(DU az (BK.2 d7)).mono;clear d7 c9;rintro e y ⟨rfl,ec⟩;have b5:Fr Bl.none T y:=AA ec;have cr:=b5.heap dx (λd=>d);have c1:=b5.heap (b4.heap ew (oN (by omega))) (λd=>d);have cq:=b5.heap cp (λd=>d));have f1:y.c g.heap.size 0=some (.slice a o.length c):=by
   have:y.heap[g.heap.size]?=_:=cr;simp[World.cell?,this]
  have fh:y.c W.heap.size 0=some (.func (.yield l) #[] #[]):=by simp[World.cell?,c1]
  have fm:=b5.size;have ce:∀k,Rd k->¬q k:=λk f d=>(ab k d).elim (z k f).1 (λm=>by grind);have aw:Fr Bl.none T y.drew:=b5.drew;have eo:On Rd w y.drew:=dp.trans (aw.on (λk f=>⟨by grind,λd=>d⟩));have am:Fr C W y.drew:=e2.trans (aw.mono (λ_ d=>d.elim));have dd:(o.take i).length=i:=by rw[AZ];omega
  have ax:=Mf l (bD es cs) J bn a9 aa C W b8 a c (o.take i) S a0 ((if ag=true then [] else [h])++t) q y.drew bl.out ((ay _ (bq.on (eo.mono rs))).head) (λb a5=>⟨ce b (rs b a5),by have:=(z b (rs b a5)).2;have:=aw.size;omega⟩) (by omega) (by omega) (a9 _ _ _ _ d6 (aw.on (λk f=>⟨aa _ _ _ d6 k f,λd=>d⟩))) am ab;rw[dd]at ax;have d9:CallsIn Fence.wide 0 Tryz.prog 196 #[.slice a i c,.func (.yield l) #[] #[]] y.drew (λe ae=>∃b,e=.returned (.bool b)/\Hid (qIp J bn (bD es cs) a0 (dC (o.take i)) q y.drew (.returned (.bool b)) ae)):=by
   apply ax.mono;intro e ae ca;rcases id ca with⟨rfl,_⟩|⟨rfl,_⟩
   ·exact⟨true,rfl,ca⟩
   ·exact⟨false,rfl,ca⟩
  have f7:(i:Int)<=(c:Int):=by omega
  have f8:(i:Int)<=(o.length:Int):=by omega
  clear ax dd ej ek el em;gi_region_with_o (refine⟨trivial,rfl,?_⟩;gi_at_call 196;apply(DU az d9).mono;clear d9;rintro e u ⟨b,rfl,bm⟩)
  all_goals
   have O:∀r,aJ y.drew q r->aJ T ao (λk=>r k\/k=br):=λr s k f=>by
    rcases f with f|rfl
    ·rcases s k f with d|d
     ·exact .inl ((H k).2 (.inl d))
     ·exact .inr (vJ aw.size d)
    ·exact .inl ((H _).2 (.inr rfl))
   have bt:∀v,Fr q y.drew v->Fr ao T v:=λv d=>(aw.mono (λ_ d=>d.elim)).trans (d.mono (λk f=>.inl ((H k).2 (.inl f))));cases b
   ·rcases bm.out with⟨a5,_⟩|⟨_,r,a2,cj,bx,Z,F,s⟩
    ·simp at a5
    ·clear bm
     gi_wp2;refine⟨λk=>r k\/k=br,⟨rfl,r,a2,cj,bx,Z,λk d=>.inl d,?_⟩,bt _ F,O _ s⟩;rintro k (f|rfl)
     ·exact c0 _ _ _ Z k f
     ·exact(jJ.1 (F.heap (show y.drew.heap[br]?=_ from cr) bw)).1
   ·rcases bm.out with⟨_,r,Z,F,s⟩|⟨a5,_⟩
    ·clear bm
     have au:=F.heap (show y.drew.heap[br]?=_ from cr) bw;have e4:u.c g.heap.size 0=some (.slice a o.length c):=by
      have:u.heap[g.heap.size]?=_:=au;simp[World.cell?,this]
     have f3:∀k,u.frozen? ⟨g.heap.size,k,none⟩=false:=aB (show u.heap[g.heap.size]?=_ from au);have Q:¬r br:=λd=>(s _ d).elim bw (λm=>by have a1:y.heap.size<=g.heap.size:=m;have G:g.heap.size<Wd.heap.size:=bs;omega);have cf:¬q W.heap.size:=λd=>(d5 _ ((H _).2 (.inl d))).elim (λm=>m.elim (λm=>by have:=bd _ m;omega) (λm=>by have f4:W.heap.size=g.heap.size:=m;omega)) (λm=>by omega);have cd:¬q Wd.heap.size:=λd=>by have:=dj _ d;omega
     rcases dh with⟨rfl,rfl⟩|⟨a3,a4,rfl⟩
     ·obtain rfl:o=[]:=AG (by omega)
      obtain rfl:i=0:=by simpa using ef
      have⟨j,aj⟩:=nM (u.setCell ⟨g.heap.size,0,none⟩ (.slice none (0) (0)));have M:Fr (Bl.one br) u j:=aj▸(AF (Bl.one br) u).setCell (p:=⟨g.heap.size,0,none⟩) (.inl rfl) _;have X:j.heap[br]?=some (.cells #[.slice none (0) (0)] 88):=(by rw[<-aj];simpa using aC (show u.heap[g.heap.size]?=_ from au) 0 (.slice none (0) (0)));have av:=F.heap (show y.drew.heap[W.heap.size]?=_ from c1) cf;have e0:j.c W.heap.size 0=some (.func (.yield l) #[] #[]):=(by simp[World.cell?,M.heap av (λd=>by have m:W.heap.size=g.heap.size:=d;omega)]);have bg:=M.heap (F.heap (show y.drew.heap[Wd.heap.size]?=_ from cq) cd) (λd=>by have m:Wd.heap.size=g.heap.size:=d;have G:g.heap.size<Wd.heap.size:=bs;omega);have⟨dk,dl,dm,dn⟩:=iM bg;have ah:=a9 _ _ _ _ Z (M.on (λk f=>⟨aa _ _ _ Z k f,λd=>by have m:k=br:=d;rw[m]at f;exact Q f⟩));have L:Fr ao T j:=(bt _ F).trans (M.mono (λk f=>.inl ((H k).2 (.inr f))));have al:∀v,aD v S Y (cs.flatMap Ch.cells)->aD v S none ((([]:List Ch).drop 0).flatMap Ch.cells):=(λv _=>.inl rfl);have R:Hid ((0)=(([]:List Ch).drop 0).length):=(by show _=_;simp);have ac:Hid ((0)<=(0)):=(by show _<=_;omega);cases ag
      ·have ak:bD es cs=(a0++dC (([]:List Ch).take 0))++h :: t:=(by rw[bl.out];simp)
       have ad:Hid (bD es cs=(a0++dC (([]:List Ch).take 0))++h :: t):=ak;clear ak;have b0:Fr C W j:=(am.grow F ab).grow M (λk f=>.inr (by have m:k=g.heap.size:=f;omega));have b1:aJ W C r:=ab.trans am.size s;have⟨cz,dv,cw,cx,bc,ai⟩:=b8 _ h _ #[.agg #[.string h.e.key,.string h.e.val,.i h.e.size,.i h.e.over]] Bl.none r j ad.out ah rfl (λ_ d=>d.elim) b0 b1;gi_wp2;refine⟨rfl,(nL az (dM ai)).mono ?_⟩;clear bc ai;rintro e cv (⟨rfl,E,V,N,U⟩|⟨rfl,E,V,N,U⟩)
       ·have b9:¬E br:=λd=>(U _ d).elim Q (λm=>by have a1:j.heap.size<=g.heap.size:=m;have:=(gL X);have G:g.heap.size<j.heap.size:=this;omega);gi_wp2;refine⟨λk=>E k\/k=br,⟨E,none,0,?_,λk=>EP,b9,?_,?_,?_,?_⟩,?_,?_⟩
        ·rw[x.out];simpa using V
        ·rw[x.out];apply (N.heap X Q).trans;exact BZ (λn=>some (Obj.cells #[Value.slice _ n _] 88)) R.out
        ·rw[x.out,<-R.out];exact ac.out
        ·rw[x.out];exact al
        ·exact .inl ⟨rfl,rfl⟩
        ·exact L.grow N (λk f=>O _ s k (.inl f))
        ·intro k f
         rcases f with f|rfl
         ·rcases U k f with d|d
          ·exact O _ s k (.inl d)
          ·exact .inr (vJ L.size d)
         ·exact .inl ((H _).2 (.inr rfl))
       ·gi_wp2;refine⟨λk=>E k\/k=br,⟨rfl,E,_,by rw[ad.out];exact⟨t,by simp⟩,by simp,V,λk d=>.inl d,?_⟩,L.grow N (λk f=>O _ s k (.inl f)),?_⟩
        ·rintro k (f|rfl)
         ·exact c0 _ _ _ V k f
         ·exact(gL (N.heap X Q))
        ·intro k f
         rcases f with f|rfl
         ·rcases U k f with d|d
          ·exact O _ s k (.inl d)
          ·exact .inr (vJ L.size d)
         ·exact .inl ((H _).2 (.inr rfl))
      ·gi_wp2
       refine⟨λ_ d=>(by cases d),?_⟩;gi_wp2;refine⟨λk=>r k\/k=br,⟨r,none,0,?_,λk=>EP,Q,?_,?_,?_,?_⟩,L,O _ s⟩
       ·rw[x.out];simpa using ah
       ·rw[x.out];apply X.trans;exact BZ (λn=>some (Obj.cells #[Value.slice _ n _] 88)) R.out
       ·rw[x.out,<-R.out];exact ac.out
       ·rw[x.out];exact al
       ·exact .inl ⟨rfl,rfl⟩
     ·by_cases hci:c=i
      ·subst hci
       have⟨j,aj⟩:=nM (u.setCell ⟨g.heap.size,0,none⟩ (.slice (some ⟨a3,a4,none⟩) (0) (0)));have M:Fr (Bl.one br) u j:=aj▸(AF (Bl.one br) u).setCell (p:=⟨g.heap.size,0,none⟩) (.inl rfl) _;have X:j.heap[br]?=some (.cells #[.slice (some ⟨a3,a4,none⟩) (0) (0)] 88):=(by rw[<-aj];simpa using aC (show u.heap[g.heap.size]?=_ from au) 0 (.slice (some ⟨a3,a4,none⟩) (0) (0)));have av:=F.heap (show y.drew.heap[W.heap.size]?=_ from c1) cf;have e0:j.c W.heap.size 0=some (.func (.yield l) #[] #[]):=(by simp[World.cell?,M.heap av (λd=>by have m:W.heap.size=g.heap.size:=d;omega)]);have bg:=M.heap (F.heap (show y.drew.heap[Wd.heap.size]?=_ from cq) cd) (λd=>by have m:Wd.heap.size=g.heap.size:=d;have G:g.heap.size<Wd.heap.size:=bs;omega);have⟨dk,dl,dm,dn⟩:=iM bg;have ah:=a9 _ _ _ _ Z (M.on (λk f=>⟨aa _ _ _ Z k f,λd=>by have m:k=br:=d;rw[m]at f;exact Q f⟩));have L:Fr ao T j:=(bt _ F).trans (M.mono (λk f=>.inl ((H k).2 (.inr f))));have al:∀v,aD v S Y (cs.flatMap Ch.cells)->aD v S (some ⟨a3,a4,none⟩) ((o.drop c).flatMap Ch.cells):=(λv d=>.inl (by rw[CR (by omega)];rfl));have R:Hid ((0)=(o.drop c).length):=(by show _=_;simp;omega);have ac:Hid ((0)<=(0)):=(by show _<=_;omega);cases ag
       ·have ak:bD es cs=(a0++dC (o.take c))++h :: t:=(by rw[bl.out];simp)
        have ad:Hid (bD es cs=(a0++dC (o.take c))++h :: t):=ak;clear ak;have b0:Fr C W j:=(am.grow F ab).grow M (λk f=>.inr (by have m:k=g.heap.size:=f;omega));have b1:aJ W C r:=ab.trans am.size s;have⟨cz,dv,cw,cx,bc,ai⟩:=b8 _ h _ #[.agg #[.string h.e.key,.string h.e.val,.i h.e.size,.i h.e.over]] Bl.none r j ad.out ah rfl (λ_ d=>d.elim) b0 b1;gi_wp2;refine⟨rfl,(nL az (dM ai)).mono ?_⟩;clear bc ai;rintro e cv (⟨rfl,E,V,N,U⟩|⟨rfl,E,V,N,U⟩)
        ·have b9:¬E br:=λd=>(U _ d).elim Q (λm=>by have a1:j.heap.size<=g.heap.size:=m;have:=(gL X);have G:g.heap.size<j.heap.size:=this;omega);gi_wp2;refine⟨λk=>E k\/k=br,⟨E,(some ⟨a3,a4,none⟩),0,?_,λk=>EP,b9,?_,?_,?_,?_⟩,?_,?_⟩
         ·rw[x.out];simpa using V
         ·rw[x.out];apply (N.heap X Q).trans;exact BZ (λn=>some (Obj.cells #[Value.slice _ n _] 88)) R.out
         ·rw[x.out,<-R.out];exact ac.out
         ·rw[x.out];exact al
         ·exact .inr ⟨_,_,rfl⟩
         ·exact L.grow N (λk f=>O _ s k (.inl f))
         ·intro k f
          rcases f with f|rfl
          ·rcases U k f with d|d
           ·exact O _ s k (.inl d)
           ·exact .inr (vJ L.size d)
          ·exact .inl ((H _).2 (.inr rfl))
        ·gi_wp2;refine⟨λk=>E k\/k=br,⟨rfl,E,_,by rw[ad.out];exact⟨t,by simp⟩,by simp,V,λk d=>.inl d,?_⟩,L.grow N (λk f=>O _ s k (.inl f)),?_⟩
         ·rintro k (f|rfl)
          ·exact c0 _ _ _ V k f
          ·exact(gL (N.heap X Q))
         ·intro k f
          rcases f with f|rfl
          ·rcases U k f with d|d
           ·exact O _ s k (.inl d)
           ·exact .inr (vJ L.size d)
          ·exact .inl ((H _).2 (.inr rfl))
       ·gi_wp2
        refine⟨λ_ d=>(by cases d),?_⟩;gi_wp2;refine⟨λk=>r k\/k=br,⟨r,(some ⟨a3,a4,none⟩),0,?_,λk=>EP,Q,?_,?_,?_,?_⟩,L,O _ s⟩
        ·rw[x.out];simpa using ah
        ·rw[x.out];apply X.trans;exact BZ (λn=>some (Obj.cells #[Value.slice _ n _] 88)) R.out
        ·rw[x.out,<-R.out];exact ac.out
        ·rw[x.out];exact al
        ·exact .inr ⟨_,_,rfl⟩
      ·have f6:¬(i:Int)=(c:Int):=by omega
       have⟨j,aj⟩:=nM (u.setCell ⟨g.heap.size,0,none⟩ (.slice (some ⟨a3,a4+i * 3,none⟩) (o.length-i) (c-i)));have M:Fr (Bl.one br) u j:=aj▸(AF (Bl.one br) u).setCell (p:=⟨g.heap.size,0,none⟩) (.inl rfl) _;have X:j.heap[br]?=some (.cells #[.slice (some ⟨a3,a4+i * 3,none⟩) (o.length-i) (c-i)] 88):=(by rw[<-aj];simpa using aC (show u.heap[g.heap.size]?=_ from au) 0 (.slice (some ⟨a3,a4+i * 3,none⟩) (o.length-i) (c-i)));have av:=F.heap (show y.drew.heap[W.heap.size]?=_ from c1) cf;have e0:j.c W.heap.size 0=some (.func (.yield l) #[] #[]):=(by simp[World.cell?,M.heap av (λd=>by have m:W.heap.size=g.heap.size:=d;omega)]);have bg:=M.heap (F.heap (show y.drew.heap[Wd.heap.size]?=_ from cq) cd) (λd=>by have m:Wd.heap.size=g.heap.size:=d;have G:g.heap.size<Wd.heap.size:=bs;omega);have⟨dk,dl,dm,dn⟩:=iM bg;have ah:=a9 _ _ _ _ Z (M.on (λk f=>⟨aa _ _ _ Z k f,λd=>by have m:k=br:=d;rw[m]at f;exact Q f⟩));have L:Fr ao T j:=(bt _ F).trans (M.mono (λk f=>.inl ((H k).2 (.inr f))));have al:∀v,aD v S Y (cs.flatMap Ch.cells)->aD v S (some ⟨a3,a4+i * 3,none⟩) ((o.drop i).flatMap Ch.cells):=(λv d=>(ay v d).cut (λ_=>rfl));have R:Hid ((o.length-i)=(o.drop i).length):=(by show _=_;simp);have ac:Hid ((o.length-i)<=(c-i)):=(by show _<=_;omega);cases ag
       ·have ak:bD es cs=(a0++dC (o.take i))++h :: t:=(by rw[bl.out];simp)
        have ad:Hid (bD es cs=(a0++dC (o.take i))++h :: t):=ak;clear ak;have b0:Fr C W j:=(am.grow F ab).grow M (λk f=>.inr (by have m:k=g.heap.size:=f;omega));have b1:aJ W C r:=ab.trans am.size s;have⟨cz,dv,cw,cx,bc,ai⟩:=b8 _ h _ #[.agg #[.string h.e.key,.string h.e.val,.i h.e.size,.i h.e.over]] Bl.none r j ad.out ah rfl (λ_ d=>d.elim) b0 b1;gi_wp2;refine⟨rfl,(nL az (dM ai)).mono ?_⟩;clear bc ai;rintro e cv (⟨rfl,E,V,N,U⟩|⟨rfl,E,V,N,U⟩)
        ·have b9:¬E br:=λd=>(U _ d).elim Q (λm=>by have a1:j.heap.size<=g.heap.size:=m;have:=(gL X);have G:g.heap.size<j.heap.size:=this;omega);gi_wp2;refine⟨λk=>E k\/k=br,⟨E,(some ⟨a3,a4+i * 3,none⟩),c-i,?_,λk=>EP,b9,?_,?_,?_,?_⟩,?_,?_⟩
         ·rw[x.out];simpa using V
         ·rw[x.out];apply (N.heap X Q).trans;exact BZ (λn=>some (Obj.cells #[Value.slice _ n _] 88)) R.out
         ·rw[x.out,<-R.out];exact ac.out
         ·rw[x.out];exact al
         ·exact .inr ⟨_,_,rfl⟩
         ·exact L.grow N (λk f=>O _ s k (.inl f))
         ·intro k f
          rcases f with f|rfl
          ·rcases U k f with d|d
           ·exact O _ s k (.inl d)
           ·exact .inr (vJ L.size d)
          ·exact .inl ((H _).2 (.inr rfl))
        ·gi_wp2;refine⟨λk=>E k\/k=br,⟨rfl,E,_,by rw[ad.out];exact⟨t,by simp⟩,by simp,V,λk d=>.inl d,?_⟩,L.grow N (λk f=>O _ s k (.inl f)),?_⟩
         ·rintro k (f|rfl)
          ·exact c0 _ _ _ V k f
          ·exact(gL (N.heap X Q))
         ·intro k f
          rcases f with f|rfl
          ·rcases U k f with d|d
           ·exact O _ s k (.inl d)
           ·exact .inr (vJ L.size d)
          ·exact .inl ((H _).2 (.inr rfl))
       ·gi_wp2
        refine⟨λ_ d=>(by cases d),?_⟩;gi_wp2;refine⟨λk=>r k\/k=br,⟨r,(some ⟨a3,a4+i * 3,none⟩),c-i,?_,λk=>EP,Q,?_,?_,?_,?_⟩,L,O _ s⟩
        ·rw[x.out];simpa using ah
        ·rw[x.out];apply X.trans;exact BZ (λn=>some (Obj.cells #[Value.slice _ n _] 88)) R.out
        ·rw[x.out,<-R.out];exact ac.out
        ·rw[x.out];exact al
        ·exact .inr ⟨_,_,rfl⟩
    ·simp at a5
 ·intro D ao u e6 cc ⟨q,a,c,eb,H,bw,bh,bv,ay,dh⟩ b7 c5 bo
  have er:u.heap[g.heap.size]?=_:=bh;have e4:u.c g.heap.size 0=some (.slice a (fQ es cs).2.length c):=by simp[World.cell?,er]
  have av:=b7.heap dz (λd=>d.elim (λd=>by grind) (λd=>by omega));have fi:u.c W.heap.size 0=some (.func (.yield l) #[] #[]):=by simp[World.cell?,av]
  have bj:Fr C W u:=c2.grow b7 (λk f=>f.elim .inl (λd=>.inr (by omega)));have bk:aJ W C q:=λk f=>by
   rcases c5 k ((H k).2 (.inl f)) with(d|d)|d
   ·grind
   ·omega
   omega
  have eq:On Rd w u:=be.trans (b7.on (λk f=>⟨by grind,λd=>d.elim (z k f).1 (c8 k f)⟩));have⟨ck,dg⟩:=Es df es;have ce:∀k,Rd k->¬q k:=λk f d=>(bk k d).elim (z k f).1 (λm=>by grind);have ax:=Mf l (bD es cs) J bn a9 aa C W b8 a c (fQ es cs).2 S (fQ es cs).1 [] q u (by simp[bD]) (ay u (bq.on (eq.mono rs))) (λb a5=>⟨ce b (rs b a5),by grind⟩) (by omega) bv eb bj bk;have d3:¬q D:=λd=>cc ((H D).2 (.inl d));gi_wp2_with (refine⟨trivial,rfl,?_⟩;gi_at_call 196;apply ax.mono;clear ax;rintro e j (⟨rfl,r,Z,F,s⟩|⟨rfl,r,a2,cj,bx,Z,F,s⟩))
  all_goals
   have d4:=F.heap bo d3;have e7:¬r D:=λd=>(s _ d).elim d3 (λm=>by grind);have ct:Fr C W (j.putObj D (.deferred none)):=(bj.grow F bk).putObj (.inr (by omega)) _;have cu:aJ W C r:=bk.trans bj.size s;have dq:On r j (j.putObj D (.deferred none)):=(CJ _ _).putObj e7 _
  ·gi_wp2
   exact mO rfl d4 ⟨⟨_,rfl⟩,r,ct,cu,.inl (a9 _ _ _ _ Z dq)⟩
  ·gi_wp2
   exact mO rfl d4 ⟨⟨_,rfl⟩,r,ct,cu,.inr ⟨a2,cj,bx,co _ _ _ _ Z dq⟩⟩
 ·rintro D c K ao u e6 cc fc bx ⟨rfl,q,a2,a1,G,aq,a8,ar⟩ b7 c5 bo
  gi_wp2;refine mO rfl bo ⟨⟨_,rfl⟩,q,?_,?_,.inr ⟨a2,a1,G,co _ _ _ _ aq ((CJ _ _).putObj (λd=>cc (a8 _ d)) _)⟩⟩
  ·exact(c2.grow b7 (λk f=>f.elim .inl (λd=>.inr (by omega)))).putObj (.inr (by omega)) _
  ·intro k f
   rcases c5 k (a8 k f) with(d|d)|d
   ·grind
   ·omega
   omega
