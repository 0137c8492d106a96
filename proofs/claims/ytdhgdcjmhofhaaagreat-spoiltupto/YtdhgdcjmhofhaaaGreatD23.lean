import Derived.Test.YtdhgdcjmhofhaaaGreatD22
set_option linter.all false
set_option maxRecDepth 100000
set_option maxHeartbeats 8000000
namespace Go.Proofs.YtdhgdcjmhofhaaaGreat.Tree
open Go.RowKit Go.Shelf Pages Tryz
variable {cs:List Ch} {w:World}
attribute [local go_sem] CE
def oT(a:List En×List Ch)(x:En):List En×List Ch :=
 (a.1++(dX (a.2.take (dK a.2 x.e.key))++if fnd a.2 x.e.key=true then [] else [x]),a.2.drop (dK a.2 x.e.key))
def gA(es:List En)(cs:List Ch):List En×List Ch:=es.foldl oT ([],cs)
def bJ(es:List En)(cs:List Ch):List En:=(gA es cs).1++dX (gA es cs).2
theorem Ii(es x cs):gA (es++[x]) cs=oT (gA es cs) x:=by simp[gA]
theorem tK:∀(es:List En) (a:List En×List Ch),∃t,(es.foldl oT a).1=a.1++t
 |[],a=>⟨[],σ⟩
 |x :: es,a=>by
  have⟨t,b⟩:=tK es (oT a x);exact⟨_,by rw[JU,b,oT,CA]⟩
theorem qFc(a b cs):∃t,bJ (a++b) cs=(gA a cs).1++t:=by
 have⟨t,d⟩:=tK b (gA a cs);refine⟨t++dX (gA (a++b) cs).2,?_⟩;unfold bJ;have c:gA (a++b) cs=b.foldl oT (gA a cs):=by simp[gA]
 rw[<-CA,<-d,c]
theorem Ij (e:cJ cs):∀(es:List En),cJ (gA es cs).2/\(gA es cs).2.length<=cs:=by
 intro es;have:∀(es:List En) (a:List En×List Ch),cJ a.2->cJ (es.foldl oT a).2/\(es.foldl oT a).2.length<=a.2:=by
  intro es;induction es with
  |nil=>simp
  |cons x es ih =>
   intro a b;have⟨c,d⟩:=ih (oT a x) (JK (FT _ _) b);refine⟨c,vJ d ?_⟩;simp[oT]
 exact this es ([],cs) e
theorem nG.on{b P g a}{Has:b->Array Value->Bl->World->Prop}{xs Rd w w'}(h:nG P g a Has xs Rd w)(f:On Rd w w'):nG P g a Has xs Rd w' :=
 λj c d e W i=>h j c d e W (f.t i)
theorem aH.cut {S:Bl}{b e:Nat}{i:Nat}{a:Option Addr}(h:aH w S (some (aD b e)) (cs.flatMap Ch.cells))(k:i<cs->a=some (aD b (e+i * 3))):aH w S a ((cs.drop i).flatMap Ch.cells):=by
 by_cases hi:i<cs
 .rw[k hi];rcases h with h|⟨q,r,f,m,l⟩
  .have:cs=[]:=by
    cases cs with
    |nil=>rfl
    |cons c cs=>simp[Ch.cells]at h
   grind
  .simp only[BB,CD,DC]at f;obtain⟨rfl,rfl⟩:=f;refine .inr ⟨b,e+i * 3,rfl,m,λo p n=>?_⟩;have g:(cs.flatMap Ch.cells)[i * 3+o]?=some p:=by
    have j:((cs.take i).flatMap Ch.cells)=i * 3:=by
     have:∀(d:List Ch),(d.flatMap Ch.cells).length=d * 3:=by
      intro d;induction d with
      |nil=>rfl
      |cons c d ih=>rw[AK,jK,ih,jB];simp[Ch.cells];omega
     rw[this,AX,GI ω]
    rw[<-BU i cs,BS,AZ ω,j];grind
   grind
 .exact .inl (by rw[CW ω];rfl)
theorem aH.head {S a i}(h:aH w S a (cs.flatMap Ch.cells)):aH w S a ((cs.take i).flatMap Ch.cells):=by
 rcases h with h|⟨b,k,e,g,f⟩
 .left;have:cs=[]:=by
   cases cs with
   |nil=>rfl
   |cons c cs=>simp[Ch.cells]at h
  grind
 .refine .inr ⟨b,k,e,g,λj l d=>f j l ?_⟩;rw[<-BU i cs,BS,BK (AD.1 d).1];exact d
def OvC(S:Bl)(Y:Option Addr)(cs o:List Ch)(i:Nat)(va:Option Addr)(vn vc:Nat):Prop:=(∀v,aH v S Y (cs.flatMap Ch.cells)->aH v S va ((o.drop i).flatMap Ch.cells))/\vn=(o.drop i).length/\vn<=vc/\((va=none/\vc=0)\/∃b cn,va=some (aD b cn))
theorem ovc(S Y cs o i va vn vc)(u:World)(b:Nat)(h:OvC S Y cs o i va vn vc):∃j x y z,u.setCell (aD b 0) (.s va vn vc)=j/\Hid (Value.s va vn vc=.s x y z)/\OvC S Y cs o i x y z:=⟨_,_,_,_,rfl,rfl,h⟩
theorem Lq(b6:Nat)(cm)(e5:∀args w,(callFunc b6 args).run prog w=.ok (.enter b6 args) w)(es c3 b2 b3 Y ap cs S Rd w)(eh:nG prog b6 cm qF es c3 w)(et:cW w b2 #[.s Y cs.length ap] 88)(eu:cW w b3 #[.func (.func b6) #[] cm] 151)(bq:aH w S Y (cs.flatMap Ch.cells))(df:cJ cs)(fb:cs.length<=1000000)(ee:cs.length<=ap)(ed:(Y=none/\ap=0)\/∃b cn,Y=some (aD b cn))(dr:Rd b2)(ds:Rd b3)(rs:∀k,S k->Rd k)(du:∀k,c3 k->Rd k):
  nG prog 195 #[.p b2 0,.p b3 0] qF (bJ es cs) Rd w:=by
 intro l J bn C W de z a9 aa co c0 b8 d0;refine CH func195 rfl trivial ?_ rfl;simp only[ntmps195,jA,jB,jN,Nat.reduceAdd,Nat.reduceSub,jR,jO,jP,jT,jE,jF];have bd:=aa [] C W d0;have⟨g,da⟩:=nM (W.alloc (.cells #[.func (.yield l) #[] #[]] 200));have cy:Fr Bl.none W g:=da▸(AE _ W).alloc _;have dy:cW g W #[.func (.yield l) #[] #[]] 200:=da▸aB W _;have en:On Rd w g:=de.t (cy.on (λk f=>⟨(z k f).2,λd=>d⟩));have ez:g.c b2 0=some (.s Y cs ap):=by simp[World.cell?,en.heap et dr]
 have⟨a7,cb⟩:=nM (g.alloc (.cells #[.s Y cs ap] 88));have c4:Fr Bl.none W a7:=cy.t (cb▸(AE _ g).alloc _);have dw:cW a7 g #[.s Y cs ap] 88:=cb▸aB g _;have be:On Rd w a7:=de.t (c4.on (λk f=>⟨(z k f).2,λd=>d⟩));have f2:a7.c b3 0=some (.func (.func b6) #[] cm):=by simp[World.cell?,be.heap eu ds]
 have fj:W.1.size<g.1.size:=(gL dy);have fk:g.1.size<a7.1.size:=(gL dw);have dz:cW a7 W #[.func (.yield l) #[] #[]] 200:=cb▸aP _ dy;have e9:=a9 _ _ _ _ d0 (c4.on (λk f=>⟨bd k f,λd=>d⟩));have c2:Fr C W a7:=c4.m (λ_ d=>d.elim);gi_wp2;let br:=g.1.size;let I:List En->Bl->World->Prop:=λK af ae=>∃(q:Bl) (a:Option Addr) (c:Nat),J (gA K cs).1 q ae/\(∀k,af k↔q k\/k=br)/\¬q br/\cW ae br #[.s a (gA K cs).2 c] 88/\(gA K cs).2.length<=c/\(∀v,aH v S Y (cs.flatMap Ch.cells)->aH v S a ((gA K cs).2.flatMap Ch.cells))/\((a=none/\c=0)\/∃b cn,a=some (aD b cn));let Ix:Code->List En->Bl->World->Prop:=λc K af ae=>c=.ret/\∃q R,R <+: bJ es cs/\R≠[]/\bn R q ae/\(∀k,q k->af k)/\(lW af ae);have c8:∀k,Rd k->k≠br:=λk f=>by grind
 refine gF (P:=prog) (Has:=qF) (Rd:=c3) rfl e5 (eh.on (be.m du)) (λh args S W c6=>by rw[show args=_ from c6];rfl) I Ix ?_ ?_ ?_ ?_ (λk=>C k\/k=br) ⟨C,Y,ap,by simpa[gA] using e9,λk=>GF,λd=>by grind,by simpa[gA] using dw,by simpa[gA] using ee,λv d=>by simpa[gA] using d,ed⟩ ?_ ?_ ?_ ?_
 .intro K af A B ⟨q,a,c,a1,G,aq,a8,ar,d1,d2⟩ ba
  exact⟨q,a,c,a9 _ _ _ _ a1 (ba.m (λk f=>(G k).2 (.inl f))),G,aq,ba.heap a8 ((G _).2 (.inr rfl)),ar,d1,d2⟩
 .rintro c K af A B ⟨rfl,q,R,a1,G,aq,a8,ar⟩ ba
  exact⟨rfl,q,R,a1,G,co _ _ _ _ aq (ba.m a8),a8,λk f=>jY (ar k f) ba.size⟩
 .intro K af A ⟨q,a,c,a1,G,aq,a8,ar,d1,d2⟩ k f
  rcases(G k).1 f with d|rfl
  .exact aa _ _ _ a1 k d
  grind
 .rintro c K af A ⟨rfl,q,R,a1,G,aq,a8,ar⟩
  exact ar
 .grind
 .intro az K h dt args ey ao Wd di ⟨q,a,c,c7,H,bw,bh,bv,ay,dh⟩ c6 f5 bp d5 f9 eg dc ⟨fg,fd⟩;have e8:args=#[.agg #[.t h.e.key,.t h.e.val,.i h.e.size,.i h.e.over]]:=c6;subst e8;have⟨ck,dg⟩:=Ij df K;have⟨t,bb⟩:=qFc (K++[h]) dt cs;have db:es=(K++[h])++dt:=by rw[di];simp
  rw[<-db,Ii]at bb;have bz:=Ii K h cs;have⟨a0,cg⟩:=nM ((gA K cs).1);have⟨o,cl⟩:=nM ((gA K cs).2);simp only[oT,cg,cl]at bb bz;rw[cg]at c7;rw[cl]at bh bv ay ck dg;have⟨i,bu⟩:=nM (dK o h.e.key);have ef:i<=o.length:=by rw[<-bu];exact vP _ _
  have⟨ag,ch⟩:=nM (fnd o h.e.key);rw[bu,ch]at bb bz;have bl:Hid (bJ es cs=a0++(dX (o.take i)++((if ag=true then [] else [h])++t))):=by show _=_;rw[bb];simp
  have x:Hid (gA (K++[h]) cs=(a0++(dX (o.take i)++if ag=true then [] else [h]),o.drop i)):=bz;have e1:Fr C W Wd:=c2.grow bp (λk f=>f.elim .inl (λd=>.inr ω));have ab:aI W C q:=λk f=>by
   rcases d5 k ((H k).2 (.inl f)) with(d|d)|d
   .grind
   .omega
   omega
  have ep:On Rd w Wd:=be.t (bp.on (λk f=>⟨by grind,λd=>d.elim (z k f).1 (c8 k f)⟩));have ew:=bp.heap dz (λd=>d.elim (λd=>by grind) (λd=>ω));have dj:=aa _ _ _ c7;have c9:=λv (d:aH v S Y (cs.flatMap Ch.cells)) (G:lW S v)=>mG a c o h.e.key S v (ay v d) G ck ω bv;rw[bu,ch]at c9;clear bb bz cg cl bu ch db di;unfold iM;gi_wp2;refine⟨(AE _ Wd).alloc _,?_⟩;intro T d8;have cp:=d8.heap (k:=Wd) (aB Wd (.cells #[.t h.e.key,.t h.e.val,.i h.e.size,.i h.e.over] 69)) (DT eg);have⟨ej,ek,el,em⟩:=kI cp;have e3:Fr Bl.none Wd (Wd.alloc (.cells #[.t h.e.key,.t h.e.val,.i h.e.size,.i h.e.over] 69)):=(AE _ Wd).alloc _;have b4:Fr (Bl.one az) Wd T:=(e3.m (λ_ d=>d.elim)).t d8.fr;have fl:Wd.1.size<T:=(gL cp);have bs:br<Wd:=(gL bh);have dx:=b4.heap bh (oN (by omega));have d6:=a9 _ _ _ _ c7 (b4.on (λk f=>⟨dj k f,λd=>by simp only[Bl.one]at d;grind⟩));have dp:On Rd w T:=ep.t (b4.on (λk f=>⟨by grind,λd=>by simp only[Bl.one]at d;grind⟩));have e2:Fr C W T:=e1.grow b4 (λk f=>.inr (by simp only[Bl.one]at f;omega));have f0:T.c g.1.size 0=some (.s a o c):=by
   have:T.1[g.1.size]?=_:=dx;simp[World.cell?,this]
  have d7:=c9 T (bq.on (dp.m rs)) (λb a5=>by grind);have fa:prog.follows .mixedOrders=true:=κ
  gi_wp2_with (refine⟨trivial,rfl,?_⟩;gi_at_call 96;apply(EN az (BG.2 d7)).m;clear d7 c9;rintro e y ⟨rfl,ec⟩;have b5:Fr Bl.none T y:=AB ec;have cr:=b5.heap dx (λd=>d);have c1:=b5.heap (b4.heap ew (oN (by omega))) (λd=>d);have cq:=b5.heap cp (λd=>d));have f1:y.c g.1.size 0=some (.s a o c):=by
   have:y.1[g.1.size]?=_:=cr;simp[World.cell?,this]
  have fh:y.c W.1.size 0=some (.func (.yield l) #[] #[]):=by simp[World.cell?,c1]
  have fm:=b5.size;have ce:∀k,Rd k->¬q k:=λk f d=>(ab k d).elim (z k f).1 (λm=>by grind);have aw:Fr Bl.none T y.drew:=b5.drew;have eo:On Rd w y.drew:=dp.t (aw.on (λk f=>⟨by grind,λd=>d⟩));have am:Fr C W y.drew:=e2.t (aw.m (λ_ d=>d.elim));have dd:(o.take i).length=i:=by rw[AX];omega
  have ax:=Qt l (bJ es cs) J bn a9 aa C W b8 a c (o.take i) S a0 ((if ag=true then [] else [h])++t) q y.drew bl.o ((ay _ (bq.on (eo.m rs))).head) (λb a5=>⟨ce b (rs b a5),by have:=(z b (rs b a5)).2;have:=aw.size;omega⟩) ω ω (a9 _ _ _ _ d6 (aw.on (λk f=>⟨aa _ _ _ d6 k f,λd=>d⟩))) am ab;rw[dd]at ax;have d9:CallsIn Fence.wide 0 prog 196 #[.s a i c,.func (.yield l) #[] #[]] y.drew (λe ae=>∃b,e=.r (.bool b)/\Hid (qPs J bn (bJ es cs) a0 (dX (o.take i)) q y.drew (.r (.bool b)) ae)):=by
   apply ax.m;intro e ae ca;rcases id ca with⟨rfl,_⟩|⟨rfl,_⟩
   .exact⟨true,rfl,ca⟩
   .exact⟨false,rfl,ca⟩
  have f7:(i:Int)<=(c:Int):=ω
  have f8:(i:Int)<=(o.length:Int):=ω
  clear ax dd ej ek el em;gi_region_with_o (refine⟨trivial,rfl,?_⟩;gi_at_call 196;apply(EN az d9).m;clear d9;rintro e u ⟨b,rfl,bm⟩)
  all_goals
   have O:∀r,aI y.drew q r->aI T ao (λk=>r k\/k=br):=λr s k f=>by
    rcases f with f|rfl
    .rcases s k f with d|d
     .exact .inl ((H k).2 (.inl d))
     .exact .inr (vJ aw.size d)
    .exact .inl ((H _).2 (.inr rfl))
   have bt:∀v,Fr q y.drew v->Fr ao T v:=λv d=>(aw.m (λ_ d=>d.elim)).t (d.m (λk f=>.inl ((H k).2 (.inl f))));cases b
   .rcases bm.o with⟨a5,_⟩|⟨_,r,R,cj,bx,Z,F,s⟩
    .simp at a5
    .clear bm
     gi_wp2;refine⟨λk=>r k\/k=br,⟨rfl,r,R,cj,bx,Z,λk d=>.inl d,?_⟩,bt _ F,O _ s⟩;rintro k (f|rfl)
     .exact c0 _ _ _ Z k f
     .exact(jJ.1 (F.heap (show y.drew.1[br]?=_ from cr) bw)).1
   .rcases bm.o with⟨_,r,Z,F,s⟩|⟨a5,_⟩
    .clear bm
     have au:=F.heap (show y.drew.1[br]?=_ from cr) bw;have e4:u.c g.1.size 0=some (.s a o c):=by
      have:u.1[g.1.size]?=_:=au;simp[World.cell?,this]
     have f3:∀k,u.frozen? (aD g k)=false:=aF (show u.1[g.1.size]?=_ from au);have Q:¬r br:=λd=>(s _ d).elim bw (λm=>by have a1:y.1.size<=g.1.size:=m;have G:g.1.size<Wd:=bs;omega);have cf:¬q W:=λd=>(d5 _ ((H _).2 (.inl d))).elim (λm=>m.elim (λm=>by have:=bd _ m;omega) (λm=>ω)) (λm=>ω);have cd:¬q Wd:=λd=>by have:=dj _ d;omega
     have ad:Hid (ag=false->bJ es cs=(a0++dX (o.take i))++h :: t):=λe=>by rw[bl.o,e];simp
     rcases dh with⟨rfl,rfl⟩|⟨a3,a4,rfl⟩
     focus
      obtain rfl:o=[]:=AH ω
      obtain rfl:i=0:=by simpa using ef
      have⟨j,va,vn,vc,aj,hv,hq⟩:=ovc S Y cs [] 0 none 0 0 u g ⟨λv _=>.inl rfl,rfl,jU _,.inl ⟨rfl,rfl⟩⟩
     rotate_left
     by_cases hci:c=i
     focus
      subst hci;have⟨j,va,vn,vc,aj,hv,hq⟩:=ovc S Y cs o c (some (aD a3 a4)) 0 0 u g.1.size ⟨λv d=>.inl (by rw[CW ω];rfl),by simp;omega,jU _,.inr ⟨_,_,rfl⟩⟩
     rotate_left
     focus
      have⟨j,va,vn,vc,aj,hv,hq⟩:=ovc S Y cs o i (some (aD a3 (a4+i * 3))) (o-i) (c-i) u g.1.size ⟨λv d=>(ay v d).cut (λ_=>rfl),σ,ω,.inr ⟨_,_,rfl⟩⟩
     all_goals
      have M:Fr (Bl.one br) u j:=aj▸(AE (Bl.one br) u).s g.1.size 0;have X:cW j br #[.s va vn vc] 88:=(by show _=_;rw[<-hv.o,<-aj];simpa using aC (show u.1[g.1.size]?=_ from au) 0 _);have av:=F.heap (show y.drew.1[W.1.size]?=_ from c1) cf;have e0:j.c W.1.size 0=some (.func (.yield l) #[] #[]):=(by simp[World.cell?,M.heap av (λd=>by have m:W.1.size=g.1.size:=d;omega)]);have bg:=M.heap (F.heap (show y.drew.1[Wd.1.size]?=_ from cq) cd) (λd=>by have m:Wd.1.size=g.1.size:=d;have G:g.1.size<Wd:=bs;omega);have⟨dk,dl,dm,dn⟩:=kI bg;have ah:=a9 _ _ _ _ Z (M.on (λk f=>⟨aa _ _ _ Z k f,λd=>by have m:k=br:=d;rw[m]at f;exact Q f⟩));have L:Fr ao T j:=(bt _ F).t (M.m (λk f=>.inl ((H k).2 (.inr f))));cases ag
      .replace ad:=ad.o rfl;have b0:Fr C W j:=(am.grow F ab).grow M (λk f=>.inr (by have m:k=g.1.size:=f;omega));have b1:aI W C r:=ab.t am.size s;have⟨cz,dv,cw,cx,bc,ai⟩:=b8 _ h _ #[.agg #[.t h.e.key,.t h.e.val,.i h.e.size,.i h.e.over]] Bl.none r j ad ah rfl (λ_ d=>d.elim) b0 b1;gi_wp2;refine⟨rfl,(xC az (fK ai)).m ?_⟩;clear bc ai;rintro e cv (⟨rfl,E,V,N,U⟩|⟨rfl,E,V,N,U⟩)
       .have b9:¬E br:=λd=>(U _ d).elim Q (λm=>by have a1:j.1.size<=g.1.size:=m;have:=(gL X);have G:g.1.size<j:=this;omega);gi_wp2;refine⟨λk=>E k\/k=br,⟨E,va,vc,?_,λk=>GF,b9,?_,?_,?_,?_⟩,?_,?_⟩
        .rw[x.o];simpa using V
        .rw[x.o];apply (N.heap X Q).t;exact BR (λn=>some (Obj.cells #[Value.s _ n _] 88)) hq.2.1
        .rw[x.o,<-hq.2.1];exact hq.2.2.1
        .rw[x.o];exact hq.1
        .exact hq.2.2.2
        .exact L.grow N (λk f=>O _ s k (.inl f))
        .intro k f
         rcases f with f|rfl
         .rcases U k f with d|d
          .exact O _ s k (.inl d)
          .exact .inr (vJ L.size d)
         .exact .inl ((H _).2 (.inr rfl))
       .gi_wp2;refine⟨λk=>E k\/k=br,⟨rfl,E,_,by rw[ad];exact⟨t,σ⟩,σ,V,λk d=>.inl d,?_⟩,L.grow N (λk f=>O _ s k (.inl f)),?_⟩
        .rintro k (f|rfl)
         .exact c0 _ _ _ V k f
         .exact(gL (N.heap X Q))
        .intro k f
         rcases f with f|rfl
         .rcases U k f with d|d
          .exact O _ s k (.inl d)
          .exact .inr (vJ L.size d)
         .exact .inl ((H _).2 (.inr rfl))
      .gi_wp2
       refine⟨λ_ d=>(by cases d),?_⟩;gi_wp2;refine⟨λk=>r k\/k=br,⟨r,va,vc,?_,λk=>GF,Q,?_,?_,?_,?_⟩,L,O _ s⟩
       .rw[x.o];simpa using ah
       .rw[x.o];apply X.t;exact BR (λn=>some (Obj.cells #[Value.s _ n _] 88)) hq.2.1
       .rw[x.o,<-hq.2.1];exact hq.2.2.1
       .rw[x.o];exact hq.1
       .exact hq.2.2.2
    .simp at a5
 .intro D ao u e6 cc ⟨q,a,c,eb,H,bw,bh,bv,ay,dh⟩ b7 c5 bo
  have er:u.1[g.1.size]?=_:=bh;have e4:u.c g.1.size 0=some (.s a (gA es cs).2 c):=by simp[World.cell?,er]
  have av:=b7.heap dz (λd=>d.elim (λd=>by grind) (λd=>ω));have fi:u.c W.1.size 0=some (.func (.yield l) #[] #[]):=by simp[World.cell?,av]
  have bj:Fr C W u:=c2.grow b7 (λk f=>f.elim .inl (λd=>.inr ω));have bk:aI W C q:=λk f=>by
   rcases c5 k ((H k).2 (.inl f)) with(d|d)|d
   .grind
   .omega
   omega
  have eq:On Rd w u:=be.t (b7.on (λk f=>⟨by grind,λd=>d.elim (z k f).1 (c8 k f)⟩));have⟨ck,dg⟩:=Ij df es;have ce:∀k,Rd k->¬q k:=λk f d=>(bk k d).elim (z k f).1 (λm=>by grind);have ax:=Qt l (bJ es cs) J bn a9 aa C W b8 a c (gA es cs).2 S (gA es cs).1 [] q u (by simp[bJ]) (ay u (bq.on (eq.m rs))) (λb a5=>⟨ce b (rs b a5),by grind⟩) ω bv eb bj bk;have d3:¬q D:=λd=>cc ((H D).2 (.inl d));gi_wp2_with (refine⟨trivial,rfl,?_⟩;gi_at_call 196;apply ax.m;clear ax;rintro e j (⟨rfl,r,Z,F,s⟩|⟨rfl,r,R,cj,bx,Z,F,s⟩))
  all_goals
   have d4:=F.heap bo d3;have e7:¬r D:=λd=>(s _ d).elim d3 (λm=>by grind);have ct:Fr C W (j.putObj D (.deferred none)):=(bj.grow F bk).putObj (.inr ω) _;have cu:aI W C r:=bk.t bj.size s;have dq:On r j (j.putObj D (.deferred none)):=(CM _ _).putObj e7 _
  .gi_wp2
   exact nS rfl d4 ⟨⟨_,rfl⟩,r,ct,cu,.inl (a9 _ _ _ _ Z dq)⟩
  .gi_wp2
   exact nS rfl d4 ⟨⟨_,rfl⟩,r,ct,cu,.inr ⟨R,cj,bx,co _ _ _ _ Z dq⟩⟩
 .rintro D c K ao u e6 cc fc bx ⟨rfl,q,R,a1,G,aq,a8,ar⟩ b7 c5 bo
  gi_wp2;refine nS rfl bo ⟨⟨_,rfl⟩,q,?_,?_,.inr ⟨R,a1,G,co _ _ _ _ aq ((CM _ _).putObj (λd=>cc (a8 _ d)) _)⟩⟩
  .exact(c2.grow b7 (λk f=>f.elim .inl (λd=>.inr ω))).putObj (.inr ω) _
  .intro k f
   rcases c5 k (a8 k f) with(d|d)|d
   .grind
   .omega
   omega
