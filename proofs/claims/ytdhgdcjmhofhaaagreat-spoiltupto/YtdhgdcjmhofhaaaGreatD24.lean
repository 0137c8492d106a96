import Derived.Test.YtdhgdcjmhofhaaaGreatD23
set_option linter.all false
set_option maxRecDepth 100000
set_option maxHeartbeats 8000000
namespace Go.Proofs.YtdhgdcjmhofhaaaGreat.Tree
open Go.RowKit Pages Tryz
variable {cs:List Ch} {fs:Fs}
def ovr:List En->List Ch->List En
 |[],cs=>dX cs
 |x :: es,cs=>dX (cs.take (dK cs x.e.key))++((if fnd cs x.e.key=true then [] else [x])++ovr es (cs.drop (dK cs x.e.key)))
theorem Mr:∀(es:List En) (a:List En×List Ch),(es.foldl oT a).1++dX (es.foldl oT a).2=a.1++ovr es a.2
 |[],a=>rfl
 |x :: es,a=>by
  rw[JU,Mr es (oT a x)];simp[oT,ovr,CA]
theorem oF(es cs):bJ es cs=ovr es cs:=by
 have:=Mr es ([],cs);simpa[bJ,gA] using this
def cT(es:List En):Prop:=es.Pairwise (λa b=>lt a.e.key b.e.key=true)
theorem Hg {d}:d∈dX cs↔∃c∈cs,c.gone=false/\d=chE c:=by
 unfold dX;grind
theorem Ej {k c}(h:c∈cs.take (dK cs k)):lt c.key k=true:=by
 obtain⟨a,d,rfl⟩:=AW h;rw[AX]at d;rw[MH];have⟨_,b⟩:=vO (cs:=cs) (k:=k) (i:=a) ω;exact b
theorem qOw (b:cJ cs){k c}(h:c∈cs.drop (dK cs k)):lt c.key k=false:=by
 obtain⟨d,a,rfl⟩:=AW h;rw[BJ]at a;rw[JD];exact sD b ω ω
theorem Ev (m:cJ cs)(k):fnd cs k=true↔∃c∈cs,c.key=k:=by
 unfold fnd;cases h:cs[dK cs k]? with
 |none =>
  simp only[FI,false_iff];rintro⟨c,a,rfl⟩;rw[NH]at h;obtain⟨j,f,rfl⟩:=AW a;have⟨_,b⟩:=vO (cs:=cs) (k:=cs[j].key) (i:=j) ω;rw[cP]at b;cases b
 |some c =>
  have⟨f,a⟩:=AD.1 h;have l:lt c.key k=false:=by rw[<-a];exact sD m (jU _) f
  simp only[MJ];constructor
  .intro p
   exact⟨c,a▸AA f,lQ l p⟩
  .rintro⟨d,n,rfl⟩;obtain⟨g,o,rfl⟩:=AW n;rcases JE g (dK cs cs[g].key) with e|e|e
   .have⟨_,b⟩:=vO e;rw[cP]at b;cases b
   .grind
   .have i:=BC.1 m _ g f o e;grind
theorem Bj (n){c:Ch}:c∈cs↔c∈cs.take n\/c∈cs.drop n:=by
 conv=>lhs;rw[<-BU n cs]
 grind
theorem vX:∀(es:List En) (cs:List Ch),cT es->cJ cs->∀d,d∈ovr es cs↔(∃c∈cs,c.gone=false/\d=chE c)\/(d∈es/\∀c∈cs,c.key≠d.e.key)
 |[],cs,_,_,d=>by simp only[ovr,Hg,FG,false_and,KO]
 |x :: es,cs,he,hr,d=>by
  have n:cJ (cs.drop (dK cs x.e.key)):=JK (FT _ _) hr;have⟨o,m⟩:=BD.1 he;simp only[ovr,AN,Hg,vX es _ m n d];have k:=Ev hr x.e.key;constructor
  .rintro(⟨c,a,g,rfl⟩|b|⟨c,a,g,rfl⟩|⟨b,h⟩)
   .grind
   .grind
   .grind
   .refine .inr ⟨LQ _ b,λc a f=>?_⟩;rcases(Bj (dK cs x.e.key)).1 a with e|e
    .have j:=fG (Ej e) (o d b);rw[f,cP]at j;cases j
    grind
  .rintro(⟨c,a,g,rfl⟩|⟨b,h⟩)
   .rcases(Bj (dK cs x.e.key)).1 a with e|e
    .grind
    grind
   grind
theorem Lh (a:cJ cs):cT (dX cs):=by
 unfold dX cT;rw[EV];exact ES _ a
theorem tX:∀(es:List En) (cs:List Ch),cT es->cJ cs->cT (ovr es cs)
 |[],cs,_,hr=>Lh hr
 |x :: es,cs,he,hr=>by
  have l:cJ (cs.drop (dK cs x.e.key)):=JK (FT _ _) hr;have⟨o,k⟩:=BD.1 he;have m:∀e∈ovr es (cs.drop (dK cs x.e.key)),lt e.e.key x.e.key=false/\(fnd cs x.e.key=false->lt x.e.key e.e.key=true):=by
   intro e g;rcases(vX es _ k l e).1 g with⟨c,h,_,rfl⟩|⟨g,_⟩
   .have j:=qOw hr h;refine⟨j,λi=>?_⟩;cases h2:lt x.e.key c.key with
    |true=>exact h2
    |false =>
     have:=(Ev hr x.e.key).2 ⟨c,BV h,lQ j h2⟩;grind
   .exact⟨Hh (o e g),λ_=>o e g⟩
  have n:∀e∈dX (cs.take (dK cs x.e.key)),lt e.e.key x.e.key=true:=by
   intro e g;obtain⟨c,h,_,rfl⟩:=Hg.1 g;exact Ej h
  simp only[ovr];refine CO.2 ⟨Lh (JK (GN _ _) hr),CO.2 ⟨by split<;>simp,tX es _ k l,ζ⟩,?_⟩
  .intro a f b d;rcases AN.1 d with d|d
   .grind
   .exact cD (n a f) (Gx.1 (m b d).1)
theorem oY{o:Type}:∀(s:Sp) (ks:List ByteArray) (c:List o),c.length=ks+1->ks.Pairwise (λa b=>lt a b=true)->(∀k∈ks,lt s.lo k=true/\Sp.below s.hi k=true)->(parts s ks c).Pairwise (λx d=>x.2.hi≠⟨#[]⟩/\le x.2.hi d.2.lo=true)
 |s,_,[],hl,_,_=>by simp at hl
 |s,[],k :: c,hl,_,_=>by
  have:=AH (by simpa using hl);subst this;simp[parts]
 |s,q :: ks,k :: c,hl,hp,hb=>by
  have⟨m,h⟩:=BD.1 hp;have⟨e,p⟩:=hb q σ;have g:c.length=ks+1:=ζ
  have f:∀x∈ks,lt q x=true/\Sp.below s.hi x=true:=λx i=>⟨m x i,(hb x (by simp[i])).2⟩;simp only[parts];refine BD.2 ⟨λd n=>⟨λj=>?_,(uE ⟨q,s.hi⟩ ks c g h f d n).1⟩,oY ⟨q,s.hi⟩ ks c g h f⟩;have l:q=⟨#[]⟩:=j;rw[l,Yv]at e;cases e
theorem eC:∀{h:Nat}{t:T}{s:Sp},aZ fs h t s->cT (T.ents h t)
 |0,.leaf p es,s,ht=>by
  have⟨g,u,k,r,_⟩:=ht;have:=(Ub u k).1;rw[r,EV]at this;exact this
 |0,.branch _ _ _,s,ht=>by simp[T.ents,cT]
 |h+1,.leaf _ _,s,ht=>by simp[aZ]at ht
 |h+1,.branch p ks kids,s,ht=>by
  have⟨d,l,i,_,q⟩:=dR ht;have y:∀(e:List (T×Sp)),(∀c∈e,aZ fs h c.1 c.2)->e.Pairwise (λc f=>c.2.hi≠⟨#[]⟩/\le c.2.hi f.2.lo=true)->cT ((e.map (·.1)).flatMap (T.ents h)):=by
   intro e d l;induction e with
   |nil=>exact .nil
   |cons c e ih =>
    have⟨x,v⟩:=BD.1 l;rw[BE,AK];refine CO.2 ⟨eC (d c σ),ih (λf j=>d f (by simp[j])) v,?_⟩;intro a o b i;have⟨C,k,i⟩:=AV.1 i;obtain⟨f,j,rfl⟩:=AY.1 k;have⟨A,B⟩:=x f j;have m:=iA (d c σ) a o;have n:=iA (d f (by simp[j])) b i;unfold Sp.has at m n;rw[AM]at m n;have z:lt a.e.key c.2.hi=true:=by
     rcases gK.1 m.2 with h|h
     .grind
     .exact h
    exact cD (cD z B) n.1
  have:=y _ q (oY s ks kids d l i);rw[kD]at this;simpa only[T.ents] using this
def aT:Option (Nat×T)->List En
 |none=>[]
 |some (h,t)=>T.ents h t
theorem xL {root o}(a:bO fs root o)(q):dB q o=(aT o).filter (λx=>q.has x.e.key):=by
 cases o with
 |none=>rfl
 |some x=>exact Rv q a.2.2
theorem eP {root o}(a:bO fs root o):cT (aT o):=by
 cases o with
 |none=>exact .nil
 |some x=>exact eC a.2.2
open Go.Shelf
attribute [local go_sem] CE
theorem qOm{b P g a}{Has:b->Array Value->Bl->World->Prop}{xs Rd w w'}(h:nG P g a Has xs Rd w)(f:On Rd w w'):nG P g a Has xs Rd w' :=
 λj c d e W i=>h j c d e W (f.t i)
def aU(es:List En):List Value:=(es.map (·.e)).flatMap Ent.cells
theorem Uz(es x):aU (es++[x])=aU es++x.e.cells:=by simp[aU]
theorem Qn(bs ea ec es S Rd w)(xs:cW w bs #[.s ea es.length ec] 67)(hR:aH w S ea (aU es))(hn:es.length<=1000000)(hc:es<=ec)(r1:Rd bs)(rs:∀k,S k->Rd k):
  nG prog 214 #[.p bs 0] qF es Rd w:=by
 intro l J Jx Y W A B sJ lJ a2 Z hY h0;refine KX func214 rfl trivial ?_ rfl;simp only[ntmps214,jA,jB,jN,Nat.reduceAdd,Nat.reduceSub,jR,jO,jP,jT,jE,jF];have c0:W.c bs 0=some (.s ea es ec):=by simp[World.cell?,A.heap xs r1]
 have Q:=hR.on (A.m rs);gi_wp2;gi_loopw [7] (λi wr=>∃(j:Nat) (z:Bl),j<=es/\i=.i j/\J (es.take j) z wr/\Fr Y W wr/\aI W Y z) (λi _=>es-(intOf i).toNat)
 case atStart=>exact⟨0,Y,AG _,rfl,by simpa using h0,AE _ _,CS _ _⟩
 case round =>
  obtain⟨j,z,hj,rfl,o,q,n⟩:=hrel;by_cases hlt:j<es
  .have C:j<(es.map (·.e)):=by simpa using hlt
   have⟨rb,ro,N,a1,k0,k1,k2,k3⟩:=(Q.on (q.on (λk I=>⟨(B k (rs k I)).2,(B k (rs k I)).1⟩))).ent C;subst N;have⟨X,G⟩:=nM (es[j]);simp only[EF,G]at k0 k1 k2 k3;obtain⟨Wa,L,-,xa,-⟩:=al1 wr (.cells #[.t X.e.key,.t X.e.val,.i X.e.size,.i X.e.over] 69);have⟨g0,g1,g2,g3⟩:=kI xa;have O:Fr Bl.none wr Wa:=L▸(AE _ wr).alloc _;have y:es=es.take j++X :: es.drop (j+1):=by rw[<-G];exact yL (jQ hlt)
   have D:es.take (j+1)=es.take j++[X]:=by rw[<-G];exact AJ hlt
   have E:Hid (es.take (j+1)=es.take j++[X]):=D;have F:=q.t (O.m (λ_ h=>h.elim));have⟨fn,T,K,R,hy,M⟩:=hY _ X _ #[.agg #[.t X.e.key,.t X.e.val,.i X.e.size,.i X.e.over]] Bl.none z Wa y (sJ _ _ _ _ o (O.on (λk I=>⟨(lJ _ _ _ o) k I,λh=>h⟩))) rfl (λ_ h=>h.elim) F n;clear y D G hR Q;gi_wp2;refine⟨rfl,(fK M).m ?_⟩;rintro e V (⟨rfl,H,v,r,u⟩|⟨rfl,H,v,r,u⟩)
   .have HN:Hid (J (es.take (j+1)) H V):=by rw[E.o];exact v
    gi_wp2;go_roundw
    case rel=>exact⟨j+1,H,ω,ν,HN,F.grow r n,n.t F.size u⟩
    case measure=>simp[intOf];omega
   .gi_wp2
    apply BH (EU rfl _ _ _) rfl;exact⟨⟨_,rfl⟩,H,F.grow r n,n.t F.size u,.inr ⟨_,by rw[<-E.o];exact List.take_prefix _ _,σ,v⟩⟩
  .obtain rfl:j=es:=ω;have U:Hid (J es z wr):=by rw[BN]at o;exact o
   gi_wp2;go_end0;exact⟨⟨_,rfl⟩,z,q,n,.inl U⟩
theorem Hv:(prog.info? 69).map (λi=>(i.zero,i.size,i.bytes))=some (some (.agg #[.e,.e,.i 0,.i 0]),4,48):=qCo
theorem Kk(gf:Nat)(lb)(eg:∀args w,(callFunc gf args).run prog w=.ok (.enter gf args) w)(xs Re w)(hseq:nG prog gf lb qF xs Re w)(hRe:lW Re w)(hn:xs.length<=1000000):
  cL 204 #[.n,.func (.func gf) #[] lb] w λe w'=>∃v,e=.r v/\w'.ownsRow 0 69 4 v xs (aU xs)/\bW w w'/\nW v w:=by
 refine(BG (n:=0)).1 (CH func204 rfl trivial ?_ rfl);simp only[ntmps204,jA,jB,jN,Nat.reduceAdd,Nat.reduceSub,jR,jO,jP,jT,jE,jF];obtain⟨W1,U,-,N,-⟩:=al1 w (.cells #[.n] 67);have f1:Fr Bl.none w W1:=U▸(AE _ w).alloc _;have z1:w.1.size<W1:=(gL N);gi_wp2;let b:=w.1.size;let I:List En->Bl->World->Prop:=λo Y W=>∃v,W.1[b]?=some (.cells #[v] 67)/\W.ownsRow 0 69 4 v o (aU o)/\(∀k,Y k↔k=b\/v.ownBlock=some k)/\(∀k,v.ownBlock=some k->w<=k);refine gF (P:=prog) (Has:=qF) (Rd:=Re) rfl eg (qOm hseq (f1.on (λk t=>⟨hRe k t,λh=>h⟩))) (λx args S W M=>by rw[show args=_ from M];rfl) I (λ_ _ _ _=>False) ?_ (λ_ _ _ _ _ h=>h.elim) ?_ (λ_ _ _ _ h=>h.elim) (Bl.one b) ⟨.n,N,by simpa[aU] using AO _ _ _ _,λk=>by simp[Bl.one,Value.ownBlock],ι⟩ ?_ ?_ ?_ (λ_ _ _ _ _ _ _ _ _ h=>h.elim)
 .intro o Y A B ⟨v,z,y,u,F⟩ ho;exact⟨v,ho.heap z ((u _).2 (.inl rfl)),aS y ho (λk t=>(u k).2 (.inr t)),u,F⟩
 .intro o Y A ⟨v,z,y,u,F⟩ k t;rcases(u k).1 t with rfl|h
  .exact(gL z)
  .exact aL y h
 .intro k t
  exact⟨λh=>by simp only[Bl.one,b]at h;have:=hRe k t;omega,by have:=hRe k t;omega⟩
 .intro l o x a0 args S Y' W hx ⟨v,z,y,u,F⟩ M hS C O a2 V H ⟨r,hr⟩;have L:args=#[.agg #[.t x.e.key,.t x.e.val,.i x.e.size,.i x.e.over]]:=M;subst L;have a4:o.length<1000000:=by have:=BR List.length hx;simp at this;omega
  clear hx;unfold iM;gi_wp2;refine⟨(AE _ W).alloc _,?_⟩;intro W₂ hT;have⟨m0,m1,m2,m3⟩:=kI (hT.heap (k:=W) (aB W (.cells #[.t x.e.key,.t x.e.val,.i x.e.size,.i x.e.over] 69)) (DT V));have aW:Fr Bl.none W (W.alloc (.cells #[.t x.e.key,.t x.e.val,.i x.e.size,.i x.e.over] 69)):=(AE _ W).alloc _;have X:=(aW.m (λ_ h=>h.elim)).t hT.fr;have K:=X.heap z (λh=>by exact H ((u _).2 (.inl h.symm)));have R:=aS y (X.on (Z:=λk=>v.ownBlock=some k) (λk t=>⟨aL y t,λh=>by cases h;exact H ((u _).2 (.inr t))⟩)) (λk t=>t);have c2:W₂.c w 0=some v:=by
   have:W₂.1[w.1.size]?=_:=K;simp[World.cell?,this]
  obtain⟨a,c,rfl⟩:=aG R;have zb:=(gL K);gi_wp2_with (gi_at_builtin;apply Kq W₂ rfl (.tmp 8) (.tmp 10) 67 69 _ 4 48 rfl underlying67 Hv rfl δ (.s a o c) o (aU o) rfl R [.t x.e.key,.t x.e.val,.i x.e.size,.i x.e.over] rfl rfl υ ω ω;intro v3 W₃ E;obtain⟨Q,k3,rfl⟩:=E.shape δ;have J:=E.fr.heap K (aQ R K δ);have c3:W₃.c w 0=some (.s a o c):=(by have:W₃.1[w.1.size]?=_:=J;simp[World.cell?,this]);have a1:=aF (show W₃.1[w.1.size]?=_ from J));have b4:=aC (show W₃.1[w.1.size]?=_ from J) 0 (.q Q (o+1) k3);refine⟨λk=>k=b\/Q=k,⟨.q Q (o+1) k3,by simpa using b4,?_,λk=>ι,?_⟩,?_,?_⟩
  .rw[jK,AP,Uz];exact aS E.row ((CM (λk=>Value.ownBlock _=some k) W₃).setCell (p:=(aD w 0)) (λt=>aQ E.row (show W₃.1[w.1.size]?=_ from J) δ t) _) (λk t=>t)
  .intro k t;rcases E.lies k t with h|h
   .exact F k h
   .have:w.1.size<W₂:=zb;omega
  .have FA:=E.fr.m (λk t=>.inl ((u k).2 (.inr t)));exact FA.s w 0 (.inl ((u _).2 (.inl rfl)))
  .rintro k (rfl|t)
   .exact .inl ((u _).2 (.inl rfl))
   .rcases E.lies k (by simp[Value.ownBlock,t]) with h|h
    .exact .inl ((u k).2 (.inr h))
    .exact .inr h
 .intro D Y' W hD a3 ⟨v,z,y,u,F⟩ C O T;have c1:W.c w 0=some v:=by
   have:W.1[w.1.size]?=_:=z;simp[World.cell?,this]
  obtain⟨a,c,rfl⟩:=aG y;have hm:=(GC w W1).cons (λD' _ h=>C.heap h (λe=>by simp only[Bl.one,b]at e;subst e;rw[N]at h;simp at h)) ω T hD;gi_wp2;apply Uv rfl hm;intro w' G;exact⟨_,rfl,uG y G,((f1.m (λ_ h=>h.elim)).t C |>.took G (jU _)).below (jU _) (λk t=>by simp only[Bl.one,b]at t;omega),F⟩
theorem Dv(a:Nat)(c)(d:∀args w,(callFunc a args).run prog w=.ok (.enter a args) w)(xs b w)(m:nG prog a c qF xs b w)(j:lW b w)(l:xs.length<=1000000):
  cL 190 #[.func (.func a) #[] c] w λe w'=>∃v,e=.r v/\w'.ownsRow 0 69 4 v xs (aU xs)/\bW w w'/\nW v w:=by
 go_enter func190,ntmps190;go_wp2_with (apply (Kk a c d xs b w m j l).m;rintro e n ⟨v,rfl,f,g,h⟩);go_ret;exact⟨_,rfl,f,g,h⟩
variable {S:Bl} {a:Option Addr} {b c d:Type} {fs:Fs} {j p z:Nat} {w:World}
def tot{α:Type}(sz:α->Nat)(l:List α):Nat:=(l.map sz).sum
theorem Nt (a:b->Nat):tot a []=0:=rfl
theorem cQ (a x)(l:List b):tot a (x :: l)=a x+tot a l:=by simp[tot]
theorem sA (a)(l m:List b):tot a (l++m)=tot a l+tot a m:=by simp[tot]
theorem mF (a)(l:List b)(j)(h:j<l.length):tot a (l.take (j+1))=tot a (l.take j)+a l[j]:=by
 rw[AJ h,sA];simp[tot]
theorem Aq (a:b->Nat)(l j):tot a l=tot a (l.take j)+tot a (l.drop j):=by
 rw[<-sA,BU]
theorem qJ (a)(l:List b)(m:Nat)(h:∀x∈l,a x<=m):tot a l<=l * m:=by
 induction l with
 |nil=>simp[tot]
 |cons x l ih =>
  rw[cQ,jB,MF];grind
def shN{α:Type}(sz:α->Nat)(all:Nat):List α->Nat->Nat
 |[],_=>0
 |x :: l,f=>if 2 * f+sz x<=all/\f+sz x<=250 then shN sz all l (f+sz x)+1 else 0
theorem wZ (a b):∀(l:List c) (f:Nat),shN a b l f<=l
 |[],_=>by simp[shN]
 |x :: l,f=>by
  simp only[shN];have:=wZ a b l (f+a x);split<;>simp<;>omega
theorem Fw (a b):∀(l:List d) (f j:Nat),j<=shN a b l f->(c:j<l)->(j<shN a b l f↔(2 * (f+tot a (l.take j))+a l[j]<=b/\f+tot a (l.take j)+a l[j]<=250))
 |[],_,_,_,c=>by simp at c
 |x :: l,f,0,_,_=>by
  simp only[shN,List.take_zero,Nt,EC,CX];split<;>simp_all
 |x :: l,f,j+1,h,c=>by
  simp only[shN]at h⊢;split at h
  .rename_i hc;rw[AU hc,EJ,cQ,DL,<-GL];have:=Fw a b l (f+a x) j ω ζ;omega
  .omega
theorem Ek (a b):∀(l:List c) (f:Nat),f<=250->f+tot a (l.take (shN a b l f))<=250
 |[],f,h=>by simpa[shN,tot] using h
 |x :: l,f,h=>by
  simp only[shN];split
  .rename_i hc;rw[EJ,cQ,<-GL];exact Ek a b l _ hc.2
  .simpa[tot] using h
theorem qL (a)(b:Nat)(l:List d)(e:250<tot a l):shN a b l 0<l:=by
 rcases BT (shN a b l 0) l with c|c
 .exact c
 .have:=Ek a b l 0 ω;rw[CN c]at this;omega
theorem sE (a)(l:List b)(c:250<tot a l)(d:∀x∈l,a x<=250):0<shN a (tot a l) l 0:=by
 cases l with
 |nil=>simp[tot]at c
 |cons x l =>
  simp only[shN];grind
def lX{α:Type}(sz:α->Nat):Nat->List α->List (List α)
 |0,_=>[]
 |k+1,l=>if tot sz l<=250 then (if l.length=0 then [] else [l]) else l.take (shN sz (tot sz l) l 0):: lX sz k (l.drop (shN sz (tot sz l) l 0))
theorem Nf (a):∀(k:Nat) (l:List b),(∀x∈l,a x<=250)->l<k->(lX a k l).flatten=l
 |0,l,_,h=>by omega
 |k+1,l,hs,h=>by
  simp only[lX];split
  .grind
  .rename_i hb;have e:=sE a l ω hs;have d:=wZ a (tot a l) l 0;rw[FU,Nf a k _ (λx c=>hs x (BV c)) ζ,BU]
theorem qCy (b):∀(k:Nat) (l:List d),(∀x∈l,b x<=250)->∀p∈lX b k l,p≠[]
 |0,l,_,p,a=>by simp[lX]at a
 |k+1,l,hs,p,a=>by
  simp only[lX]at a;split at a
  .grind
  .rename_i hb;have g:=sE b l ω hs;have f:=wZ b (tot b l) l 0;rcases AS.1 a with rfl|a
   .intro c;have:=BR List.length c;grind
   .exact qCy b k _ (λx e=>hs x (BV e)) p a
theorem Vk (b):∀(k:Nat) (l:List c),∀p∈lX b k l,tot b p<=250
 |0,l,p,a=>by simp[lX]at a
 |k+1,l,p,a=>by
  simp only[lX]at a;split at a
  .grind
  .rcases AS.1 a with rfl|a
   .have:=Ek b (tot b l) l 0 ω;omega
   .exact Vk b k _ p a
theorem Nc (a):∀(k b:Nat) (l:List c),(∀x∈l,a x<=250)->l<k->l<b->lX a k l=lX a b l
 |0,_,l,_,h,_=>by omega
 |_,0,l,_,_,h=>by omega
 |k+1,b+1,l,hs,h,h'=>by
  simp only[lX];split
  .rfl
  .rename_i hb;have f:=sE a l ω hs;have e:=wZ a (tot a l) l 0;rw[Nc a k b _ (λx d=>hs x (BV d)) ζ ζ]
def fA{α:Type}(sz:α->Nat)(l:List α):List (List α):=lX sz (l.length+1) l
theorem Bw (a)(l:List c)(b:∀x∈l,a x<=250)(e:250<tot a l):fA a l=l.take (shN a (tot a l) l 0):: fA a (l.drop (shN a (tot a l) l 0)):=by
 have g:=sE a l ω b;have f:=wZ a (tot a l) l 0;show lX a (l+1) l=_;simp only[lX];rw[AQ ω];congr 1;exact Nc a _ _ _ (λx d=>b x (BV d)) ζ ω
theorem kF (a)(l:List b)(c:tot a l<=250):fA a l=if l.length=0 then [] else [l]:=by
 show lX a (l+1) l=_;simp only[lX];rw[AU c]
theorem mO (a:b->Nat)(l:List b)(c:∀x∈l,a x<=250):(fA a l).flatten=l:=Nf a _ l c ω
theorem Ad (a:b->Nat)(l:List b)(c:∀x∈l,a x<=250):∀p∈fA a l,p≠[]:=qCy a _ l c
theorem Vi (a:b->Nat)(l:List b):∀p∈fA a l,tot a p<=250:=Vk a _ l
def esz(x:En):Nat:=if 60<x.e.size then x.e.key.size+6 else x.e.key.size+x.e.val.size+3
theorem wS(x w)(i:x.e.key.size<=1000000)(j:x.e.val.size<=1000000):
  cL 203 #[.agg #[.t x.e.key,.t x.e.val,.i x.e.size,.i x.e.over]] w λe w'=>e=.r (.i (esz x))/\bW w w':=by
 obtain⟨a,h,g,-⟩:=al1 w (.cells #[.t x.e.key,.t x.e.val,.i x.e.size,.i x.e.over] 69);have⟨k,l,m,n⟩:=kI (h▸aB w _:cW a w #[.t x.e.key,.t x.e.val,.i x.e.size,.i x.e.over] 69);have c:60<x.e.size->esz x=x.e.key+6:=λf=>AU f;have d:¬60<x.e.size->esz x=x.e.key+x.e.val+3:=λf=>AQ f;go_enter func203,ntmps203;by_cases hs:60<x.e.size
 .have b:Hid (esz x=x.e.key+6):=c hs;clear c d;go_wp2;go_ret;exact⟨by rw[b.o];first|rfl|(congr 2;go_num),g⟩
 .have b:Hid (esz x=x.e.key+x.e.val+3):=d hs;clear c d;go_wp2;go_ret;exact⟨by rw[b.o];first|rfl|(congr 2;go_num),g⟩
def En.fits(x:En):Prop:=x.e.key.size<=24/\x.e.val.size<=400
theorem rR{x}(h:x.fits):esz x<=427:=by unfold esz;have:=h.1;have:=h.2;split<;>omega
theorem Ft(ea ec es S w)(hR:aH w S ea (aU es))(hS:lW S w)(hn:es.length<=1000000)(hc:es.length<=ec)(hf:∀x∈es,x.fits):
  cL 212 #[.s ea es ec,.func (.func 203) #[] #[]] w λe w'=>e=.r (.i (tot esz es))/\bW w w':=by
 go_enter func212,ntmps212;go_wp2;go_loopw [5,10] (λa b wr=>∃j:Nat,a=.i (tot esz (es.take j))/\b=.i j/\j<=es/\bW w wr) (λ_ b _=>es-(intOf b).toNat)
 case atStart=>exact⟨0,by simp[tot],rfl,AG _,AC _ _⟩
 case round =>
  obtain⟨j,rfl,rfl,Y,p⟩:=hrel;by_cases hlt:j<es
  .have k:j<(es.map (·.e)).length:=by simpa using hlt
   have⟨Z,T,A,H,M,N,I,L⟩:=(hR.on (vV p hS)).ent k;subst A;have⟨X,v⟩:=nM (es[j]);simp only[EF,v]at M N I L;have g:=v▸hf _ (AA hlt);obtain⟨Wa,q,-,G,-⟩:=al1 wr (.cells #[.t X.e.key,.t X.e.val,.i X.e.size,.i X.e.over] 69);have⟨V,R,U,O⟩:=kI G;have C:=q▸p.alloc p.size _;have D:=wS X Wa (η g.1) (η g.2);have l:tot esz (es.take (j+1))=tot esz (es.take j)+esz X:=by rw[<-v];exact mF esz es j hlt
   have F:=qJ esz (es.take j) 427 (λx E=>rR (hf x (DD E)));have o:tot esz (es.take j)<=427000000:=by
    have:(es.take j).length<=1000000:=by rw[AX];omega
    omega
   have y:=rR g;have⟨n,f⟩:=nM (tot esz (es.take j));have⟨m,u⟩:=nM (esz X);rw[f]at o;rw[u]at y;simp only[u]at D;have J:Hid (tot esz (es.take (j+1))=n+m):=by rw[l,f,u];exact rfl
   simp only[f];go_wp2_with (apply D.m;rintro e W ⟨rfl,z⟩);go_roundw
   case rel=>exact⟨j+1,by rw[J.o];congr 1,ν,ω,C.tm z⟩
   case measure=>simp[intOf];omega
  .obtain rfl:j=es:=ω;have B:Hid (tot esz (es.take es)=tot esz es):=by rw[BN];exact rfl
   go_wp2;go_ret;exact⟨by first|rfl|(rw[<-B.o];rfl)|(rw[B.o];rfl)|(simp[B.o];done),p⟩
theorem Of{a a' b c:Nat}(d:a=a')(e:b=c):Ending.returned (.tuple #[.i a,.i b])=.r (.tuple #[.i a',.i c]):=by rw[d,e]
theorem Xp(ea ec es)(all:Nat)(S w)(hR:aH w S ea (aU es))(hS:lW S w)(hn:es.length<=1000000)(hc:es.length<=ec)(hf:∀x∈es,x.fits)(ha:250<tot esz es)(ha2:all<=427000000):
  cL 213 #[.s ea es ec,.func (.func 203) #[] #[],.i all] w λe w'=>e=.r (.tuple #[.i (shN esz all es 0),.i (tot esz (es.take (shN esz all es 0)))])/\bW w w':=by
 go_enter func213,ntmps213;go_wp2;go_loopw [8,9] (λa b wr=>∃j:Nat,b=.i (tot esz (es.take j))/\a=.i j/\j<=shN esz all es 0/\bW w wr) (λa _ _=>es-(intOf a).toNat)
 case atStart=>exact⟨0,by simp[tot],rfl,AG _,AC _ _⟩
 case round =>
  obtain⟨j,rfl,rfl,Z,z⟩:=hrel;have y:=Nat.lt_of_le_of_lt Z (qL esz all es ha);have g:=Fw esz all es 0 j Z y;have C:j<(es.map (·.e)).length:=by simpa using y
  obtain⟨L,K,U,p,I,D,F,H⟩:=(hR.on (vV z hS)).ent C;subst U;have v:=mF esz es j y;have q:=hf _ (AA y);obtain⟨X,V⟩:=nM (es[j]);simp only[EF,V]at I D F H v q g;have M:=rR q;obtain⟨n,u⟩:=nM (tot esz (es.take j));obtain⟨m,J⟩:=nM (esz X);have a0:n<=427000000:=by
   have h1:=qJ esz (es.take j) 427 (λx T=>rR (hf x (DD T)));have h2:(es.take j).length<=1000000:=by rw[AX];omega
   omega
  simp only[u,EA,J]at g v M⊢;have HM:Hid _:=v;have R:Hid _:=g;have E:∀W,bW wr W->On S wr W:=λW B=>vV B (λk hk=>jY (hS k hk) z.size);have N:Hid (∀W,bW wr W->W.c L (K+j * 4)=some (.t X.e.key)/\W.c L (K+j * 4+1)=some (.t X.e.val)/\W.c L (K+j * 4+2)=some (.i X.e.size)/\W.c L (K+j * 4+3)=some (.i X.e.over)):=λW B=>⟨(E W B).cell _ p |>.trans I,(E W B).cell _ p |>.trans D,(E W B).cell _ p |>.trans F,(E W B).cell _ p |>.trans H⟩;have O:Hid (∀W,cL 203 #[.agg #[.t X.e.key,.t X.e.val,.i X.e.size,.i X.e.over]] W λe w'=>e=.r (.i m)/\bW W w'):=λW=>by have h:=wS X W (η q.1) (η q.2);rw[J]at h;exact h
  have f:bW wr wr:=AC _ _;have A:¬j<shN esz all es 0->Hid (shN esz all es 0=j/\tot esz (es.take (shN esz all es 0))=n):=λh=>by
   have e:shN esz all es 0=j:=ω;exact⟨e,by rw[e,u]⟩
  clear v V hR u J E;by_cases hle1:2 * n+m<=all
  .have Q:2 * (n:Int)+(m:Int)<=(all:Int):=ω;by_cases hle:n+m<=250
   .have G:(n:Int)+(m:Int)<=250:=ω;clear A g;go_wp2_with (refine Calls.m (O.o _) ?_;rintro e Y ⟨rfl,o⟩;have f:=f.tm o;obtain⟨I,D,F,H⟩:=N.o _ f);go_roundw
    case rel=>exact⟨j+1,by rw[HM.o];congr 1,ν,R.o.2 ⟨hle1,hle⟩,z.tm f⟩
    case measure=>simp[intOf];omega
   .have G:¬(n:Int)+(m:Int)<=250:=ω;have l:=A (λh=>hle (g.1 h).2);go_wp2_with (refine Calls.m (O.o _) ?_;rintro e Y ⟨rfl,o⟩;have f:=f.tm o;obtain⟨I,D,F,H⟩:=N.o _ f);go_ret2;exact⟨Of l.o.1.symm l.o.2.symm,z.tm f⟩
  .have Q:¬2 * (n:Int)+(m:Int)<=(all:Int):=ω;have l:=A (λh=>hle1 (g.1 h).1);go_wp2_with (refine Calls.m (O.o _) ?_;rintro e Y ⟨rfl,o⟩;have f:=f.tm o;obtain⟨I,D,F,H⟩:=N.o _ f);go_ret2;exact⟨Of l.o.1.symm l.o.2.symm,z.tm f⟩
structure Pc (α:Type) where
 a:Option Addr
 c:Nat
 l:List α
def Pc.val{α:Type}(q:Pc α):Value:=.slice q.a q.l.length q.c
theorem Il {g:b->List Value}(l:List b)(a:∀x∈l,(g x).length=z):(l.flatMap g).length=l.length * z:=by
 induction l with
 |nil=>simp
 |cons x l ih =>
  rw[AK,jK,ih (λd c=>a d (by simp[c])),a x σ,jB,MF];omega
theorem aH.takeZ {e:Type}{g}{z:Nat}{l:List e}(n)(h:aH w S a (l.flatMap g)):aH w S a ((l.take n).flatMap g):=by
 have c:l.flatMap g=(l.take n).flatMap g++(l.drop n).flatMap g:=by rw[<-BS,BU]
 rcases h with h|⟨b,m,f,j,i⟩
 .rw[c]at h;exact .inl (EZ.1 h).1
 .refine .inr ⟨b,m,f,j,λk o d=>i k o ?_⟩;rw[c,BK (AD.1 d).1];exact d
theorem aH.dropZ {e:Type}{g b a}{l:List e}(n)(p:∀x∈l,(g x).length=z)(h:aH w S (some (aD b a)) (l.flatMap g))(j:n<=l.length):aH w S (some (aD b (a+n * z))) ((l.drop n).flatMap g):=by
 have c:l.flatMap g=(l.take n).flatMap g++(l.drop n).flatMap g:=by rw[<-BS,BU]
 have f:((l.take n).flatMap g).length=n * z:=by rw[Il _ (λx o=>p x (DD o)),AX,GI j]
 rcases h with h|⟨s,t,d,k,i⟩
 .rw[c]at h;exact .inl (EZ.1 h).2
 .simp only[BB,CD,DC]at d;obtain⟨rfl,rfl⟩:=d;refine .inr ⟨b,a+n * z,rfl,k,λq r m=>?_⟩;have:=i (n * z+q) r (by rw[c,AZ ω,f];simpa using m);rw[GL];exact this
theorem uZ(es):aU es=es.flatMap (λx=>x.e.cells):=by
 simp[aU,KP]
theorem Uy(es:List En):∀x∈es,((λx:En=>x.e.cells) x).length=4:=λx _=>rfl
theorem aH.addr {d}(h:aH w S a d)(g:d≠[]):∃b c,a=some (aD b c)/\S b:=by
 rcases h with h|⟨b,c,e,f,_⟩
 .exact(g h).elim
 .exact⟨b,c,e,f⟩
theorem Bu{es}(h:0<es.length):aU es≠[]:=by
 cases es with
 |nil=>simp at h
 |cons x l=>simp[aU,Ent.cells]
theorem Tz:(prog.info? 67).map (λi=>(i.zero,i.size,i.bytes))=some (some .n,1,24):=κ
def qSp(w:World)(S:Bl)(v:Value)(ps:List (List En)):Prop :=
 ∃qs:List (Pc En),w.ownsRow 0 67 1 v qs.length (qs.map Pc.val)/\qs.map (·.l)=ps/\∀q∈qs,q.l.length<=q.c/\aH w S q.a (aU q.l)
theorem qLz(ea ec es S w)(hR:aH w S ea (aU es))(hS:lW S w)(hn:es.length<=1000000)(hc:es.length<=ec)(hf:∀x∈es,x.fits)(h250:∀x∈es,esz x<=250):
  cL 202 #[.s ea es ec,.func (.func 203) #[] #[]] w λe w'=>∃v,e=.r v/\qSp w' S v (fA esz es)/\bW w w'/\nW v w:=by
 have hT:=Ft ea ec es S w hR hS hn hc hf;have I:∀r:List En,(∀x∈r,x∈es)->r.length<=es->tot esz r<=427000000:=λr hr hl=>by
  have:=qJ esz r 427 (λx hx=>rR (hf x (hr x hx)));omega
 go_enter func202,ntmps202;go_wp2_with (apply hT.m;rintro e w1 ⟨rfl,a9⟩);go_loopw [0,5,6] (λa p t wr=>∃(r:List En) (ra:Option Addr) (y:Nat) (u:List (Pc En)),a=.s ra r y/\r<=y/\t=.i (tot esz r)/\aH w S ra (aU r)/\(∀x∈r,x∈es)/\r.length<=es/\u.length+r<=es/\fA esz es=u.map (·.l)++fA esz r/\wr.ownsRow 0 67 1 p u (u.map Pc.val)/\(∀q∈u,q.l<=q.c/\aH w S q.a (aU q.l))/\bW w wr/\∀k,p.ownBlock=some k->w<=k) (λa _ _ _=>match a with|.s _ n _=>n|_=>0)
 case atStart=>exact⟨es,ea,ec,[],rfl,hc,rfl,hR,λ_ h=>h,jU _,σ,σ,AO _ _ _ _,σ,a9,ι⟩
 case round =>
  obtain⟨r,ra,y,u,rfl,a6,rfl,B,C,ae,ak,V,o,F,E,m⟩:=hrel;have af:=B.on (vV E hS);have ab:=λb h=>jY (hS b h) E.size;have aa:=I r C ae;have G:Hid _:=V;clear V;by_cases hgt:250<tot esz r
  .have a3:0<r.length:=by
    cases r with
    |nil=>simp[tot]at hgt
    |cons x r=>simp
   obtain⟨L,Q,rfl,al⟩:=B.addr (Bu a3);have H:=λx hx=>h250 x (C x hx);have D:=Xp (some (aD L Q)) y r (tot esz r) S wr af ab ω a6 (λx hx=>hf x (C x hx)) ω ω;have W:=sE esz r ω H;have T:=wZ esz (tot esz r) r 0;have X:=Bw esz r H hgt;have M:=Aq esz r (shN esz (tot esz r) r 0);have⟨n,a4⟩:=nM (shN esz (tot esz r) r 0);rw[a4]at D W T X M;have⟨f,a8⟩:=nM (tot esz (r.take n));rw[a8]at D M;have⟨t,ht⟩:=nM (tot esz r);rw[ht]at D hgt aa M;simp only[ht];have a7:(t:Int) > 250:=ω
   have a5:∀z:Int,z=((t:Nat):Int)->cL 213 #[.s (some (aD L Q)) r y,.func (.func 203) #[] #[],.i z] wr λe w'=>e=.r (.tuple #[.i n,.i f])/\bW wr w':=λz hz=>hz▸D;have ac:Hid _:=X;have HF:Hid (tot esz (r.drop n)=t-f):=by show _=_;omega
   have ai:f<=t:=ω
   have ah:(n:Int)<=(y:Int):=ω
   have ad:(n:Int)<=(r.length:Int):=ω
   have a2:(r.drop n).length=r-n:=BJ ..;have O:Hid ((r.drop n).length=r-n):=a2;have a1:Hid ((r.take n).length=n):=by show _=_;rw[AX];omega
   clear X M a4 a8 ht hT I a2 D;obtain⟨pa,R,rfl⟩:=aG o;have hQ:u.length+1<=1000001:=ω
   go_wp2_with (first
    |(go_at_call 213;apply(a5 _ (by first|rfl|omega)).m;clear a5;rintro e w2 ⟨rfl,J⟩;have f2:Fr Bl.none wr w2:=AB J;have o2:=aS o (f2.on (Z:=λk=>Value.ownBlock (.s pa u R)=some k) (λk Y=>⟨aL o Y,λh=>h⟩)) (λk Y=>Y))
    |(at_builtin;apply gQ w2 rfl (.tmp 21) (.tmp 25) 38 67 _ 1 24 rfl underlying38 Tz rfl δ (.s pa u R) u (u.map Pc.val) rfl o2 [.s (some (aD L Q)) n y] rfl rfl υ ω ω;intro v3 w3 N;obtain⟨g3,k3,rfl⟩:=N.shape δ))
   have b3:=(E.tm J).t (N.fr.below (vJ E.size J.size) m);go_roundw
   case rel =>
    refine⟨r.drop n,(if y=n then some (aD L Q) else some (aD L (Q+n * 4))),y-n,u++[⟨some (aD L Q),y,r.take n⟩],by rw[O.o],by rw[O.o];omega,by rw[HF.o];congr 1;omega,?_,λx hx=>C x (BV hx),by rw[O.o];omega,by rw[O.o,jK,AP];omega,by rw[G.o,ac.o];simp,?_,?_,b3,?_⟩
    .by_cases hrn:y=n
     .exact .inl (by rw[CW ω];rfl)
     .rw[AQ hrn]
      rw[uZ]at B⊢;exact B.dropZ n (Uy r) T
    .have e1:Pc.val (⟨some (aD L Q),y,r.take n⟩:Pc En)=.s (some (aD L Q)) n y:=by unfold Pc.val;simp only[a1.o]
     rw[BL,jK,AP,BE,DB,e1];exact N.row
    .intro q A;rcases AN.1 A with A|A
     .exact F q A
     .obtain rfl:=AL.1 A;refine⟨by show(r.take n).length<=y;rw[a1.o];omega,?_⟩;show aH w S (some (aD L Q)) (aU (r.take n));rw[uZ]at B⊢;exact B.takeZ (z:=4) n
    .intro k Y;rcases N.lies k Y with h|h
     .exact m k h
     .exact vJ E.size (vJ J.size h)
   case measure=>simp;omega
  .have K:=kF esz r ω;obtain⟨pa,R,rfl⟩:=aG o;by_cases a3:0<r.length
   .have a0:Hid (fA esz r=[r]):=by show _=_;rw[K,AQ ω]
    have⟨t,ht⟩:=nM (tot esz r);simp only[ht]at hgt⊢;have a7:¬(t:Int) > 250:=ω
    have hQ:u.length+1<=1000001:=ω
    clear K ht hT I;go_wp2_with (at_builtin;apply gQ wr rfl (.tmp 36) (.tmp 38) 38 67 _ 1 24 rfl underlying38 Tz rfl δ (.s pa u R) u (u.map Pc.val) rfl o [.s ra r y] rfl rfl υ ω ω;intro v3 w3 N;obtain⟨g3,k3,rfl⟩:=N.shape δ);go_ret;have b3:=E.t (N.fr.below E.size m);refine⟨_,rfl,⟨u++[⟨ra,y,r⟩],?_,by rw[G.o,a0.o];simp,?_⟩,b3,?_⟩
    .rw[BL,jK,AP,BE,DB];exact N.row
    .intro q A;rcases AN.1 A with A|A
     .exact⟨(F q A).1,(F q A).2.on (vV b3 hS)⟩
     .obtain rfl:=AL.1 A;exact⟨a6,B.on (vV b3 hS)⟩
    .intro k Y
     rcases N.lies k Y with h|h
     .exact m k h
     .exact vJ E.size h
   .have U:r.length=0:=ω
    have a0:Hid (fA esz r=[]):=by show _=_;rw[K,AU U]
    obtain rfl:=AH U;clear K hT I;go_wp2;go_ret;exact⟨_,rfl,⟨u,o,by rw[G.o,a0.o];simp,λq A=>⟨(F q A).1,(F q A).2.on (vV E hS)⟩⟩,E,m⟩
theorem sX{f:Type}(p):∀(l:List f) (a b:Nat),(∀m (h:m<l.length),p l[m]=(decide (a<=m)&&decide (m<b)))->l.filter p=(l.take b).drop a
 |[],_,_,_=>by simp
 |x :: l,a,0,h=>by
  rw[List.take_zero,List.drop_nil,LB];intro i g;obtain⟨m,d,rfl⟩:=AW g;rw[h m d];simp
 |x :: l,0,b+1,h=>by
  have c:=h 0 σ;simp only[CX]at c;have e:p x=true:=by rw[c];simp
  rw[List.filter_cons_of_pos e,EJ,FJ,sX p l 0 b (λm d=>by
   have:=h (m+1) (by simpa using d);simp only[DL]at this;rw[this];simp),FJ]
 |x :: l,a+1,b+1,h=>by
  have c:=h 0 σ;simp only[CX]at c;have e:¬p x=true:=by rw[c];simp
  rw[List.filter_cons_of_neg e,EJ,List.drop_succ_cons,sX p l a b (λm d=>by
   have:=h (m+1) (by simpa using d);simp only[DL]at this;rw[this];simp)]
theorem qBr{cs}(c:cJ cs)(k m)(b:m<cs.length):lt cs[m].key k=decide (m<dK cs k):=by
 by_cases h:m<dK cs k
 .have⟨_,a⟩:=vO h;rw[a];simp[h]
 .rw[sD c ω b];simp[h]
def dH(cs:List Ch)(q:Sp):List Ch:=cs.filter (λc=>q.has c.key)
theorem qNu{cs}(e:cJ cs)(q b)(c:b=if isNil q.hi=true then cs.length else dK cs q.hi):dH cs q=(cs.take (max (dK cs q.lo) b)).drop (dK cs q.lo):=by
 refine sX _ cs _ _ (λa d=>?_);have g:Sp.below q.hi cs[a].key=decide (a<b):=by
  unfold Sp.below;cases hn:isNil q.hi
  .rw[hn]at c;simp only[Bool.false_or];simp only[FI,KA]at c;rw[c];exact qBr e q.hi a d
  .rw[hn]at c;simp only[LU]at c;rw[c];simp[d]
 unfold Sp.has le;rw[qBr e q.lo a d,g];by_cases ha:a<dK cs q.lo
 .have:¬dK cs q.lo<=a:=ω;simp[ha,this]
 .have h:dK cs q.lo<=a:=ω;simp only[ha,h,decide_false,decide_true,Bool.not_false,LZ];congr 1;apply propext;omega
def Km(S:Bl)(ca:Option Addr)(cs:List Ch)(a:Option Addr)(c:Nat)(own:List Ch):Prop :=
 own.length<=c/\(∀Wx,aH Wx S ca (cs.flatMap Ch.cells)->aH Wx S a (own.flatMap Ch.cells))/\((a=none/\c=0)\/∃b off,a=some (aD b off))
theorem qCz {b c a:Nat}{cs own:List Ch}(n t)(g:cs<=a)(i:n<=t)(j:t<=cs.length)(d:own=(cs.take t).drop n):Km S (some (aD b c)) cs (if a=n then some (aD b c) else some (aD b (c+n * 3))) (a-n) own:=by
 have h:own.length=t-n:=by rw[d,BJ,AX];omega
 refine⟨ω,λf e=>?_,?_⟩
 .by_cases hc:a=n
  .exact .inl (by rw[AH (by omega:own.length=0)];rfl)
  .rw[AQ hc,d]
   exact(e.takeZ (z:=3) t).dropZ n (λk _=>rfl) (by rw[AX];omega)
 .by_cases hc:a=n
  .exact .inr ⟨b,c,by rw[AU hc]⟩
  .exact .inr ⟨b,c+n * 3,by rw[AQ hc]⟩
theorem qIe(a):(a.toList==([]:List UInt8))=isNil a:=by
 unfold isNil;cases a.toList<;>rfl
theorem Fg(x i cs q S w)(V:aH w S x (cs.flatMap Ch.cells))(O:lW S w)(U:cJ cs)(X:cs.length<=1000000)(L:cs.length<=i)(Q:(x=none/\i=0)\/∃b a0,x=some (aD b a0)):
  cL 176 #[.s x cs i,.agg #[.t q.lo,.t q.hi]] w λe w'=>∃a c,e=.r (.s a (dH cs q) c)/\Km S x cs a c (dH cs q)/\bW w w':=by
 obtain⟨D,P,h,t,-⟩:=al1 w (.cells #[.t q.lo,.t q.hi] 154);have⟨a1,a2⟩:=cM t;have A:=(gL t);have N:=λW G H=>mG x i cs G S W (V.on (vV H O)) (λb K=>jY (O b K) H.size) U X L;have I:=vP cs q.lo;have R:=vP cs q.hi;have E:=λb K=>qNu U q b K;have⟨n,M⟩:=nM (dK cs q.lo);have⟨p,J⟩:=nM (dK cs q.hi);have j:=N D q.lo h;rw[M]at I j;simp only[M,J]at E;rw[J]at R;have F:=λW H=>N W q.hi H;simp only[J]at F;clear M J N;go_enter func176,ntmps176;cases hnil:isNil q.hi
 .have Y:(q.hi.toList==([]:List UInt8))=false:=by rw[qIe,hnil]
  have r:Hid (dH cs q=(cs.take (max n p)).drop n):=E p (by simp[hnil]);have g:Hid ((dH cs q).length=max n p-n):=by show _=_;rw[r.o,BJ,AX];omega
  clear E;rcases Q with⟨rfl,rfl⟩|⟨k,l,rfl⟩
  .obtain rfl:cs=[]:=AH ω
   obtain rfl:n=0:=by simpa using I
   obtain rfl:p=0:=by simpa using R
   go_wp2_with (go_at_call 96;first|(apply j.m;clear j;rintro e o ⟨rfl,f⟩;have d:=h.t (f.m h.size);have⟨B,C⟩:=cM ((f.block w A).t t))|(apply(F _ d).m;rintro e z ⟨rfl,y⟩;have v:=d.t (y.m d.size)));go_ret;exact⟨none,0,by rw[g.o];rfl,⟨by rw[g.o];simp,λ_ _=>.inl (by rw[AH (by rw[g.o];rfl:(dH [] q).length=0)];rfl),.inl ⟨rfl,rfl⟩⟩,v⟩
  .skip
   have m:Km S (some (aD k l)) cs (if i=n then some (aD k l) else some (aD k (l+n * 3))) (i-n) (dH cs q):=qCz n (max n p) L ω ω r;by_cases hcn:i=n
   .subst i
    have s:Hid ((dH cs q).length=0):=by show _=_;rw[g.o];omega
    have u:Hid (Km S (some (aD k l)) cs (some (aD k l)) 0 (dH cs q)):=by rw[AU rfl,JX]at m;exact m
    have Z:(p:Int)<=(n:Int):=ω
    clear r g m;go_wp2_with (go_at_call 96;first|(apply j.m;clear j;rintro e o ⟨rfl,f⟩;have d:=h.t (f.m h.size);have⟨B,C⟩:=cM ((f.block w A).t t))|(apply(F _ d).m;rintro e z ⟨rfl,y⟩;have v:=d.t (y.m d.size)))
    all_goals go_ret
    all_goals exact⟨_,_,by rw[s.o];first|rfl|(simp;done)|(simp;omega),u,v⟩
   .have u:Hid (Km S (some (aD k l)) cs (some (aD k (l+n * 3))) (i-n) (dH cs q)):=by rw[AQ hcn]at m;exact m
    clear m;by_cases hnt:n<=p
    .have s:Hid ((dH cs q).length=p-n):=by show _=_;rw[g.o];omega
     have T:(n:Int)<=(p:Int):=ω
     clear r g;go_wp2_with (go_at_call 96;first|(apply j.m;clear j;rintro e o ⟨rfl,f⟩;have d:=h.t (f.m h.size);have⟨B,C⟩:=cM ((f.block w A).t t))|(apply(F _ d).m;rintro e z ⟨rfl,y⟩;have v:=d.t (y.m d.size)))
     all_goals go_ret
     all_goals exact⟨_,_,by rw[s.o];first|rfl|(simp;done)|(simp;omega),u,v⟩
    .have s:Hid ((dH cs q).length=n-n):=by show _=_;rw[g.o];omega
     have T:(p:Int)<(n:Int):=ω
     clear r g;go_wp2_with (go_at_call 96;first|(apply j.m;clear j;rintro e o ⟨rfl,f⟩;have d:=h.t (f.m h.size);have⟨B,C⟩:=cM ((f.block w A).t t))|(apply(F _ d).m;rintro e z ⟨rfl,y⟩;have v:=d.t (y.m d.size)))
     all_goals go_ret
     all_goals exact⟨_,_,by rw[s.o];first|rfl|(simp;done)|(simp;omega),u,v⟩
 .have Y:(q.hi.toList==([]:List UInt8))=true:=by rw[qIe,hnil]
  have r:Hid (dH cs q=(cs.take (max n cs)).drop n):=E cs.length (by simp[hnil]);have g:Hid ((dH cs q).length=max n cs.length-n):=by show _=_;rw[r.o,BJ,AX];omega
  clear E;rcases Q with⟨rfl,rfl⟩|⟨k,l,rfl⟩
  .obtain rfl:cs=[]:=AH ω
   obtain rfl:n=0:=by simpa using I
   go_wp2_with (apply j.m;clear j;rintro e o ⟨rfl,f⟩;have d:=h.t (f.m h.size);have⟨B,C⟩:=cM ((f.block w A).t t));go_ret;exact⟨none,0,by rw[g.o];rfl,⟨by rw[g.o];simp,λ_ _=>.inl (by rw[AH (by rw[g.o];rfl:(dH [] q).length=0)];rfl),.inl ⟨rfl,rfl⟩⟩,d⟩
  .skip
   have m:Km S (some (aD k l)) cs (if i=n then some (aD k l) else some (aD k (l+n * 3))) (i-n) (dH cs q):=qCz n (max n cs) L ω ω r;by_cases hcn:i=n
   .subst i
    have s:Hid ((dH cs q).length=0):=by show _=_;rw[g.o];omega
    have u:Hid (Km S (some (aD k l)) cs (some (aD k l)) 0 (dH cs q)):=by rw[AU rfl,JX]at m;exact m
    have Z:(cs.length:Int)<=(n:Int):=ω
    clear r g m;go_wp2_with (apply j.m;clear j;rintro e o ⟨rfl,f⟩;have d:=h.t (f.m h.size);have⟨B,C⟩:=cM ((f.block w A).t t))
    all_goals go_ret
    all_goals exact⟨_,_,by rw[s.o];first|rfl|(simp;done)|(simp;omega),u,d⟩
   .have u:Hid (Km S (some (aD k l)) cs (some (aD k (l+n * 3))) (i-n) (dH cs q)):=by rw[AQ hcn]at m;exact m
    clear m;by_cases hnt:n<=cs.length
    .have s:Hid ((dH cs q).length=cs.length-n):=by show _=_;rw[g.o];omega
     have T:(n:Int)<=(cs.length:Int):=ω
     clear r g;go_wp2_with (apply j.m;clear j;rintro e o ⟨rfl,f⟩;have d:=h.t (f.m h.size);have⟨B,C⟩:=cM ((f.block w A).t t))
     all_goals go_ret
     all_goals exact⟨_,_,by rw[s.o];first|rfl|(simp;done)|(simp;omega),u,d⟩
    .exact absurd I hnt
theorem yS:∀{l m:List En},cT l->cT m->(∀a,a∈l↔a∈m)->l=m
 |[],[],_,_,_=>rfl
 |[],a :: m,_,_,h=>absurd ((h a).2 σ) σ
 |x :: l,[],_,_,h=>absurd ((h x).1 σ) σ
 |x :: l,a :: m,hl,hm,h=>by
  have⟨d,i⟩:=BD.1 hl;have⟨f,j⟩:=BD.1 hm;have g:x=a:=by
   rcases AS.1 ((h x).1 σ) with e|e
   .exact e
   .rcases AS.1 ((h a).2 σ) with n|n
    .grind
    .have:=fG (d a n) (f x e);rw[cP]at this;cases this
  subst g;rw[yS i j (λc=>?_)];constructor
  .intro b;rcases AS.1 ((h c).1 (by simp[b])) with rfl|k
   .have:=d c b;rw[cP]at this;cases this
   .exact k
  .intro b;rcases AS.1 ((h c).2 (by simp[b])) with rfl|k
   .have:=f c b;rw[cP]at this;cases this
   .exact k
theorem qAf{es cs}(e:cT es)(h:cJ cs)(q):bJ (es.filter (λx=>q.has x.e.key)) (dH cs q)=(bJ es cs).filter (λx=>q.has x.e.key):=by
 rw[oF,oF];have m:cJ (dH cs q):=ES _ h;have k:cT (es.filter (λx=>q.has x.e.key)):=ES _ e;refine yS (tX _ _ k m) (ES _ (tX _ _ e h)) (λn=>?_);rw[vX _ _ k m,EL,EL,vX _ _ e h];unfold dH;constructor
 .rintro(⟨c,a,f,rfl⟩|⟨i,g⟩)
  .have⟨d,b⟩:=EL.1 a;exact⟨.inl ⟨c,d,f,rfl⟩,b⟩
  grind
 .rintro⟨⟨c,a,f,rfl⟩|⟨i,g⟩,l⟩
  .exact .inl ⟨c,EL.2 ⟨a,l⟩,f,rfl⟩
  grind
def iX(next:Nat)(d:ByteArray):Pg:=⟨4,0,0,next,[],[],[],d⟩
def eQ(es:List En):Pg:=⟨3,0,0,0,[],[],es.map (·.e),⟨#[]⟩⟩
def fC(los:List ByteArray)(pls:List Nat):Pg:=⟨2,0,0,0,los,pls.map (λn:Nat=>(n:Int)),[],⟨#[]⟩⟩
def bL(ver root:Int):Pg:=⟨1,ver,root,0,[],[],[],⟨#[]⟩⟩
theorem wK(a:Pg)(c:dV a.kind a.ver a.root a.next a.keys a.kids a.ents a.data=true)(b:(fieldsB a.kind a.ver a.root a.next a.keys a.kids a.ents a.data).length<=252):a.encE=0:=by
 unfold Pg.encE Pages.cV;rw[AU ζ]
theorem Bf:(⟨#[]⟩:ByteArray).toList.isEmpty=true:=σ
theorem qU(s):(eF s)=s.size+1:=by
 rfl
theorem uY(ver root)(b:0<=ver)(c:root=0\/bF root=true):(bL ver root).encE=0:=by
 refine wK _ ?_ ?_
 .rcases c with a|a<;>simp[bL,dV,fW,mK,lO,Ly,b,a,Bf]
 .simp[bL,fieldsB,aK]
theorem Ux(next:Nat)(d)(b:next=0\/bF next=true)(c:1<=d.size)(e:d.size<=240):(iX next d).encE=0:=by
 refine wK _ ?_ ?_
 .rcases b with a|a<;>simp[iX,dV,fW,mK,lP,Gv,a,c,e]
 .have:=qU d;simp[iX,fieldsB,aK];omega
theorem Me:∀(es:List Ent) (c:ByteArray),es.Pairwise (λa b=>lt a.key b.key=true)->(∀e∈es,lt c e.key=true/\e.key.size<=24/\qS e.val e.size e.over=true)->gJ c es=true
 |[],_,_,_=>rfl
 |e :: r,c,hp,h=>by
  have⟨m,n⟩:=BD.1 hp;have⟨g,i,j⟩:=h e σ;simp only[gJ,AM,iG];refine⟨⟨⟨g,ζ⟩,j⟩,Me r e.key n (λf d=>?_)⟩;grind
theorem Gb:∀(ks:List ByteArray) (c:ByteArray),ks.Pairwise (λa b=>lt a b=true)->(∀k∈ks,lt c k=true/\k.size<=24)->gE c ks=true
 |[],_,_,_=>rfl
 |k :: r,c,hp,h=>by
  have⟨i,j⟩:=BD.1 hp;have⟨f,g⟩:=h k σ;simp only[gE,AM,iG];exact⟨⟨f,ζ⟩,Gb r k j (λe d=>⟨i e d,(h e (by simp[d])).2⟩)⟩
theorem qOs(x)(h:qS x.e.val x.e.size x.e.over=true):(Ent.bytes x.e)=esz x:=by
 unfold Ent.bytes mY esz;rw[jK,qU];simp only[qS,DZ,AM,CU,BO]at h;rcases h with⟨⟨a,e⟩,b⟩|⟨⟨⟨a,e⟩,b⟩,f⟩
 .rw[AU (by simp[a]),AQ ω,jK,qU];simp;omega
 .have d:¬(x.e.over==0)=true:=by
   intro c;rw[CU.1 c]at a;simp[bF]at a
  rw[AQ d,AU b,jK,jK,aK,aK];simp
theorem Us:∀(es:List En),(∀x∈es,qS x.e.val x.e.size x.e.over=true)->((es.map (·.e)).flatMap Ent.bytes)=tot esz es
 |[],_=>rfl
 |x :: es,h=>by
  rw[BE,AK,jK,cQ,qOs x (h x σ),Us es (λb a=>h b (by simp[a]))]
theorem qLo(es)(c:es≠[])(f:cT es)(b:∀x∈es,lt ⟨#[]⟩ x.e.key=true/\x.e.key.size<=24/\qS x.e.val x.e.size x.e.over=true)(j:tot esz es<=250):(eQ es).encE=0:=by
 have e:=Me _ _ (by rw[EV];exact f) (λg d=>by
  obtain⟨x,a,rfl⟩:=AY.1 d;exact b x a)
 refine wK _ ?_ ?_
 .have i:es.map (·.e)≠[]:=by simp_all
  simp[eQ,dV,lP,fW,lO,e,c,Bf]
 .have h:=Us es (λx a=>(b x a).2.2);simp only[eQ,fieldsB,nI,jK,aK,AQ (show ¬(3:Int)=1 by decide),AQ (show ¬(3:Int)=2 by decide),AU];omega
theorem Tj:∀(l:List Int),(l.flatMap (beB 2)).length=2 * l
 |[]=>rfl
 |x :: l=>by rw[AK,jK,aK,Tj l,jB];omega
theorem Tn:∀(l:List ByteArray),(l.flatMap eF)=tot (λk:ByteArray=>k+1) l
 |[]=>rfl
 |x :: l=>by rw[AK,jK,qU,Tn l,cQ]
theorem qLp(c d)(i:c≠[])(h:d.length=c.length+1)(m:c.Pairwise (λa b=>lt a b=true))(g:∀k∈c,lt ⟨#[]⟩ k=true/\k.size<=24)(j:∀p∈d,bF (p:Nat)=true)(q:2 * d.length+tot (λk:ByteArray=>k.size+1) c<=250):(fC c d).encE=0:=by
 refine wK _ ?_ ?_
 .have f:(d.map (λn:Nat=>(n:Int))).all bF=true:=by
   grind
  simp only[fC,dV,lP,mK,lO,iH,Gb c ⟨#[]⟩ m g,f,Bf,AQ (show ¬(2:Int)=1 by decide),AU,AF,h];simp[i]
 .simp only[fC,fieldsB,eU,jK,aK,AQ (show ¬(2:Int)=1 by decide),AU,Tj,Tn,AF];omega
theorem Uc {g}(h:fs.has p g)(a:g.kind=2):∀k∈g.kids,bF k=true:=by
 have:=wF h;rw[a]at this;simp only[dV,AQ (show ¬(2:Int)=1 by decide),AU,AM,iH,JM]at this;grind
theorem qLa {g}(h:fs.has p g)(a:g.kind=4):g.next=0\/bF g.next=true:=by
 have:=wF h;rw[a]at this;simp only[dV,AQ (show ¬(4:Int)=1 by decide),AQ (show ¬(4:Int)=2 by decide),AQ (show ¬(4:Int)=3 by decide),AU,AM,Gv,DZ,CU]at this;grind
theorem lU(g:Pg)(a:g.encE=0):g.encS.size=256:=by
 unfold Pg.encE Pages.cV at a;split at a
 .rename_i hT;unfold Pg.encS Pages.encS;rw[AU hT];simp only[AM,BO]at hT;show(kN _).toArray.size=256;simp only[jA,kN,iQ,jK,CT,aK];omega
 .simp at a
theorem Ab(g)(c:g.ver<9223372036854775808)(b:g.encE=0):yE g.encS g:=by
 have a:=Xw g c b;exact⟨lU g b,ζ,by rw[a],a.symm⟩
structure MN where
 lo:ByteArray
 hi:ByteArray
 place:Nat
 ea:Option Addr
 en:Nat
 ec:Nat
 ka:Option Addr
 kn:Nat
 kc:Nat
def MN.cells(m:MN):List Value:=[.string m.lo,.string m.hi,.int .i64 m.place,.slice m.ea m.en m.ec,.slice m.ka m.kn m.kc]
abbrev MN.val(m:MN):Value:=.agg #[.string m.lo,.string m.hi,.int .i64 m.place,.slice m.ea m.en m.ec,.slice m.ka m.kn m.kc]
def aM(ms:List MN):List Value:=ms.flatMap MN.cells
theorem Cv(ms):aM ms=ms.flatMap MN.cells:=rfl
theorem Cu(ms m):aM (ms++[m])=aM ms++m.cells:=by simp[aM]
theorem iK(ms ns):aM (ms++ns)=aM ms++aM ns:=by simp[aM]
theorem Sc(ms:List MN):∀x∈ms,(MN.cells x).length=5:=λx _=>rfl
theorem iY(ms):(aM ms).length=ms * 5:=Il ms (Sc ms)
theorem Bh{ms}(h:0<ms.length):aM ms≠[]:=by
 cases ms with
 |nil=>simp at h
 |cons x l=>simp[aM,MN.cells]
theorem oG{l:List MN}{j i:Nat}(c:j<l)(hi:i<5):(aM l)[j * 5+i]?=(l[j].cells)[i]?:=by
 have a:aM l=aM (l.take j)++(l[j].cells++aM (l.drop (j+1))):=by
  have:l=l.take j++(l[j]:: l.drop (j+1)):=σ
  conv=>lhs;rw[this]
  rw[iK];rfl
 have b:(aM (l.take j))=j * 5:=by rw[iY,AX,GI ω]
 rw[a,AZ ω,b,Nat.add_sub_cancel_left,BK (by show i<5;exact hi)]
theorem aH.nod {l:List MN}(h:aH w S a (aM l))(e:j<l):∃b c,a=some (aD b c)/\S b/\w.c b (c+j * 5)=some (.t (l[j]).lo)/\w.c b (c+j * 5+1)=some (.t (l[j]).hi)/\w.c b (c+j * 5+2)=some (.i (l[j]).place)/\w.c b (c+j * 5+3)=some (.s (l[j]).ea (l[j]).en (l[j]).ec)/\w.c b (c+j * 5+4)=some (.s (l[j]).ka (l[j]).kn (l[j]).kc):=by
 have i:aM l≠[]:=Bh ω;rcases h with h|⟨b,c,f,g,d⟩
 .exact(i h).elim
 .exact⟨b,c,f,g,d (j * 5+0) _ (oG e ω),d (j * 5+1) _ (oG e ω),d (j * 5+2) _ (oG e ω),d (j * 5+3) _ (oG e ω),d (j * 5+4) _ (oG e ω)⟩
def ksz(m:MN):Nat:=m.lo.size+3
def MN.fits(m:MN):Prop:=m.lo.size<=24
theorem MN.fits.o{m:MN}(h:m.fits):m.lo.size<=24:=h
theorem rK{m}(h:m.fits):ksz m<=27:=by unfold ksz;have:=h.o;omega
theorem jD:(prog.info? 242).map (λi=>(i.zero,i.size,i.bytes))=some (some (.agg #[.e,.e,.i 0,.n,.n]),5,88):=κ
theorem Ty:(prog.info? 239).map (λi=>(i.zero,i.size,i.bytes))=some (some .n,1,24):=κ
theorem Da(x w)(f:x.lo.size<=1000000):
  cL 208 #[.agg #[.t x.lo,.t x.hi,.i x.place,.s x.ea x.en x.ec,.s x.ka x.kn x.kc]] w λe w'=>e=.r (.i (ksz x))/\bW w w':=by
 obtain⟨a,b,d,-⟩:=al1 w (.cells #[.t x.lo,.t x.hi,.i x.place,.s x.ea x.en x.ec,.s x.ka x.kn x.kc] 242);have⟨g,h,i,j,k⟩:=cS (b▸aB w _:cW a w #[.t x.lo,.t x.hi,.i x.place,.s x.ea x.en x.ec,.s x.ka x.kn x.kc] 242);have c:Hid (ksz x=x.lo+3):=rfl;go_enter func208,ntmps208;go_wp2;go_ret;exact⟨by rw[c.o];first|rfl|(congr 2;go_num),d⟩
theorem Fq(ea ec es S w)(hR:aH w S ea (aM es))(hS:lW S w)(hn:es.length<=1000000)(hc:es.length<=ec)(hf:∀x∈es,x.fits):
  cL 217 #[.s ea es ec,.func (.func 208) #[] #[]] w λe w'=>e=.r (.i (tot ksz es))/\bW w w':=by
 go_enter func217,ntmps217;go_wp2;go_loopw [5,10] (λa b wr=>∃j:Nat,a=.i (tot ksz (es.take j))/\b=.i j/\j<=es/\bW w wr) (λ_ b _=>es-(intOf b).toNat)
 case atStart=>exact⟨0,by simp[tot],rfl,AG _,AC _ _⟩
 case round =>
  obtain⟨j,rfl,rfl,hj,p⟩:=hrel;by_cases hlt:j<es
  .have⟨M,W,B,I,O,Q,K,N,J⟩:=(hR.on (vV p hS)).nod hlt;subst B;have⟨X,y⟩:=nM (es[j]);simp only[y]at O Q K N J;have g:=y▸hf _ (AA hlt);obtain⟨Wa,q,-,H,-⟩:=al1 wr (.cells #[.t X.lo,.t X.hi,.i X.place,.s X.ea X.en X.ec,.s X.ka X.kn X.kc] 242);have⟨Z,V,Y,T,R⟩:=cS H;have D:=q▸p.alloc p.size _;have E:=Da X Wa (η g.o);have k:tot ksz (es.take (j+1))=tot ksz (es.take j)+ksz X:=by rw[<-y];exact mF ksz es j hlt
   have G:=qJ ksz (es.take j) 27 (λx F=>rK (hf x (DD F)));have o:tot ksz (es.take j)<=27000000:=by
    have:(es.take j).length<=1000000:=by rw[AX];omega
    omega
   have z:=rK g;have⟨n,d⟩:=nM (tot ksz (es.take j));have⟨m,u⟩:=nM (ksz X);rw[d]at o;rw[u]at z;simp only[u]at E;have L:Hid (tot ksz (es.take (j+1))=n+m):=by rw[k,d,u];exact rfl
   simp only[d];go_wp2_with (apply E.m;rintro e U ⟨rfl,A⟩);go_roundw
   case rel=>exact⟨j+1,by rw[L.o];congr 1,ν,ω,D.tm A⟩
   case measure=>simp[intOf];omega
  .obtain rfl:j=es:=ω;have C:Hid (tot ksz (es.take es)=tot ksz es):=by rw[BN];exact rfl
   go_wp2;go_ret;exact⟨by first|rfl|(rw[<-C.o];rfl)|(rw[C.o];rfl)|(simp[C.o];done),p⟩
theorem Xo(ea ec es)(all:Nat)(S w)(hR:aH w S ea (aM es))(hS:lW S w)(hn:es.length<=1000000)(hc:es.length<=ec)(hf:∀x∈es,x.fits)(ha:250<tot ksz es)(ha2:all<=27000000):
  cL 218 #[.s ea es ec,.func (.func 208) #[] #[],.i all] w λe w'=>e=.r (.tuple #[.i (shN ksz all es 0),.i (tot ksz (es.take (shN ksz all es 0)))])/\bW w w':=by
 go_enter func218,ntmps218;go_wp2;go_loopw [8,9] (λa b wr=>∃j:Nat,b=.i (tot ksz (es.take j))/\a=.i j/\j<=shN ksz all es 0/\bW w wr) (λa _ _=>es-(intOf a).toNat)
 case atStart=>exact⟨0,by simp[tot],rfl,AG _,AC _ _⟩
 case round =>
  obtain⟨j,rfl,rfl,hj,A⟩:=hrel;have z:=Nat.lt_of_le_of_lt hj (qL ksz all es ha);have g:=Fw ksz all es 0 j hj z;have F:=z;obtain⟨L,I,Z,o,N,G,J,M,H⟩:=(hR.on (vV A hS)).nod F;subst Z;have y:=mF ksz es j z;have B:=hf _ (AA z);obtain⟨X,hX⟩:=nM (es[j]);simp only[hX]at N G J M H y B g;have Q:=rK B;obtain⟨n,u⟩:=nM (tot ksz (es.take j));obtain⟨m,O⟩:=nM (ksz X);have a0:n<=27000000:=by
   have h1:=qJ ksz (es.take j) 27 (λx hx=>rK (hf x (DD hx)));have h2:(es.take j).length<=1000000:=by rw[AX];omega
   omega
  simp only[u,EA,O]at g y Q⊢;have HM:Hid _:=y;have V:Hid _:=g;have E:∀W,bW wr W->On S wr W:=λW D=>vV D (λk hk=>jY (hS k hk) A.size);have R:Hid (∀W,bW wr W->W.c L (I+j * 5)=some (.t X.lo)/\W.c L (I+j * 5+1)=some (.t X.hi)/\W.c L (I+j * 5+2)=some (.i X.place)/\W.c L (I+j * 5+3)=some (.s X.ea X.en X.ec)/\W.c L (I+j * 5+4)=some (.s X.ka X.kn X.kc)):=λW D=>⟨(E W D).cell _ o |>.trans N,(E W D).cell _ o |>.trans G,(E W D).cell _ o |>.trans J,(E W D).cell _ o |>.trans M,(E W D).cell _ o |>.trans H⟩;have T:Hid (∀W,cL 208 #[.agg #[.t X.lo,.t X.hi,.i X.place,.s X.ea X.en X.ec,.s X.ka X.kn X.kc]] W λe w'=>e=.r (.i m)/\bW W w'):=λW=>by have h:=Da X W (η B.o);rw[O]at h;exact h
  have d:bW wr wr:=AC _ _;have C:¬j<shN ksz all es 0->Hid (shN ksz all es 0=j/\tot ksz (es.take (shN ksz all es 0))=n):=λh=>by
   have e:shN ksz all es 0=j:=ω;exact⟨e,by rw[e,u]⟩
  clear y hX hR u O E;by_cases hle1:2 * n+m<=all
  .have U:2 * (n:Int)+(m:Int)<=(all:Int):=ω;by_cases hle:n+m<=250
   .have K:(n:Int)+(m:Int)<=250:=ω;clear C g;go_wp2_with (refine Calls.m (T.o _) ?_;rintro e Y ⟨rfl,q⟩;have d:=d.tm q;obtain⟨N,G,J,M,H⟩:=R.o _ d);go_roundw
    case rel=>exact⟨j+1,by rw[HM.o];congr 1,ν,V.o.2 ⟨hle1,hle⟩,A.tm d⟩
    case measure=>simp[intOf];omega
   .have K:¬(n:Int)+(m:Int)<=250:=ω;have p:=C (λh=>hle (g.1 h).2);go_wp2_with (refine Calls.m (T.o _) ?_;rintro e Y ⟨rfl,q⟩;have d:=d.tm q;obtain⟨N,G,J,M,H⟩:=R.o _ d);go_ret2;exact⟨Of p.o.1.symm p.o.2.symm,A.tm d⟩
  .have U:¬2 * (n:Int)+(m:Int)<=(all:Int):=ω;have p:=C (λh=>hle1 (g.1 h).1);go_wp2_with (refine Calls.m (T.o _) ?_;rintro e Y ⟨rfl,q⟩;have d:=d.tm q;obtain⟨N,G,J,M,H⟩:=R.o _ d);go_ret2;exact⟨Of p.o.1.symm p.o.2.symm,A.tm d⟩
def qSo(w:World)(S:Bl)(v:Value)(ps:List (List MN)):Prop :=
 ∃qs:List (Pc MN),w.ownsRow 0 239 1 v qs.length (qs.map Pc.val)/\qs.map (·.l)=ps/\∀q∈qs,q.l.length<=q.c/\aH w S q.a (aM q.l)
theorem qLy(ea ec es S w)(hR:aH w S ea (aM es))(hS:lW S w)(hn:es.length<=1000000)(hc:es.length<=ec)(hf:∀x∈es,x.fits)(h250:∀x∈es,ksz x<=250):
  cL 207 #[.s ea es ec,.func (.func 208) #[] #[]] w λe w'=>∃v,e=.r v/\qSo w' S v (fA ksz es)/\bW w w'/\nW v w:=by
 have hT:=Fq ea ec es S w hR hS hn hc hf;have H:∀r:List MN,(∀x∈r,x∈es)->r.length<=es->tot ksz r<=27000000:=λr hr hl=>by
  have:=qJ ksz r 27 (λx hx=>rK (hf x (hr x hx)));omega
 go_enter func207,ntmps207;go_wp2_with (apply hT.m;rintro e w1 ⟨rfl,a8⟩);go_loopw [0,5,6] (λa p t wr=>∃(r:List MN) (ra:Option Addr) (u:Nat) (o:List (Pc MN)),a=.s ra r u/\r<=u/\t=.i (tot ksz r)/\aH w S ra (aM r)/\(∀x∈r,x∈es)/\r.length<=es/\o.length+r<=es/\fA ksz es=o.map (·.l)++fA ksz r/\wr.ownsRow 0 239 1 p o (o.map Pc.val)/\(∀q∈o,q.l<=q.c/\aH w S q.a (aM q.l))/\bW w wr/\∀k,p.ownBlock=some k->w<=k) (λa _ _ _=>match a with|.s _ n _=>n|_=>0)
 case atStart=>exact⟨es,ea,ec,[],rfl,hc,rfl,hR,λ_ h=>h,jU _,σ,σ,AO _ _ _ _,σ,a8,ι⟩
 case round =>
  obtain⟨r,ra,u,o,rfl,a5,rfl,A,B,ad,aj,U,g,E,D,d⟩:=hrel;have ae:=A.on (vV D hS);have aa:=λb h=>jY (hS b h) D.size;have a9:=H r B ad;have F:Hid _:=U;clear U;by_cases hgt:250<tot ksz r
  .have a2:0<r.length:=by
    cases r with
    |nil=>simp[tot]at hgt
    |cons x r=>simp
   obtain⟨K,O,rfl,ak⟩:=A.addr (Bh a2);have G:=λx hx=>h250 x (B x hx);have C:=Xo (some (aD K O)) u r (tot ksz r) S wr ae aa ω a5 (λx hx=>hf x (B x hx)) ω ω;have V:=sE ksz r ω G;have R:=wZ ksz (tot ksz r) r 0;have W:=Bw ksz r G hgt;have L:=Aq ksz r (shN ksz (tot ksz r) r 0);have⟨n,a3⟩:=nM (shN ksz (tot ksz r) r 0);rw[a3]at C V R W L;have⟨f,a7⟩:=nM (tot ksz (r.take n));rw[a7]at C L;have⟨t,ht⟩:=nM (tot ksz r);rw[ht]at C hgt a9 L;simp only[ht];have a6:(t:Int) > 250:=ω
   have a4:∀z:Int,z=((t:Nat):Int)->cL 218 #[.s (some (aD K O)) r u,.func (.func 208) #[] #[],.i z] wr λe w'=>e=.r (.tuple #[.i n,.i f])/\bW wr w':=λz hz=>hz▸C;have ab:Hid _:=W;have HF:Hid (tot ksz (r.drop n)=t-f):=by show _=_;omega
   have ah:f<=t:=ω
   have ag:(n:Int)<=(u:Int):=ω
   have ac:(n:Int)<=(r.length:Int):=ω
   have a1:(r.drop n).length=r-n:=BJ ..;have N:Hid ((r.drop n).length=r-n):=a1;have a0:Hid ((r.take n).length=n):=by show _=_;rw[AX];omega
   clear W L a3 a7 ht hT H a1 C;obtain⟨pa,Q,rfl⟩:=aG g;have hQ:o.length+1<=1000001:=ω
   go_wp2_with (first
    |(go_at_call 218;apply(a4 _ (by first|rfl|omega)).m;clear a4;rintro e w2 ⟨rfl,I⟩;have f2:Fr Bl.none wr w2:=AB I;have o2:=aS g (f2.on (Z:=λk=>Value.ownBlock (.s pa o Q)=some k) (λk X=>⟨aL g X,λh=>h⟩)) (λk X=>X))
    |(at_builtin;apply gQ w2 rfl (.tmp 21) (.tmp 25) 269 239 _ 1 24 rfl underlying269 Ty rfl δ (.s pa o Q) o (o.map Pc.val) rfl o2 [.s (some (aD K O)) n u] rfl rfl υ ω ω;intro v3 w3 M;obtain⟨g3,k3,rfl⟩:=M.shape δ))
   have b3:=(D.tm I).t (M.fr.below (vJ D.size I.size) d);go_roundw
   case rel =>
    refine⟨r.drop n,(if u=n then some (aD K O) else some (aD K (O+n * 5))),u-n,o++[⟨some (aD K O),u,r.take n⟩],by rw[N.o],by rw[N.o];omega,by rw[HF.o];congr 1;omega,?_,λx hx=>B x (BV hx),by rw[N.o];omega,by rw[N.o,jK,AP];omega,by rw[F.o,ab.o];simp,?_,?_,b3,?_⟩
    .by_cases hrn:u=n
     .exact .inl (by rw[CW ω];rfl)
     .rw[AQ hrn]
      rw[Cv]at A⊢;exact A.dropZ n (Sc r) R
    .have e1:Pc.val (⟨some (aD K O),u,r.take n⟩:Pc MN)=.s (some (aD K O)) n u:=by unfold Pc.val;simp only[a0.o]
     rw[BL,jK,AP,BE,DB,e1];exact M.row
    .intro q y;rcases AN.1 y with y|y
     .exact E q y
     .obtain rfl:=AL.1 y;refine⟨by show(r.take n).length<=u;rw[a0.o];omega,?_⟩;show aH w S (some (aD K O)) (aM (r.take n));rw[Cv]at A⊢;exact A.takeZ (z:=5) n
    .intro k X;rcases M.lies k X with h|h
     .exact d k h
     .exact vJ D.size (vJ I.size h)
   case measure=>simp;omega
  .have J:=kF ksz r ω;obtain⟨pa,Q,rfl⟩:=aG g;by_cases a2:0<r.length
   .have Y:Hid (fA ksz r=[r]):=by show _=_;rw[J,AQ ω]
    have⟨t,ht⟩:=nM (tot ksz r);simp only[ht]at hgt⊢;have a6:¬(t:Int) > 250:=ω
    have hQ:o.length+1<=1000001:=ω
    clear J ht hT H;go_wp2_with (at_builtin;apply gQ wr rfl (.tmp 36) (.tmp 38) 269 239 _ 1 24 rfl underlying269 Ty rfl δ (.s pa o Q) o (o.map Pc.val) rfl g [.s ra r u] rfl rfl υ ω ω;intro v3 w3 M;obtain⟨g3,k3,rfl⟩:=M.shape δ);go_ret;have b3:=D.t (M.fr.below D.size d);refine⟨_,rfl,⟨o++[⟨ra,u,r⟩],?_,by rw[F.o,Y.o];simp,?_⟩,b3,?_⟩
    .rw[BL,jK,AP,BE,DB];exact M.row
    .intro q y;rcases AN.1 y with y|y
     .exact⟨(E q y).1,(E q y).2.on (vV b3 hS)⟩
     .obtain rfl:=AL.1 y;exact⟨a5,A.on (vV b3 hS)⟩
    .intro k X
     rcases M.lies k X with h|h
     .exact d k h
     .exact vJ D.size h
   .have T:r.length=0:=ω
    have Y:Hid (fA ksz r=[]):=by show _=_;rw[J,AU T]
    obtain rfl:=AH T;clear J hT H;go_wp2;go_ret;exact⟨_,rfl,⟨o,g,by rw[F.o,Y.o];simp,λq y=>⟨(E q y).1,(E q y).2.on (vV D hS)⟩⟩,D,d⟩
def jI(es:List En):ByteArray:=match es with|[]=>⟨#[]⟩|x :: _=>x.e.key
def mL(q:Pc En):MN:=⟨jI q.l,⟨#[]⟩,0,q.a,q.l.length,q.c,none,0,0⟩
theorem Ul{es}(h:0<es.length):jI es=es[0].e.key:=by
 cases es with
 |nil=>simp at h
 |cons x l=>rfl
theorem zD {B:Nat}{e:TypeId}{c:Nat}{n:Nat}{xs:List Value}(h:w.ownsRow B e z (.s a n c) n xs){u:Value}(k:xs[j]?=some u):∃g,a=some (aD g 0)/\g<w/\n<=c/\w.c g j=some u:=by
 have⟨g,b,d,f,i⟩:=gU h k;exact⟨g,b,d,f,i⟩
theorem qN(ea ec es S w)(hR:aH w S ea (aU es))(hS:lW S w)(hn:es.length<=1000000)(hc:es.length<=ec)(hf:∀x∈es,x.fits)(h250:∀x∈es,esz x<=250):
  cL 189 #[.s ea es ec] w λe w'=>∃v,∃qs:List (Pc En),e=.r v/\w'.ownsRow 0 242 5 v qs (aM (qs.map mL))/\qs.map (·.l)=fA esz es/\(∀q∈qs,q.l<=q.c/\aH w' S q.a (aU q.l))/\bW w w'/\nW v w:=by
 have d:=Ad esz es h250;go_enter func189,ntmps189;go_wp2_with (apply (qLz ea ec es S w hR hS hn hc hf h250).m;rintro e J ⟨v,rfl,⟨qs,m,H,E⟩,o,U⟩;obtain⟨pa,a4,rfl⟩:=aG m);have a1:qs.length<=es.length+1:=by
  have h1:qs.length=(fA esz es).length:=by rw[<-H];simp
  have h2:=mO esz es h250;have h3:(fA esz es).length<=(fA esz es).flatten.length:=by
   rw[List.length_flatten];generalize fA esz es=ps at d;clear h1 h2 H;induction ps with
   |nil=>simp
   |cons p ps ih =>
    have:=ih (λp hp=>d p (by simp[hp]));have hp:=BX.2 (d p σ);simp;omega
  rw[h2]at h3;omega
 have HL:Hid _:=H;have R:∀q∈qs,0<q.l.length:=λq E=>BX.2 (d q.l (by rw[<-H];exact LX (f:=λq:Pc En=>q.l) E));clear H d;go_loopw [3,9] (λa b wr=>∃j:Nat,b=.i j/\j<=qs.length/\wr.ownsRow 0 242 5 a j (aM ((qs.take j).map mL))/\bW J wr/\∀k,a.ownBlock=some k->J<=k) (λ_ b _=>qs-(intOf b).toNat)
 case atStart=>exact⟨0,rfl,AG _,AO _ _ _ _,AC _ _,ι⟩
 case round =>
  obtain⟨j,rfl,hj,L,A,X⟩:=hrel;obtain⟨aa,ac,rfl⟩:=aG L;by_cases hlt:j<qs
  .have⟨Q,M⟩:=nM (qs[j]);have C:=M▸AA hlt;have hu:(qs.map Pc.val)[j]?=some (.s Q.a Q.l Q.c):=by rw[BM,jQ hlt,M];rfl
   have⟨g,hg,O,a3,t⟩:=zD m hu;subst hg;have T:=((vV (Y:=λk=>k<J) A (λk h=>h)).cell _ O).t t;have V:=λb h=>jY (hS b h) o.size;have G:=((E Q C).2.on (vV A V));have D:=R Q C;have y:0<(Q.l.map (·.e)).length:=by simpa using D
   have⟨rb,ro,F,a2,N,_,_,_⟩:=G.ent y;rw[EF,<-Ul D]at N;simp only[EO,EC]at N;obtain⟨Qa,Qc,Z⟩:=Q;simp only at F D y T N;subst F;have⟨K,W⟩:=nM (jI Z);rw[W]at N;have a0:Hid (aM ((qs.take (j+1)).map mL)=aM ((qs.take j).map mL)++[.t K,.t ⟨#[]⟩,.i 0,.s (some (aD rb ro)) Z Qc,.n]):=by
    rw[AJ hlt,M,BL,BE,DB,Cu];simp only[mL,MN.cells,W];rfl
   clear M C hu t m E G W;go_wp2_with (at_builtin;apply gQ wr rfl (.tmp 13) (.tmp 21) 239 242 _ 5 88 rfl underlying239 jD rfl δ (.s aa j ac) j (aM ((qs.take j).map mL)) rfl L [.t K,.t ⟨#[]⟩,.i 0,.s (some (aD rb ro)) Z Qc,.n] rfl rfl υ ω ω;intro v3 w3 I;obtain⟨g3,k3,rfl⟩:=I.shape δ);go_roundw
   case rel =>
    refine⟨j+1,ν,ω,a0.o▸I.row,A.t (I.fr.below A.size X),?_⟩;intro k h;rcases I.lies k h with h|h
    .exact X k h
    .exact vJ A.size h
   case measure=>simp[intOf];omega
  .obtain rfl:j=qs:=ω;go_wp2;go_ret;refine⟨_,qs,rfl,by rw[BN]at L;exact L,HL,λq h=>⟨(E q h).1,(E q h).2.on (vV A (λb h=>jY (hS b h) o.size))⟩,o.tm A,λk h=>vJ o.size (X k h)⟩
def Ex(ms:List MN):ByteArray:=match ms with|[]=>⟨#[]⟩|x :: _=>x.lo
def mP(q:Pc MN):MN:=⟨Ex q.l,⟨#[]⟩,0,none,0,0,q.a,q.l.length,q.c⟩
theorem qAb{es}(h:0<es.length):Ex es=es[0].lo:=by
 cases es with
 |nil=>simp at h
 |cons x l=>rfl
theorem nC(ea ec es S w)(hR:aH w S ea (aM es))(hS:lW S w)(hn:es.length<=1000000)(hc:es.length<=ec)(hf:∀x∈es,x.fits)(h250:∀x∈es,ksz x<=250):
  cL 192 #[.s ea es ec] w λe w'=>∃v,∃qs:List (Pc MN),e=.r v/\w'.ownsRow 0 242 5 v qs (aM (qs.map mP))/\qs.map (·.l)=fA ksz es/\(∀q∈qs,q.l<=q.c/\aH w' S q.a (aM q.l))/\bW w w'/\nW v w:=by
 have d:=Ad ksz es h250;go_enter func192,ntmps192;go_wp2_with (apply (qLy ea ec es S w hR hS hn hc hf h250).m;rintro e I ⟨v,rfl,⟨qs,m,M,E⟩,o,U⟩;obtain⟨pa,a4,rfl⟩:=aG m);have a1:qs.length<=es.length+1:=by
  have h1:qs.length=(fA ksz es).length:=by rw[<-M];simp
  have h3:(fA ksz es).length<=(fA ksz es).flatten.length:=by
   rw[List.length_flatten];generalize fA ksz es=ps at d;induction ps with
   |nil=>simp
   |cons p ps ih =>
    have:=ih (λp hp=>d p (by simp[hp]));have hp:=BX.2 (d p σ);simp;omega
  rw[mO ksz es h250]at h3;omega
 have HL:Hid (qs.map (·.l)=fA ksz es):=M;have R:∀q∈qs,0<q.l.length:=λq E=>BX.2 (d q.l (by rw[<-M];exact LX (f:=λq:Pc MN=>q.l) E));clear M d;go_loopw [3,9] (λa b wr=>∃j:Nat,b=.i j/\j<=qs.length/\wr.ownsRow 0 242 5 a j (aM ((qs.take j).map mP))/\bW I wr/\∀k,a.ownBlock=some k->I<=k) (λ_ b _=>qs-(intOf b).toNat)
 case atStart=>exact⟨0,rfl,AG _,AO _ _ _ _,AC _ _,ι⟩
 case round =>
  obtain⟨j,rfl,hj,J,A,X⟩:=hrel;obtain⟨aa,ac,rfl⟩:=aG J;by_cases hlt:j<qs
  .have⟨Q,L⟩:=nM (qs[j]);have C:=L▸AA hlt;have hu:(qs.map Pc.val)[j]?=some (.s Q.a Q.l Q.c):=by rw[BM,jQ hlt,L];rfl
   have⟨g,hg,O,a3,t⟩:=zD m hu;subst hg;have T:=((vV (Y:=λk=>k<I) A (λk h=>h)).cell _ O).t t;have V:=λb h=>jY (hS b h) o.size;have G:=((E Q C).2.on (vV A V));have D:=R Q C;have y:=D;have⟨rb,ro,F,a2,N,k1,k2,k3,k4⟩:=G.nod y;rw[<-qAb D]at N;clear k1 k2 k3 k4;simp only[EO,EC]at N;have⟨Qa,Qc,Z⟩:=Q;simp only at F D y T N;subst F;have⟨K,W⟩:=nM (Ex Z);rw[W]at N;have a0:Hid (aM ((qs.take (j+1)).map mP)=aM ((qs.take j).map mP)++[.t K,.t ⟨#[]⟩,.i 0,.n,.s (some (aD rb ro)) Z Qc]):=by
    rw[AJ hlt,L,BL,BE,DB,Cu];simp only[mP,MN.cells,W];rfl
   clear L C hu t m E G W;go_wp2_with (at_builtin;apply gQ wr rfl (.tmp 13) (.tmp 22) 239 242 _ 5 88 rfl underlying239 jD rfl δ (.s aa j ac) j (aM ((qs.take j).map mP)) rfl J [.t K,.t ⟨#[]⟩,.i 0,.n,.s (some (aD rb ro)) Z Qc] rfl rfl υ ω ω;intro v3 w3 H;obtain⟨g3,k3,rfl⟩:=H.shape δ);go_roundw
   case rel =>
    refine⟨j+1,ν,ω,a0.o▸H.row,A.t (H.fr.below A.size X),?_⟩;intro k h;rcases H.lies k h with h|h
    .exact X k h
    .exact vJ A.size h
   case measure=>simp[intOf];omega
  .obtain rfl:j=qs:=ω;go_wp2;go_ret;refine⟨_,qs,rfl,by rw[BN]at J;exact J,HL,λq h=>⟨(E q h).1,(E q h).2.on (vV A (λb h=>jY (hS b h) o.size))⟩,o.tm A,λk h=>vJ o.size (X k h)⟩
inductive NT where
 |kept (t:T) (s:Sp)
 |leaf (s:Sp) (es:List En)
 |bran (s:Sp) (ks:List NT)
def NT.sp:NT->Sp
 |.kept _ s=>s
 |.leaf s _=>s
 |.bran s _=>s
def gY(n:NT):Nat:=n.sp.lo.size+3
def kO:List NT->ByteArray
 |[]=>⟨#[]⟩
 |n :: _=>n.sp.lo
def Sr(p:List En):NT:=.leaf ⟨jI p,⟨#[]⟩⟩ p
def Je(p:List NT):NT:=.bran ⟨kO p,⟨#[]⟩⟩ p
def dE(es:List En):List NT:=(fA esz es).map Sr
def eL(ns:List NT):List NT:=(fA gY ns).map Je
def dP:NT->Bool
 |.kept _ _=>false
 |.leaf _ es=>decide (tot esz es<62)
 |.bran _ ks=>decide (tot gY ks<62)
def NT.ents0:NT->List En
 |.kept (.leaf _ es) _=>es
 |.kept (.branch _ _ _) _=>[]
 |.leaf _ es=>es
 |.bran _ _=>[]
variable {J:List NT->Prop} {acc:List NT}
def rM(tog:NT->NT->List NT):List NT->List NT->List NT
 |[],next=>next
 |l :: acc,next=>match next with
  |[m]=>if dP l=true\/dP m=true then rM tog acc (tog l m) else (l :: acc).reverse++[m]
  |_=>(l :: acc).reverse++next
def uT(tog:NT->NT->List NT)(acc next:List NT):List NT:=rM tog acc.reverse next
def zU(tog:NT->NT->List NT)(acc:List NT)(n:NT):List NT:=uT tog acc [n]
def rN(tog:NT->NT->List NT)(ns:List NT):List NT:=ns.foldl (zU tog) []
theorem qGg {a l m}(h:dP l=true\/dP m=true):uT a (acc++[l]) [m]=uT a acc (a l m):=by
 rw[uT,LY,LC,LH];exact AU h
theorem qGf {a l m}(h:¬(dP l=true\/dP m=true)):uT a (acc++[l]) [m]=(acc++[l])++[m]:=by
 rw[uT,LY,LC,LH];apply(AQ h).t;rw[JF,JQ]
theorem Zm{c acc next}(h:next.length≠1):uT c acc next=acc++next:=by
 rcases LI acc with rfl|⟨a,b,rfl⟩
 .rfl
 .rw[uT,LJ,LY,LC,LH];match next,h with
  |[],_=>show(b :: a.reverse).reverse++[]=_;rw[JF,JQ]
  |[_],h=>grind
  |x :: y :: r,_=>show(b :: a.reverse).reverse++_=_;rw[JF,JQ]
theorem Df {a}(d:∀c l n B,J (c++l :: n :: B)->J (c++(a l n++B))):∀(acc next B:List NT),J (acc.reverse++(next++B))->J (rM a acc next++B)
 |[],next,B,h=>by simpa[rM] using h
 |l :: acc,next,B,h=>by
  match next,h with
  |[],h=>simpa[rM] using h
  |[m],h =>
   by_cases hs:dP l=true\/dP m=true
   .have b:rM a (l :: acc) [m]=rM a acc (a l m):=AU hs;rw[b];exact Df d acc (a l m) B (d _ _ _ _ ζ)
   .have b:rM a (l :: acc) [m]=(l :: acc).reverse++[m]:=AQ hs;grind
  |x :: y :: r,h=>simpa[rM] using h
theorem Dd {b}(c:∀a l n B,J (a++l :: n :: B)->J (a++(b l n++B))){n B}(h:J (acc++n :: B)):J (zU b acc n++B):=
 Df c acc.reverse [n] B ζ
theorem Hu {a}(c:∀b l n B,J (b++l :: n :: B)->J (b++(a l n++B))):∀{ns acc:List NT},J (acc++ns)->J (ns.foldl (zU a) acc)
 |[],acc,h=>ζ
 |n :: ns,acc,h=>Hu c (ns:=ns) (acc:=zU a acc n) (Dd c h)
theorem uS {b}(c:∀a l n B,J (a++l :: n :: B)->J (a++(b l n++B))){ns}(h:J ns):J (rN b ns):=Hu c (ns:=ns) (acc:=[]) h
def qNg(a b:NT):List NT:=dE (a.ents0++b.ents0)
def Ut(ns:List NT):List En:=ns.flatMap NT.ents0
def En.good(fs:Fs)(x:En):Prop:=lt ⟨#[]⟩ x.e.key=true/\x.e.key.size<=24 /\
  ((x.e.over=0/\x.ch=[]/\x.e.size=(x.e.val.size:Int)/\x.e.val.size<=400) \/
   (x.e.val=⟨#[]⟩/\bF x.e.over=true/\∃size over:Nat,x.e.size=size/\x.e.over=over/\60<size/\size<=400/\eV fs over size x.ch))
variable {es:List En} {x:En}
theorem Ue (h:x.good fs):esz x<=87:=by
 obtain⟨_,c,h|⟨d,_,f,e,a,_,b,_⟩⟩:=h
 .have⟨_,_,a,b⟩:=h;unfold esz;split<;>omega
 .unfold esz;grind
theorem rP (h:x.good fs):x.fits:=by
 obtain⟨_,a,h|⟨b,_⟩⟩:=h
 .exact⟨a,h.2.2.2⟩
 .refine⟨a,?_⟩;rw[b];decide
def Ok0(fs:Fs):NT->Prop
 |.kept (.leaf p es) s=>aZ fs 0 (.leaf p es) s
 |.kept (.branch _ _ _) _=>False
 |.leaf s es=>es≠[]/\s.lo=jI es/\cT es/\tot esz es<=250/\∀x∈es,x.good fs
 |.bran _ _=>False
def qSk(a b:NT):Prop:=∀x∈a.ents0,lt x.e.key b.sp.lo=true
structure Lst (fs:Fs) (ns:List NT):Prop where
 ok:∀n∈ns,Ok0 fs n
 lo:∀n∈ns,∀x∈n.ents0,le n.sp.lo x.e.key=true
 sep:ns.Pairwise qSk
theorem qEk {l}:cT (x :: l)↔(∀a∈l,lt x.e.key a.e.key=true)/\cT l:=BD
theorem Cp{l m}:cT (l++m)↔cT l/\cT m/\∀x∈l,∀a∈m,lt x.e.key a.e.key=true:=CO
theorem Uk (h:cT es):∀x∈es,le (jI es) x.e.key=true:=by
 intro x a;cases es with
 |nil=>simp at a
 |cons y l =>
  rcases AS.1 a with rfl|a
  .exact bG _
  .exact iF ((qEk.1 h).1 x a)
theorem sW (h:es≠[]):∃x∈es,jI es=x.e.key:=by
 cases es with
 |nil=>grind
 |cons y l=>exact⟨y,σ,rfl⟩
theorem Gk:∀{ps:List (List En)},cT ps.flatten->(∀x∈ps.flatten,x.good fs)->(∀p∈ps,p≠[])->(∀p∈ps,tot esz p<=250)->Lst fs (ps.map Sr)
 |[],_,_,_,_=>⟨σ,σ,σ⟩
 |p :: ps,hr,hg,hne,hf=>by
  rw[FU]at hr hg;have⟨e,g,h⟩:=Cp.1 hr;have d:=Gk g (λx c=>hg x ζ) (λq b=>hne q (by simp[b])) (λq b=>hf q (by simp[b]));have i:Ok0 fs (Sr p):=⟨hne p σ,rfl,e,hf p σ,λx c=>hg x (by simp[c])⟩;refine⟨?_,?_,?_⟩
  .rw[BE];intro n a;rcases AS.1 a with rfl|a
   .exact i
   .exact d.ok n a
  .rw[BE];intro n a;rcases AS.1 a with rfl|a
   .exact Uk e
   .exact d.lo n a
  .rw[BE];refine BD.2 ⟨λn a x c=>?_,d.sep⟩;obtain⟨q,b,rfl⟩:=AY.1 a;have⟨k,j,f⟩:=sW (hne q (by simp[b]));show lt x.e.key (jI q)=true;rw[f];exact h x c k (GQ.2 ⟨q,b,j⟩)
theorem qA (a:∀x∈es,x.good fs):∀x∈es,esz x<=250:=λx b=>by have:=Ue (a x b);omega
theorem So (c:cT es)(a:∀x∈es,x.good fs):Lst fs (dE es):=by
 have b:=mO esz es (qA a);exact Gk ζ ζ (Ad esz es (qA a)) (Vi esz es)
theorem Pj(ps:List (List En)):Ut (ps.map Sr)=ps.flatten:=by
 induction ps with
 |nil=>rfl
 |cons p ps ih=>simp only[Ut,BE,AK,FU]at ih⊢;rw[ih];rfl
theorem Oy (a:∀x∈es,x.good fs):Ut (dE es)=es:=by
 rw[dE,Pj,mO esz es (qA a)]
theorem Yy (a:∀x∈es,x.good fs):∀n∈dE es,∃x∈es,n.sp.lo=x.e.key:=by
 intro n d;obtain⟨p,b,rfl⟩:=AY.1 d;have⟨x,e,c⟩:=sW (Ad esz es (qA a) p b);refine⟨x,?_,c⟩;rw[<-mO esz es (qA a)];exact GQ.2 ⟨p,b,e⟩
theorem kR {s}(h:aZ fs 0 (.leaf p es) s):∀x∈es,x.good fs:=by
 have⟨g,r,t,q,_,_,v⟩:=h;intro x f;have⟨_,u⟩:=Ub r t;have⟨n,o,e⟩:=u x.e ζ;refine⟨n,o,?_⟩;have⟨z,k,w,i,y,j⟩:=v x f;simp only[qS,DZ,AM,CU,BO]at e;rcases e with⟨⟨a,c⟩,d⟩|⟨⟨⟨a,c⟩,d⟩,A⟩
 .grind
 .have:k≠0:=by
   intro l;rw[i,l]at a;simp[bF]at a
  rcases j with⟨m,_⟩|⟨_,b⟩
  .omega
  .exact .inr ⟨by exact mN.1 c,a,z,k,w,i,ω,y,b⟩
theorem Sa {n}(h:Ok0 fs n):n.ents0≠[]/\cT n.ents0/\∀x∈n.ents0,x.good fs:=by
 cases n with
 |kept t s =>
  cases t with
  |leaf p es=>exact⟨by have⟨g,_,_,_,a,_⟩:=h;exact a,eC (h:=0) h,kR h⟩
  |branch=>exact h.elim
 |leaf s es=>exact⟨h.1,h.2.2.1,h.2.2.2.2⟩
 |bran=>exact h.elim
theorem qBk {o1 a:Obj}:((w.alloc o1).alloc a).1[w.1.size]?=some o1/\((w.alloc o1).alloc a).1[w.1.size+1]?=some a/\bW w ((w.alloc o1).alloc a):=
 ⟨aP _ (aB _ _),wD _ _ _ σ,(bA _ _).alloc σ _⟩
theorem tS(root:Int)(β:Nat)(b:Option Addr)(d c:Nat)(q:Sp)(w:World):
  cL 98 #[.agg #[.p β 0,.i root,.s b d c],.agg #[.t q.lo,.t q.hi]] w λe w' =>
   e=.r (.func (.func 134) #[] #[.p w 0,.p (w+1) 0]) /\
   cW w' w #[.p β 0,.i root,.s b d c] 90/\cW w' (w+1) #[.t q.lo,.t q.hi] 154/\bW w w':=by
 have f:∀a,a=((w.alloc (.cells #[.p β 0,.i root,.s b d c] 90)).alloc (.cells #[.t q.lo,.t q.hi] 154)) ->
   (cW a w #[.p β 0,.i root,.s b d c] 90/\cW a (w+1) #[.t q.lo,.t q.hi] 154/\bW w a):=by
  rintro a rfl;exact qBk
 go_enter func98,ntmps98;go_wp2;go_ret;exact⟨rfl,f _ rfl⟩
theorem wN(f:Nat)(g:Array Value)(b:Option Addr)(d c:Nat)(w:World):
  cL 175 #[.func (.func f) #[] g,.s b d c] w λe w' =>
   e=.r (.func (.func 195) #[] #[.p (w+1) 0,.p w.1.size 0]) /\
   cW w' w #[.func (.func f) #[] g] 151/\cW w' (w+1) #[.s b d c] 88/\bW w w':=by
 have h:∀a,a=((w.alloc (.cells #[.func (.func f) #[] g] 151)).alloc (.cells #[.s b d c] 88)) ->
   (cW a w #[.func (.func f) #[] g] 151/\cW a (w+1) #[.s b d c] 88/\bW w a):=by
  rintro a rfl;exact qBk
 go_enter func175,ntmps175;go_wp2;go_ret;exact⟨rfl,h _ rfl⟩
theorem Qo(b:Option Addr)(d c:Nat)(w:World):
  cL 205 #[.s b d c] w λe w' =>
   e=.r (.func (.func 214) #[] #[.p w 0]) /\
   cW w' w #[.s b d c] 67/\bW w w':=by
 have f:∀a,a=(w.alloc (.cells #[.s b d c] 67))->(cW a w #[.s b d c] 67/\bW w a):=by
  rintro a rfl;exact⟨aB _ _,bA _ _⟩
 go_enter func205,ntmps205;go_wp2;go_ret;exact⟨rfl,f _ rfl⟩
theorem lF{cs}(h:cJ cs)(q:Sp):cJ (dH cs q):=ES _ h
theorem qJp(cs:List Ch)(q:Sp):(dH cs q).length<=cs:=LK _ _
def RdE(S:Bl)(β:Nat)(sv lv:Value)(w w':World):Bl:=λk=>S k\/fpF β sv lv k\/(w.1.size<=k/\k<w'.1.size)
theorem Kh(β:Nat)(sv lv:Value)(fs:Fs)(root:Nat)(h:Option Addr)(n:Nat)(cs:List Ch)(q:Sp)(o:Option (Nat×T))(E:o≠none->(fs.life==0)=false)(F:bO fs root o)(S:Bl)(w j d:World)(p:aA w β sv lv fs)(z:aH w S h (cs.flatMap Ch.cells))(A:lW S w)(hr:cJ cs)(hn:cs.length<=1000000)(e f:Nat)(v:cW j e #[.p β 0,.i root,.s h cs n] 90)(t:cW j (e+1) #[.t q.lo,.t q.hi] 154)(l:bW j d)(a:Option Addr)(c:Nat)(k:Km S h cs a c (dH cs q))(s:cW d f #[.func (.func 134) #[] #[.p e 0,.p (e+1) 0]] 151)(r:cW d (f+1) #[.s a (dH cs q) c] 88)(m:bW w d)(C:w<=e)(B:w<=f):
  nG prog 195 #[.p (f+1) 0,.p f 0] qF (bJ (dB q o) (dH cs q)) (RdE S β sv lv w d) d:=by
 have x:=(l.block e (gL v)).t v;have u:=(l.block (e+1) (gL t)).t t;have y:=Cm β sv lv fs root h cs n q o E F e (e+1) (RdE S β sv lv w d) d x u (p.on (vV m (λi g=>p.lies i g))) (.inr (.inr ⟨C,(gL x)⟩)) (.inr (.inr ⟨ω,(gL u)⟩)) (λi g=>.inr (.inl g));exact Lq _ _ (enters_of func134 κ rfl) _ _ (f+1) f a c (dH cs q) S (RdE S β sv lv w d) d y r s (k.2.1 _ (z.on (vV m A))) (lF hr q) (vJ (qJp cs q) hn) k.1 k.2.2 (.inr (.inr ⟨ω,(gL r)⟩)) (.inr (.inr ⟨B,(gL s)⟩)) (λi g=>.inl g) (λi g=>g)
theorem eR{B:Nat}{W a c:World}(b:Below B W a)(d:B<=W)(e:bW a c):Below B W c:=b.t (e.m (vJ d b.size))
theorem Dn(β:Nat)(root:Nat)(i:Option Addr)(o:Nat)(cs:List Ch)(q:Sp)(S:Bl)(w:World)(z:aH w S i (cs.flatMap Ch.cells))(A:lW S w)(hr:cJ cs)(hn:cs.length<=1000000)(N:cs<=o)(O:(i=none/\o=0)\/∃b Q,i=some (aD b Q))(Z:Array Value->World->Prop)(y:∀(f u:World) (m s:Nat),cW f m #[.p β 0,.i root,.s i cs o] 90->cW f (m+1) #[.t q.lo,.t q.hi] 154->bW f u->∀(a:Option Addr) (c:Nat),Km S i cs a c (dH cs q)->cW u s #[.func (.func 134) #[] #[.p m 0,.p (m+1) 0]] 151->cW u (s+1) #[.s a (dH cs q) c] 88->bW w u->w<=m->w<=s->Z #[.p (s+1) 0,.p s 0] u):
  cL 165 #[.agg #[.p β 0,.i root,.s i cs o],.t q.lo,.t q.hi] w λe w'=>∃C,e=.r (.func (.func 195) #[] C)/\Z C w'/\bW w w':=by
 have⟨g,B⟩:=nM (w.alloc (.cells #[.p β 0,.i root,.s i cs o] 90));have r:=B▸(bA _ _);have x:=B▸aB w _;have⟨X,Y,J⟩:=eM x;have k:=(gL x);have v:∀W,Below (w+1) g W->bW w W:=λW h=>r.t (h.m (DM _));have d:Below (w+1) g g:=AC _ _;go_enter func165,ntmps165;go_wp2;go_region_with (first
  |(go_at_call 98;apply((λW=>tS root β i cs o q W) _).m;rintro e f ⟨rfl,V,U,t⟩;have j:bW f f:=AC _ _;have d:=(by first|exact eR d k t|exact eR d.drew k t|exact eR d.drew.drew k t);have⟨G,H,I⟩:=eM ((d.block w (DJ _)).t x))
  |(go_at_call 176;apply((λW (h:Below (w+1) g W)=>Fg i o cs q S W (z.on (vV (v W h) A)) (λb M=>jY (A b M) (v W h).size) hr hn N O) _ (by first|exact d|exact d.drew|exact d.drew.drew)).m;rintro e D ⟨a,c,rfl,P,l⟩;try (have j:=(by first|exact eR j (jU _) l|exact eR j.drew (jU _) l|exact eR j.drew.drew (jU _) l));have d:=(by first|exact eR d k l|exact eR d.drew k l|exact eR d.drew.drew k l);have⟨G,H,I⟩:=eM ((d.block w (DJ _)).t x))
  |(go_at_call 175;apply((λm a n c W=>wN 134 #[.p m 0,.p (m+1) 0] a n c W) _ _ _ _ _).m;rintro e E ⟨rfl,T,R,p⟩;have j:=(by first|exact eR j (jU _) p|exact eR j.drew (jU _) p|exact eR j.drew.drew (jU _) p);have d:=(by first|exact eR d k p|exact eR d.drew k p|exact eR d.drew.drew k p)))
 all_goals go_wp2
 all_goals go_ret
 all_goals exact⟨_,rfl,y _ _ _ _ V U j _ _ P T R (v _ d) (by first|exact r.size|exact vJ r.size l.size) (by first|exact vJ r.size (vJ t.size l.size)|exact vJ r.size (vJ l.size t.size)),v _ d⟩
theorem Aa(β:Nat)(sv lv:Value)(fs:Fs)(root:Nat)(d:Option Addr)(f:Nat)(cs:List Ch)(q:Sp)(o:Option (Nat×T))(v:o≠none->(fs.life==0)=false)(x:bO fs root o)(S:Bl)(w:World)(u:aA w β sv lv fs)(h:aH w S d (cs.flatMap Ch.cells))(i:lW S w)(hr:cJ cs)(hn:cs.length<=1000000)(r:cs<=f)(s:(d=none/\f=0)\/∃b y,d=some (aD b y)):
  cL 165 #[.agg #[.p β 0,.i root,.s d cs f],.t q.lo,.t q.hi] w λe w'=>∃g,e=.r (.func (.func 195) #[] g)/\nG prog 195 g qF (bJ (dB q o) (dH cs q)) (RdE S β sv lv w w') w'/\bW w w' :=
 Dn β root d f cs q S w h i hr hn r s (λg w'=>nG prog 195 g qF (bJ (dB q o) (dH cs q)) (RdE S β sv lv w w') w') (λz A m l E D j a c t C B k n p=>Kh β sv lv fs root d f cs q o v x S w z A u h i hr hn m l E D j a c t C B k n p)
def Ch.good(c:Ch):Prop:=lt ⟨#[]⟩ c.key=true/\c.key.size<=24/\c.val.size<=400
variable {cs:List Ch}
theorem Vy {c}(h:c.good):(chE c).good fs:=⟨h.1,h.2.1,.inl ⟨rfl,rfl,rfl,h.2.2⟩⟩
theorem gH (b:cT es)(d:cJ cs)(a):a∈bJ es cs↔(∃c∈cs,c.gone=false/\a=chE c)\/(a∈es/\∀c∈cs,c.key≠a.e.key):=by
 rw[oF];exact vX es cs b d a
theorem oB (a:cT es)(b:cJ cs):cT (bJ es cs):=by
 rw[oF];exact tX es cs a b
theorem kU (e:cT es)(g:cJ cs)(f:∀x∈es,x.good fs)(d:∀c∈cs,c.good):∀a∈bJ es cs,a.good fs:=by
 intro a h;rcases(gH e g a).1 h with⟨c,b,_,rfl⟩|⟨b,_⟩
 .exact Vy (d c b)
 grind
theorem oD (a:cT es):bJ es []=es:=by
 apply yS (oB a .nil) a;intro b;rw[gH a .nil];simp
theorem mS {q c}:c∈dH cs q↔c∈cs/\q.has c.key=true:=by simp[dH]
theorem Cr{f:Type}:∀(s:Sp) (ks:List ByteArray) (b:List f),b.length=ks+1->∀k,s.has k=true->∃x∈parts s ks b,x.2.has k=true
 |s,_,[],hl,_,_=>by simp at hl
 |s,[],a :: b,hl,k,hk=>⟨(a,s),by simp[parts],hk⟩
 |s,q :: ks,a :: b,hl,k,hk=>by
  rcases pC k q with c|c
  .refine⟨(a,⟨s.lo,q⟩),by simp[parts],?_⟩;simp only[Sp.has,AM]at hk⊢;exact⟨hk.1,gK.2 (.inr c)⟩
  .have⟨x,d,e⟩:=Cr ⟨q,s.hi⟩ ks b ζ k (by
    simp only[Sp.has,AM]at hk⊢;grind)
   exact⟨x,by simp[parts,d],e⟩
theorem Ny(k):(⟨⟨#[]⟩,⟨#[]⟩⟩:Sp).has k=true:=by
 simp only[Sp.has,AM];exact⟨Be k,gK.2 (.inl rfl)⟩
theorem Ae{h:Type}(a m)(r:m<=125):∀(k:Nat) (l:List h),l<=k->(∀x∈l,a x<=m)->250<tot a l->∀p∈fA a l,251<=2 * tot a p+m
 |0,l,hk,hs,hb=>by
  have:l=[]:=by cases l<;>simp_all
  subst this;simp[tot]at hb
 |k+1,l,hk,hs,hb=>by
  have g:∀x∈l,a x<=250:=λx e=>ζ
  have z:=sE a l hb g;have f:=qL a (tot a l) l hb;have w:=Ek a (tot a l) l 0 ω;have t:=Aq a l (shN a (tot a l) l 0);have B:=hs _ (AA f);have⟨n,s⟩:∃n,shN a (tot a l) l 0=n+1:=⟨shN a (tot a l) l 0-1,ω⟩;have d:n<l:=ω;have v:=(Fw a (tot a l) l 0 n ω d).1 ω;have C:=hs _ (AA d);have A:=mF a l n d;have y:¬(2 * (0+tot a (l.take (shN a (tot a l) l 0)))+a l[shN a (tot a l) l 0]<=tot a l/\0+tot a (l.take (shN a (tot a l) l 0))+a l[shN a (tot a l) l 0]<=250):=λc=>Nat.lt_irrefl _ ((Fw a (tot a l) l 0 _ (jU _) f).2 c);have o:251<=2 * tot a (l.take (shN a (tot a l) l 0))+m:=ω;have j:∀x∈l.drop (shN a (tot a l) l 0),a x<=m:=λx e=>hs x (BV e);have q:251<=2 * tot a (l.drop (shN a (tot a l) l 0))+m:=ζ
  intro p b;rw[Bw a l g hb]at b;rcases AS.1 b with rfl|b
  .exact o
  .by_cases c:250<tot a (l.drop (shN a (tot a l) l 0))
   .exact Ae a m r k _ ζ j c p b
   .rw[kF a _ ω]at b;grind
variable {fs:Fs} {h:Nat} {s:Sp}
def NT.entsH:Nat->NT->List En
 |h,.kept t _=>T.ents h t
 |_,.leaf _ es=>es
 |0,.bran _ _=>[]
 |h+1,.bran _ ks=>ks.flatMap (NT.entsH h)
variable {ns:List NT}
def bQ(h:Nat)(ns:List NT):List En:=ns.flatMap (NT.entsH h)
theorem eT(h a b):bQ h (a++b)=bQ h a++bQ h b:=by simp[bQ]
theorem kY(h n a):bQ h (n :: a)=n.entsH h++bQ h a:=by rfl
def qNc(h:Nat)(a b:NT):Prop:=∀x∈a.entsH h,lt x.e.key b.sp.lo=true
def iO(ns:List NT):Prop:=ns.length=1\/∀n∈ns,dP n=false
def OkH(fs:Fs):Nat->NT->Prop
 |h,.kept t s=>aZ fs h t s/\s.lo.size<=24/\bF (t.place:Nat)=true
 |0,.leaf s es=>es≠[]/\s.lo=jI es/\cT es/\tot esz es<=250/\∀x∈es,x.good fs
 |h+1,.bran s ks=>ks≠[]/\s.lo=kO ks/\tot gY ks<=250/\iO ks/\(∀n∈ks,OkH fs h n/\∀x∈n.entsH h,le n.sp.lo x.e.key=true)/\ks.Pairwise (qNc h)
 |_,_=>False
structure eE (fs:Fs) (h:Nat) (ns:List NT):Prop where
 ok:∀n∈ns,OkH fs h n
 lo:∀n∈ns,∀x∈n.entsH h,le n.sp.lo x.e.key=true
 sep:ns.Pairwise (qNc h)
theorem eE.sub {b ns}(L:eE fs h ns)(s:b.Sublist ns):eE fs h b:=⟨λn a=>L.ok n (s.subset a),λn a=>L.lo n (s.subset a),L.sep.sublist s⟩
theorem uU {k}(h:s.has k=true):le s.lo k=true:=by
 simp only[Sp.has,AM]at h;exact h.1
theorem xV {k}(h:s.has k=true):Sp.below s.hi k=true:=by
 simp only[Sp.has,AM]at h;exact h.2
theorem rH {fs:Fs}{b ks a}{x:b×Sp}(h:x∈parts s ks a):x.1∈a:=by
 have:x.1∈(parts s ks a).map (·.1):=AY.2 ⟨x,h,rfl⟩;rwa[kD]at this
theorem oI:∀{h:Nat}{t:T}{s:Sp},aZ fs h t s->T.ents h t≠[]/\∀x∈T.ents h t,x.good fs
 |0,.leaf p es,s,ht=>⟨by have⟨g,_,_,_,l,_⟩:=ht;exact l,kR ht⟩
 |0,.branch _ _ _,s,ht=>ht.elim
 |h+1,.leaf _ _,s,ht=>by simp[aZ]at ht
 |h+1,.branch p ks kids,s,ht=>by
  have⟨k,n,m,_,j⟩:=dR ht;have i:∀a∈kids,∃c,aZ fs h a c:=λa d=>by
   have⟨c,b⟩:=lL (s:=s) (ks:=ks) d;grind
  refine⟨λf=>?_,λx e=>?_⟩
  .cases kids with
   |nil=>simp at k
   |cons a kids =>
    have⟨c,b⟩:=i a σ;simp only[T.ents,AK,EZ]at f;exact(oI b).1 f.1
  .have⟨a,d,e⟩:=AV.1 e;have⟨c,b⟩:=i a d;exact(oI b).2 x e
theorem Bs (d:∀n,OkH fs h n->n.entsH h≠[]/\cT (n.entsH h)/\∀x∈n.entsH h,x.good fs):∀{ns:List NT},eE fs h ns->cT (bQ h ns)/\∀x∈bQ h ns,x.good fs
 |[],_=>⟨.nil,by simp[bQ]⟩
 |n :: ns,L=>by
  have⟨f,m⟩:=BD.1 L.sep;have⟨g,i⟩:=Bs d (ns:=ns) (L.sub (List.sublist_cons_self n ns));have⟨o,j,k⟩:=d n (L.ok n σ);rw[kY];refine⟨Cp.2 ⟨j,g,λx a l b=>?_⟩,λx a=>(AN.1 a).elim (k x) (i x)⟩;have⟨e,c,b⟩:=AV.1 b;exact cD (f e c x a) (L.lo e (by simp[c]) l b)
theorem kL:∀{h:Nat}{n:NT},OkH fs h n->n.entsH h≠[]/\cT (n.entsH h)/\∀x∈n.entsH h,x.good fs
 |h,.kept t s,H=>by
  have c:aZ fs h t s:=by cases h<;>exact H.1
  have b:(NT.kept t s).entsH h=T.ents h t:=by cases h<;>rfl
  rw[b];exact⟨(oI c).1,eC c,(oI c).2⟩
 |0,.leaf s es,H=>⟨H.1,H.2.2.1,H.2.2.2.2⟩
 |0,.bran _ _,H=>H.elim
 |h+1,.leaf _ _,H=>H.elim
 |h+1,.bran s ks,H=>by
  have⟨k,m,o,p,d,l⟩:=H;have f:eE fs h ks:=⟨λn a=>(d n a).1,λn a=>(d n a).2,l⟩;have⟨i,j⟩:=Bs (λn a=>kL a) f;refine⟨λb=>?_,i,j⟩;cases ks with
  |nil=>exact k rfl
  |cons e ks =>
   have g:(NT.bran s (e :: ks)).entsH (h+1)=e.entsH h++ks.flatMap (NT.entsH h):=by rfl
   rw[g,EZ]at b;exact(kL (d e σ).1).1 b.1
theorem eE.rise (L:eE fs h ns):cT (bQ h ns):=(Bs (λn a=>kL a) L).1
theorem sL:∀{h:Nat}{n:NT},OkH fs h n->n.sp.lo.size<=24
 |h,.kept t s,H=>by cases h<;>exact H.2.1
 |0,.leaf s es,H=>by
  have⟨f,e,a⟩:=sW H.1;show s.lo.size<=24;rw[H.2.1,a];exact(H.2.2.2.2 f e).2.1
 |0,.bran _ _,H=>H.elim
 |h+1,.leaf _ _,H=>H.elim
 |h+1,.bran s ks,H=>by
  have⟨b,c,_,_,d,_⟩:=H;show s.lo.size<=24;rw[c];cases ks with
  |nil=>grind
  |cons k ks=>exact sL (d k σ).1
theorem eE.los (L:eE fs h ns):ns.Pairwise (λa b=>lt a.sp.lo b.sp.lo=true):=by
 refine KK ?_ L.sep;intro a b c g f;have⟨e,d⟩:=GS _ (kL (L.ok a c)).1;exact eB (L.lo a c e d) (f e d)
theorem eE.first (L:eE fs h ns):∀n∈ns,le (kO ns) n.sp.lo=true:=by
 intro n a;cases ns with
 |nil=>simp at a
 |cons m ns =>
  rcases AS.1 a with rfl|a
  .exact bG _
  .exact iF ((BD.1 L.los).1 n a)
theorem eE.swap {g M B l n}(L:eE fs h (g++l :: n :: B))(i:eE fs h M)(o:bQ h M=l.entsH h++n.entsH h)(q:∀m∈M,le l.sp.lo m.sp.lo=true):
  eE fs h (g++(M++B))/\bQ h (g++(M++B))=bQ h (g++l :: n :: B):=by
 have⟨r,f,p⟩:=CO.1 L.sep;have⟨s,f⟩:=BD.1 f;have⟨t,f⟩:=BD.1 f;refine⟨⟨?_,?_,?_⟩,by rw[eT,eT,eT,o,kY,kY,CA]⟩
 .intro m c
  simp only[AN]at c;rcases c with c|c|c
  .exact L.ok m (by simp[c])
  .exact i.ok m c
  .exact L.ok m (by simp[c])
 .intro m c
  simp only[AN]at c;rcases c with c|c|c
  .exact L.lo m (by simp[c])
  .exact i.lo m c
  .exact L.lo m (by simp[c])
 .refine CO.2 ⟨r,CO.2 ⟨i.sep,f,λm c b k e d=>?_⟩,λa j m c e d=>?_⟩
  .have:e∈l.entsH h++n.entsH h:=by rw[<-o];exact AV.2 ⟨m,c,d⟩
   rcases AN.1 this with d|d
   .exact s b (by simp[k]) e d
   .exact t b k e d
  .rcases AN.1 c with c|c
   .exact cD (p a j l σ e d) (q m c)
   .exact p a j m (by simp[c]) e d
theorem Oz {es}(q:cT es)(e:∀x∈es,x.good fs)(j:es≠[]):eE fs 0 (dE es)/\bQ 0 (dE es)=es/\dE es≠[]/\iO (dE es)/\∀n∈dE es,∃x∈es,n.sp.lo=x.e.key:=by
 have i:=So q e;have g:∀n∈dE es,n.entsH 0=n.ents0:=λn c=>by
  obtain⟨p,_,rfl⟩:=AY.1 c;rfl
 have h:bQ 0 (dE es)=es:=by
  have k:bQ 0 (dE es)=Ut (dE es):=by
   unfold bQ Ut;rw[KQ,KQ,EI g]
  rw[k,Oy e]
 refine⟨⟨?_,λn c x d=>i.lo n c x ζ,KK (λ{a b} l _ m x d=>m x ζ) i.sep⟩,h,λf=>by rw[f]at h;exact j h.symm,?_,Yy e⟩
 .intro n c;have:=i.ok n c;obtain⟨p,_,rfl⟩:=AY.1 c;exact this
 .by_cases hb:250<tot esz es
  .right;intro n c;obtain⟨p,o,rfl⟩:=AY.1 c;have:=Ae esz 87 δ es es (jU _) (λx d=>Ue (e x d)) hb p o;simp only[Sr,dP,EW];omega
  .left;rw[dE,kF esz es ω,AQ (λf=>j (AH f))];rfl
theorem Dj{p}(h:p≠[]):∃n∈p,kO p=n.sp.lo:=by
 cases p with
 |nil=>grind
 |cons n p=>exact⟨n,σ,rfl⟩
theorem yW:∀{ps:List (List NT)},eE fs h ps.flatten->(∀p∈ps,p≠[])->(∀p∈ps,tot gY p<=250)->(∀p∈ps,iO p)->eE fs (h+1) (ps.map Je)/\bQ (h+1) (ps.map Je)=bQ h ps.flatten
 |[],_,_,_,_=>⟨⟨σ,σ,σ⟩,rfl⟩
 |p :: ps,L,hne,hf,ht=>by
  rw[FU]at L;have⟨s,t,r⟩:=CO.1 L.sep;have e:=L.sub (List.sublist_append_left _ _);have⟨f,l⟩:=yW (L.sub (NI _ _)) (λq b=>hne q (by simp[b])) (λq b=>hf q (by simp[b])) (λq b=>ht q (by simp[b]));have i:∀d∈(Je p).entsH (h+1),le (Je p).sp.lo d.e.key=true:=by
   intro d c;have⟨n,a,c⟩:=AV.1 c;exact bH (e.first n a) (e.lo n a d c)
  refine⟨⟨?_,?_,?_⟩,by rw[BE,kY,l,FU,eT];rfl⟩
  .rw[BE];intro n a;rcases AS.1 a with rfl|a
   .exact⟨hne p σ,rfl,hf p σ,ht p σ,λn a=>⟨e.ok n a,e.lo n a⟩,e.sep⟩
   .exact f.ok n a
  .rw[BE];intro n a;rcases AS.1 a with rfl|a
   .exact i
   .exact f.lo n a
  .rw[BE];refine BD.2 ⟨λn a d c=>?_,f.sep⟩;obtain⟨q,b,rfl⟩:=AY.1 a;have⟨m,j,g⟩:=Dj (hne q (by simp[b]));show lt d.e.key (kO q)=true;rw[g];have⟨o,k,c⟩:=AV.1 c;exact r o k m (GQ.2 ⟨q,b,j⟩) d c
theorem Py (L:eE fs h ns)(s:iO ns)(j:ns≠[]):eE fs (h+1) (eL ns)/\bQ (h+1) (eL ns)=bQ h ns/\eL ns≠[]/\iO (eL ns)/\∀m∈eL ns,∃n∈ns,m.sp.lo=n.sp.lo:=by
 have i:∀n∈ns,gY n<=27:=λn a=>by have:=sL (L.ok n a);unfold gY;omega
 have f:∀n∈ns,gY n<=250:=λn a=>ζ
 have c:=mO gY ns f;have g:=Ad gY ns f;have q:∀p∈fA gY ns,iO p:=by
  intro p b;rcases s with e|e
  .obtain⟨n,rfl⟩:=FC.1 e;have o:tot gY [n]<=250:=by simpa[tot] using f n σ
   rw[kF gY [n] o,AQ σ]at b;rw[AL]at b;subst b;exact .inl rfl
  .refine .inr (λn a=>e n ?_);rw[<-c];exact GQ.2 ⟨p,b,a⟩
 have⟨k,l⟩:=yW (fs:=fs) (h:=h) (ps:=fA gY ns) ζ g (Vi gY ns) q;refine⟨k,by rw[eL,l,c],λd=>?_,?_,?_⟩
 .have:=List.map_eq_nil_iff.1 d;grind
 .by_cases hb:250<tot gY ns
  .right;intro n a;obtain⟨p,b,rfl⟩:=AY.1 a;have:=Ae gY 27 δ ns ns (jU _) i hb p b;simp only[Je,dP,EW];omega
  .left;rw[eL,kF gY ns ω,AQ (λd=>j (AH d))];rfl
 .intro m r;obtain⟨p,b,rfl⟩:=AY.1 r;have⟨n,a,d⟩:=Dj (g p b);exact⟨n,c▸GQ.2 ⟨p,b,a⟩,d⟩
