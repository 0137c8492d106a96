import Derived.Test.YtdhgdcjmhofhaaaGreatD24
set_option linter.all false
set_option maxRecDepth 100000
set_option maxHeartbeats 8000000
namespace Go.Proofs.YtdhgdcjmhofhaaaGreat.Tree
open Go.RowKit Pages Tryz
variable {K:List ByteArray} {P Z fr:List Nat} {a b:Type} {cs:List Ch} {g:Pg} {h n p root:Nat} {l:List (Nat×Pg)} {o:Option (Nat×T)} {s:Sp} {t:T} {u:List Bool}
def NT.kidsN:NT->List NT
 |.kept (.leaf _ _) _=>[]
 |.kept (.branch _ ks kids) s=>(parts s ks kids).map λx=>.kept x.1 x.2
 |.leaf _ _=>[]
 |.bran _ ks=>ks
def qK:Nat->NT->NT->List NT
 |0,a,b=>qNg a b
 |h+1,a,b=>eL (rN (qK h) (a.kidsN++b.kidsN))
theorem iE {fs}(H:OkH fs h (.kept t s)):aZ fs h t s/\s.lo.size<=24/\bF (t.place:Nat)=true:=by cases h<;>exact H
theorem jL(h t s):(NT.kept t s).entsH h=T.ents h t:=by cases h<;>rfl
theorem qOk {fs}(H:aZ fs h t s)(a:s.lo.size<=24)(b:bF (t.place:Nat)=true):OkH fs h (.kept t s):=by cases h<;>exact⟨H,a,b⟩
theorem vS {fs ks a}(f:aZ fs (h+1) (.branch p ks a) s)(i:s.lo.size<=24):∀x∈parts s ks a,OkH fs h (.kept x.1 x.2):=by
 have⟨u,v,r,n,j⟩:=dR f;have⟨g,k,o,t,l,_⟩:=f;intro x b;refine qOk (j x b) ?_ ?_
 .obtain⟨c,e,rfl⟩:=AW b;have m:c<a:=by rwa[dA]at e
  have d:=fF s ks a c m;rw[jQ e,BB]at d;rw[d];show(kQ s ks c).size<=24;unfold kQ;grind
 .have:=Uc k o (x.1.place:Int) (l▸AY.2 ⟨x.1,rH (fs:=fs) b,rfl⟩);exact this
theorem wB {fs n}(H:OkH fs (h+1) n):eE fs h n.kidsN/\bQ h n.kidsN=n.entsH (h+1)/\n.kidsN≠[]/\∀k∈n.kidsN,le n.sp.lo k.sp.lo=true:=by
 cases n with
 |leaf=>exact H.elim
 |bran s ks =>
  have⟨x,y,E,F,j,A⟩:=H;have i:eE fs h ks:=⟨λn b=>(j n b).1,λn b=>(j n b).2,A⟩;refine⟨i,rfl,x,λk e=>?_⟩;show le s.lo k.sp.lo=true;rw[y];exact i.first k e
 |kept t s =>
  have⟨f,z,_⟩:=iE H;cases t with
  |leaf=>simp[aZ]at f
  |branch p ks kids =>
   have⟨o,q,m,_,l⟩:=dR f;refine⟨⟨?_,?_,?_⟩,?_,?_,?_⟩
   .intro n b;obtain⟨a,c,rfl⟩:=AY.1 b;exact (vS f z) a c
   .intro n b u g;obtain⟨a,c,rfl⟩:=AY.1 b;rw[jL]at g;exact uU (iA (l a c) u g)
   .show((parts s ks kids).map _).Pairwise _;rw[EV];refine KK ?_ (oY s ks kids o q m);intro a u c g ⟨v,w⟩ D r;rw[jL]at r;have:=gK.1 (xV (iA (l a c) D r));exact cD (this.elim (λd=>absurd d v) id) w
   .show bQ h ((parts s ks kids).map _)=kids.flatMap (T.ents h);rw[<-kD s ks kids,bQ,KP,KP];have:∀a∈parts s ((parts s ks kids).map (·.1) |> λ_=>ks) kids,(NT.kept a.1 a.2).entsH h=T.ents h a.1:=λa _=>jL h a.1 a.2;rw[KQ,KQ,kD];exact BR List.flatten (EI this)
   .intro d;have:(parts s ks kids).length=0:=by
     have:=BR List.length d;simpa[NT.kidsN] using this
    rw[dA]at this;omega
   .intro k e;obtain⟨a,c,rfl⟩:=AY.1 e;exact(uE s ks kids o q m a c).1
theorem Bc{fs n}(H:OkH fs 0 n):n.entsH 0=n.ents0:=by
 cases n with
 |leaf=>rfl
 |bran=>rfl
 |kept t s=>cases t with
  |leaf=>rfl
  |branch=>rfl
theorem De{b}{J:List NT->Prop}(i:∀f l n B,J (f++l :: n :: B)->J (f++(b l n++B))/\iO (b l n)):∀(acc next B:List NT),(∀m∈acc,dP m=false)->iO next->J (acc.reverse++(next++B))->iO (rM b acc next)
 |[],next,B,_,ht,_=>ht
 |l :: acc,next,B,ha,ht,h=>by
  match next,ht,h with
  |[],_,h =>
   show iO ((l :: acc).reverse++[]);rw[EY];exact .inr (λm a=>ha m (KR.1 a))
  |[m],_,h =>
   by_cases hs:dP l=true\/dP m=true
   .have e:rM b (l :: acc) [m]=rM b acc (b l m):=AU hs;rw[e];have g:=i _ _ _ _ (show J (acc.reverse++l :: m :: B) by grind);exact De i acc (b l m) B (λm a=>ha m (by simp[a])) g.2 g.1
   .have e:rM b (l :: acc) [m]=(l :: acc).reverse++[m]:=AQ hs;rw[e];refine .inr (λd c=>?_);grind
  |d :: y :: r,ht,h =>
   show iO ((l :: acc).reverse++d :: y :: r);refine .inr (λm a=>?_);rcases AN.1 a with a|a
   .grind
   .exact(ht.resolve_left σ) m a
theorem Ht{a}{J:List NT->Prop}(d:∀c l n B,J (c++l :: n :: B)->J (c++(a l n++B))/\iO (a l n)):∀{ns acc:List NT},iO acc->J (acc++ns)->iO (ns.foldl (zU a) acc)
 |[],acc,ht,_=>ht
 |n :: ns,acc,ht,b=>by
  refine Ht d (ns:=ns) (acc:=zU a acc n) ?_ (Dd (λc l n B b=>(d c l n B b).1) b);by_cases ha:∀f∈acc,dP f=false
  .exact De d acc.reverse [n] ns (λf e=>ha f (KR.1 e)) (.inl rfl) ζ
  .obtain⟨l,rfl⟩:=FC.1 (ht.resolve_right ha);have h:dP l=true:=by
    grind
   have g:zU a [l] n=a l n:=AU (.inl h);rw[g];exact(d [] l n ns ζ).2
theorem vM:iO []:=.inr σ
structure qNa (fs:Fs) (h:Nat) (l n:NT) (M:List NT):Prop where
 lst:eE fs h M
 ents:bQ h M=l.entsH h++n.entsH h
 ne:M≠[]
 tight:iO M
 lo:∀m∈M,le l.sp.lo m.sp.lo=true
theorem eE.two {fs a B l n}(L:eE fs h (a++l :: n :: B)):eE fs h [l,n]:=
 L.sub ((List.Sublist.cons_cons l (List.Sublist.cons_cons n (List.nil_sublist B))).t (NI a _))
theorem Zk {fs}(i:∀{l n:NT},eE fs h [l,n]->qNa fs h l n (qK h l n))(e c):∀b l n B,(eE fs h (b++l :: n :: B)/\bQ h (b++l :: n :: B)=e/\∀m∈b++l :: n :: B,le c m.sp.lo=true)->(eE fs h (b++(qK h l n++B))/\bQ h (b++(qK h l n++B))=e/\∀m∈b++(qK h l n++B),le c m.sp.lo=true)/\iO (qK h l n):=by
 intro b l n B ⟨f,g,d⟩;have T:=i f.two;have⟨j,k⟩:=f.swap T.lst T.ents T.lo;refine⟨⟨j,k.t g,λm a=>?_⟩,T.tight⟩;simp only[AN]at a;rcases a with a|a|a
 .grind
 .exact bH (d l σ) (T.lo m a)
 grind
structure qPy (fs:Fs) (h:Nat) (E:List En) (c:ByteArray) (M:List NT):Prop where
 lst:eE fs h M
 ents:bQ h M=E
 lo:∀m∈M,le c m.sp.lo=true
 tight:iO M
theorem Ts {fs}(j:∀{l n:NT},eE fs h [l,n]->qNa fs h l n (qK h l n)){ns c}(L:eE fs h ns)(a:∀m∈ns,le c m.sp.lo=true):qPy fs h (bQ h ns) c (rN (qK h) ns):=by
 have b:=Zk j (bQ h ns) c;have⟨e,f,g⟩:=uS (J:=λM=>eE fs h M/\bQ h M=bQ h ns/\∀m∈M,le c m.sp.lo=true) (λd l n B i=>(b d l n B i).1) (ns:=ns) ⟨L,rfl,a⟩;exact⟨e,f,g,Ht (J:=λM=>eE fs h M/\bQ h M=bQ h ns/\∀m∈M,le c m.sp.lo=true) (acc:=[]) b vM ⟨L,rfl,a⟩⟩
theorem Nw{fs}:∀(h:Nat) {l n:NT},eE fs h [l,n]->qNa fs h l n (qK h l n)
 |0,l,n,d=>by
  have w:=d.ok l σ;have S:=d.ok n σ;have⟨k,p,s⟩:=kL w;have⟨q,t,u⟩:=kL S;have O:=by have:=d.rise;simpa[bQ] using this
  have g:qK 0 l n=dE (l.entsH 0++n.entsH 0):=by rw[Bc w,Bc S];rfl
  rw[g];have⟨z,A,B,C,D⟩:=Oz (fs:=fs) O (λj i=>(AN.1 i).elim (s j) (u j)) (λg=>k (EZ.1 g).1);refine⟨z,A,B,C,λe f=>?_⟩;have⟨j,i,g⟩:=D e f;rw[g];rcases AN.1 i with i|i
  .exact d.lo l σ j i
  .have⟨x,r⟩:=GS _ k
   exact bH (d.lo l σ x r) (bH (iF ((BD.1 d.sep).1 n σ x r)) (d.lo n σ j i))
 |h+1,l,n,d=>by
  have⟨k,p,s,R⟩:=wB (d.ok l σ);have⟨q,t,u,v⟩:=wB (d.ok n σ);have y:eE fs h (l.kidsN++n.kidsN):=by
   refine⟨λe f=>(AN.1 f).elim (k.ok e) (q.ok e),λe f=>(AN.1 f).elim (k.lo e) (q.lo e),CO.2 ⟨k.sep,q.sep,λa J b K j i=>?_⟩⟩;have:j∈l.entsH (h+1):=by rw[<-p];exact AV.2 ⟨a,J,i⟩
   exact cD (((BD.1 d.sep).1 n σ) j this) (v b K)
  have m:=Ts (λ{l n} d=>Nw h d) (c:=l.sp.lo) y (λe f=>(AN.1 f).elim (R e) (λf=>bH (iF ((BD.1 d.los).1 n σ)) (v e f)));have N:rN (qK h) (l.kidsN++n.kidsN)≠[]:=λg=>by
   have o:=m.ents;rw[g,eT,p]at o;exact(kL (d.ok l σ)).1 (EZ.1 o.symm).1
  have⟨E,F,G,H,I⟩:=Py m.lst m.tight N;refine⟨E,?_,G,H,λe f=>?_⟩
  .show bQ (h+1) (eL _)=_;rw[F,m.ents,eT,p,t]
  .have⟨Q,L,g⟩:=I e f;rw[g];exact m.lo Q L
theorem qKv {fs ns c}(L:eE fs h ns)(a:∀m∈ns,le c m.sp.lo=true):qPy fs h (bQ h ns) c (rN (qK h) ns):=Ts (λ{b n} L=>Nw h L) L a
def chP:Nat->T->Sp->List Ch->List NT
 |_,.leaf _ es,_,cs=>dE (bJ es cs)
 |0,.branch _ _ _,_,_=>[]
 |h+1,.branch _ ks kids,s,cs=>eL (rN (qK h) ((parts s ks kids).flatMap λx=>if (dH cs x.2).length=0 then [.kept x.1 x.2] else chP h x.1 x.2 (dH cs x.2)))
structure Fc (fs:Fs) (h:Nat) (s:Sp) (E:List En) (ns:List NT):Prop where
 lst:eE fs h ns
 ents:bQ h ns=E
 keys:∀y∈E,s.has y.e.key=true
 los:∀n∈ns,le s.lo n.sp.lo=true
 tight:iO ns
theorem qLi {fs}(f e):∀(l:List (T×Sp)),(∀x∈l,Fc fs h x.2 (e x) (f x))->l.Pairwise (λx d=>x.2.hi≠⟨#[]⟩/\le x.2.hi d.2.lo=true)->eE fs h (l.flatMap f)/\bQ h (l.flatMap f)=l.flatMap e
 |[],_,_=>⟨⟨σ,σ,σ⟩,rfl⟩
 |x :: l,H,hp=>by
  have⟨t,u⟩:=BD.1 hp;have⟨k,s⟩:=qLi f e l (λd j=>H d (by simp[j])) u;have c:=H x σ;rw[AK,AK];refine⟨⟨by intro n i;exact(AN.1 i).elim (c.lst.ok n) (k.ok n),by intro n i;exact(AN.1 i).elim (c.lst.lo n) (k.lo n),?_⟩,by rw[eT,s,c.ents]⟩
  .refine CO.2 ⟨c.lst.sep,k.sep,λa r b g d j=>?_⟩;have⟨o,m,g⟩:=AV.1 g;have⟨v,w⟩:=t o m;exact cD (cD ((gK.1 (xV (c.keys d (c.ents▸AV.2 ⟨a,r,j⟩)))).elim (λh=>absurd h v) id) w) ((H o (by simp[m])).los b g)
theorem Gt {fs ks f}(n:aZ fs (h+1) (.branch p ks f) s)(e:cJ cs)(t:∀c∈cs,s.has c.key=true)(r:cT ((parts s ks f).flatMap (λx=>bJ (T.ents h x.1) (dH cs x.2)))):(parts s ks f).flatMap (λx=>bJ (T.ents h x.1) (dH cs x.2))=bJ (T.ents (h+1) (.branch p ks f)) cs:=by
 have l:=eC n;have⟨v,A,z,_,g⟩:=dR n;apply yS r (oB l e);intro q;rw[gH l e];simp only[AV,T.ents];constructor
 .intro⟨x,d,j⟩;rcases(gH (eC (g x d)) (lF e x.2) q).1 j with⟨c,a,b,rfl⟩|⟨a,b⟩
  .exact .inl ⟨c,(mS.1 a).1,b,rfl⟩
  .refine .inr ⟨⟨x.1,rH (fs:=fs) d,a⟩,λc i k=>b c (mS.2 ⟨i,?_⟩) k⟩;rw[k];exact iA (g x d) q a
 .rintro(⟨c,a,b,rfl⟩|⟨⟨y,u,j⟩,b⟩)
  .have⟨x,d,w⟩:=Cr s ks f v c.key (t c a);exact⟨x,d,(gH (eC (g x d)) (lF e x.2) _).2 (.inl ⟨c,mS.2 ⟨a,w⟩,b,rfl⟩)⟩
  .have⟨o,m⟩:=lL (s:=s) (ks:=ks) u;exact⟨(y,o),m,(gH (eC (g _ m)) (lF e o) _).2 (.inr ⟨j,λc i=>b c (mS.1 i).1⟩)⟩
theorem qBx {es}(f:cT es)(g:cJ cs)(d:∀x∈es,s.has x.e.key=true)(e:∀c∈cs,s.has c.key=true):∀a∈bJ es cs,s.has a.e.key=true:=by
 intro a h;rcases(gH f g a).1 h with⟨c,b,_,rfl⟩|⟨b,_⟩
 .exact e c b
 grind
theorem qAr{fs}:∀(h:Nat) {t:T}{s:Sp}{cs:List Ch},aZ fs h t s->s.lo.size<=24->cJ cs->(∀c∈cs,c.good)->(∀c∈cs,s.has c.key=true)->Fc fs h s (bJ (T.ents h t) cs) (chP h t s cs)
 |0,.leaf p es,s,cs,ht,h24,hr,hc,hcs=>by
  have l:=eC (h:=0) ht;have g:=qBx l hr (iA (h:=0) ht) hcs;by_cases h0:bJ es cs=[]
  .have f:chP 0 (.leaf p es) s cs=[]:=by simp[chP,h0,dE,kF esz [] (by simp[tot])]
   rw[f];exact⟨⟨σ,σ,σ⟩,h0.symm,g,σ,vM⟩
  .have⟨y,z,Q,A,B⟩:=Oz (fs:=fs) (oB l hr) (kU (fs:=fs) l hr (kR ht) hc) h0;refine⟨y,z,g,λn b=>?_,A⟩;have⟨a,d,f⟩:=B n b;rw[f];exact uU (g a d)
 |0,.branch _ _ _,s,cs,ht,_,_,_,_=>ht.elim
 |h+1,.leaf _ _,s,cs,ht,_,_,_,_=>by simp[aZ]at ht
 |h+1,.branch p ks kids,s,cs,ht,h24,hr,hc,hcs=>by
  have v:=vS ht h24;have⟨u,w,q,_,H⟩:=dR ht;have r:∀a∈parts s ks kids,Fc fs h a.2 (bJ (T.ents h a.1) (dH cs a.2)) (if (dH cs a.2).length=0 then [.kept a.1 a.2] else chP h a.1 a.2 (dH cs a.2)):=by
   intro a d;have k:=H a d;split
   .rename_i h0;rw[AH h0,oD (eC k)];refine⟨⟨ζ,?_,σ⟩,by simp[bQ,jL],iA k,by intro n b;rw[AL]at b;subst b;exact bG _,.inl rfl⟩
    .intro n b P x;rw[AL]at b;subst b;rw[jL]at x;exact uU (iA k P x)
   .exact qAr h k (iE (v a d)).2.1 (lF hr a.2) (λc h=>hc c (mS.1 h).1) (λc h=>(mS.1 h).2)
  have⟨m,o⟩:=qLi (fs:=fs) (h:=h) (λa=>if (dH cs a.2).length=0 then [.kept a.1 a.2] else chP h a.1 a.2 (dH cs a.2)) (λa=>bJ (T.ents h a.1) (dH cs a.2)) (parts s ks kids) r (oY s ks kids u w q);have K:∀j∈(parts s ks kids).flatMap (λa=>if (dH cs a.2).length=0 then [.kept a.1 a.2] else chP h a.1 a.2 (dH cs a.2)),le s.lo j.sp.lo=true:=by
   intro j i;have⟨a,d,i⟩:=AV.1 i;exact bH (uE s ks kids u w q a d).1 ((r a d).los j i)
  have e:=qKv m K;rw[o,Gt ht hr hcs (by rw[<-o];exact m.rise)]at e;have g:=qBx (eC ht) hr (iA ht) hcs;generalize hM:rN (qK h) ((parts s ks kids).flatMap λa=>if (dH cs a.2).length=0 then [.kept a.1 a.2] else chP h a.1 a.2 (dH cs a.2))=M at e;have f:chP (h+1) (.branch p ks kids) s cs=eL M:=by rw[<-hM];rfl
  rw[f];by_cases h0:M=[]
  .subst h0
   have G:eL []=[]:=by rfl
   rw[G];exact⟨⟨σ,σ,σ⟩,e.ents,g,σ,vM⟩
  .have⟨C,D,R,E,F⟩:=Py e.lst e.tight h0;refine⟨C,D.t e.ents,g,λj i=>?_,E⟩;have⟨n,b,f⟩:=F j i;rw[f];exact e.lo n b
def StH(fs:Fs):Nat->NT->Prop
 |0,n=>OkH fs 0 n
 |h+1,.kept t s=>OkH fs (h+1) (.kept t s)
 |h+1,.bran s ks=>OkH fs (h+1) (.bran s ks)/\2<=ks.length/\∀k∈ks,StH fs h k
 |_+1,.leaf _ _=>False
theorem StH.ok{fs}:∀{h:Nat}{n:NT},StH fs h n->OkH fs h n
 |0,n,H=>H
 |h+1,.kept t s,H=>H
 |h+1,.bran s ks,H=>H.1
 |_+1,.leaf _ _,H=>H.elim
theorem qCj {fs n}(H:OkH fs h n):gY n<=27:=by have:=sL H;unfold gY;omega
theorem qIi{fs}:∀{h:Nat}{n:NT},OkH fs h n->dP n=false->StH fs h n
 |0,n,H,_=>H
 |h+1,.kept t s,H,_=>H
 |h+1,.leaf _ _,H,_=>H.elim
 |h+1,.bran s ks,H,hs=>by
  have⟨i,j,k,e,c,l⟩:=H;have o:=qJ gY ks 27 (λb a=>qCj (c b a).1);have m:62<=tot gY ks:=by
   simp only[dP,EW]at hs;omega
  have f:2<=ks.length:=ω;exact⟨H,f,λb a=>qIi (c b a).1 ((e.resolve_left ω) b a)⟩
def kZ:Nat->NT->Nat×NT
 |h+1,.bran _ [k]=>kZ h k
 |h,n=>(h,n)
theorem Bv(h s k):kZ (h+1) (.bran s [k])=kZ h k:=by rfl
theorem Va{fs}:∀{h:Nat}{n:NT},OkH fs h n->StH fs (kZ h n).1 (kZ h n).2/\(kZ h n).2.entsH (kZ h n).1=n.entsH h
 |0,n,H=>by
  have d:kZ 0 n=(0,n):=by cases n<;>rfl
  rw[d];exact⟨H,rfl⟩
 |h+1,.kept t s,H=>⟨H,rfl⟩
 |h+1,.leaf _ _,H=>H.elim
 |h+1,.bran s ks,H=>by
  have c:=H;have⟨k,m,o,e,a,p⟩:=H;match ks,k,e,a,c with
  |[b],_,_,a,_ =>
   rw[Bv];have⟨i,j⟩:=Va (a b σ).1;refine⟨i,j.t ?_⟩;simp[NT.entsH]
  |b :: k' :: r,_,e,a,c =>
   have d:kZ (h+1) (.bran s (b :: k' :: r))=(h+1,.bran s (b :: k' :: r)):=by rfl
   rw[d];exact⟨⟨c,σ,λg f=>qIi (a g f).1 ((e.resolve_left σ) g f)⟩,rfl⟩
def upP:Nat->Nat->List NT->Option (Nat×NT)
 |_,_,[]=>none
 |_,h,[n]=>some (kZ h n)
 |0,_,_ :: _ :: _=>none
 |k+1,h,a :: b :: r=>upP k (h+1) (eL (a :: b :: r))
theorem Dg:∀(ps:List (List b)),(∀p∈ps,2<=p.length)->2 * ps.length<=ps.flatten
 |[],_=>by simp
 |p :: ps,h=>by
  have:=Dg ps (λq a=>h q (by simp[a]));grind
theorem Jd {fs:Fs}{ns:List NT}(L:eE fs h ns)(e:2<=ns.length):(eL ns).length<ns:=by
 have b:=λn a=>qCj (L.ok n a);rw[eL,AF];by_cases hb:250<tot gY ns
 .have c:=mO gY ns (λn a=>ζ);have:=Dg (fA gY ns) (λp d=>by
   have f:=Ae gY 27 δ ns ns (jU _) b hb p d;have e:=qJ gY p 27 (λn a=>b n (c▸GQ.2 ⟨p,d,a⟩));omega)
  grind
 .rw[kF gY ns ω,AQ ω,AP];omega
def qDg(fs:Fs)(E:List En):Option (Nat×NT)->Prop
 |none=>E=[]
 |some x=>StH fs x.1 x.2/\x.2.entsH x.1=E
theorem qHx{fs:Fs}:∀(k:Nat) {h:Nat}{ns:List NT},ns<=k+1->eE fs h ns->iO ns->qDg fs (bQ h ns) (upP k h ns)
 |k,h,[],_,L,_=>by
  have c:upP k h []=none:=by cases k<;>rfl
  rw[c];rfl
 |k,h,[n],_,L,_=>by
  have c:upP k h [n]=some (kZ h n):=by cases k<;>rfl
  rw[c];have⟨d,e⟩:=Va (L.ok n σ);exact⟨d,e.t (by simp[bQ])⟩
 |0,h,a :: b :: r,hk,L,_=>by simp at hk
 |k+1,h,a :: b :: r,hk,L,ht=>by
  have c:upP (k+1) h (a :: b :: r)=upP k (h+1) (eL (a :: b :: r)):=rfl;rw[c];have m:=Jd L σ;have⟨f,g,j,i,l⟩:=Py L ht σ;have:=qHx k (h:=h+1) (ns:=eL (a :: b :: r)) ω f i;grind
def gI(o:Option (Nat×T))(cs:List Ch):Nat×List NT:=match o with
 |none=>(0,dE (bJ [] cs))
 |some x=>(x.1,chP x.1 x.2 ⟨⟨#[]⟩,⟨#[]⟩⟩ cs)
def jG(o:Option (Nat×T))(cs:List Ch):Option (Nat×NT):=upP (gI o cs).2.length (gI o cs).1 (gI o cs).2
theorem Sk {fs}(j:bO fs root o)(a:cJ cs)(b:∀c∈cs,c.good):eE fs (gI o cs).1 (gI o cs).2/\bQ (gI o cs).1 (gI o cs).2=bJ (aT o) cs/\iO (gI o cs).2:=by
 cases o with
 |none =>
  by_cases h0:bJ [] cs=[]
  .have g:(gI none cs).2=[]:=by simp[gI,h0,dE,kF esz [] (by simp[tot])]
   rw[g];exact⟨⟨σ,σ,σ⟩,h0.symm,vM⟩
  .have⟨d,e,l,f,m⟩:=Oz (oB (es:=[]) .nil a) (kU (fs:=fs) (es:=[]) .nil a σ b) h0;exact⟨d,e,f⟩
 |some x =>
  have⟨h,n⟩:=x;have:=qAr h (cs:=cs) j.2.2 δ a b (λc _=>Ny c.key);exact⟨this.lst,this.ents,this.tight⟩
theorem Hz {fs}(d:bO fs root o)(b:cJ cs)(a:∀c∈cs,c.good):qDg fs (bJ (aT o) cs) (jG o cs):=by
 have⟨e,f,g⟩:=Sk d b a;have:=qHx (gI o cs).2 ω e g;rw[f]at this;exact this
theorem qBn [DecidableEq b](f):∀{l m:List b},l.Nodup->(∀x∈l,x∈m)->tot f l<=tot f m
 |[],m,_,_=>AG _
 |x :: l,m,hn,hs=>by
  have⟨e,g⟩:=MW.1 hn;have a:tot f m=f x+tot f (m.erase x):=by
   have:=((List.perm_cons_erase (hs x σ)).map f).sum_nat;simpa[tot] using this
  have k:=qBn f (l:=l) (m:=m.erase x) g (λd c=>by
   grind)
  rw[cQ,a];omega
theorem qBq (l:List a):tot (λ_=>1) l=l:=by
 induction l with
 |nil=>rfl
 |cons x l ih=>rw[cQ,ih,jB];omega
theorem Ox [DecidableEq a]{l m:List a}(b:l.Nodup)(c:∀x∈l,x∈m):l.length<=m:=by
 have:=qBn (λ_=>1) b c;rwa[qBq,qBq]at this
theorem Ya{l:List ByteArray}(h:l.Pairwise (λa b=>lt a b=true)):l.Nodup:=List.Pairwise.imp (λh=>Si h) h
theorem Dh{a β:Type}(f:a->List β):∀(l:List a),(∀x∈l,f x≠[])->l.length<=(l.flatMap f)
 |[],_=>by simp
 |x :: l,h=>by
  have d:=BX.2 (h x σ);have:=Dh f l (λc b=>h c (by simp[b]));grind
def kH:List (Nat×Pg)->Nat
 |[]=>0
 |x :: _=>x.1
def iS:Nat->ByteArray->List Nat->List (Nat×Pg)
 |0,_,_=>[]
 |k+1,v,fr=>if v.size=0 then [] else
   (fr.getD (iS k (v.extract (min v.size 240) v.size) fr).length 0,iX (kH (iS k (v.extract (min v.size 240) v.size) fr)) (v.extract 0 (min v.size 240))):: iS k (v.extract (min v.size 240) v.size) fr
theorem kV(k v fr)(h:v.size=0):iS k v fr=[]:=by
 cases k with
 |zero=>rfl
 |succ k=>simp[iS,h]
theorem kW(k v fr)(h:v.size≠0):iS (k+1) v fr=(fr.getD (iS k (v.extract (min v 240) v) fr) 0,iX (kH (iS k (v.extract (min v 240) v) fr)) (v.extract 0 (min v 240))):: iS k (v.extract (min v 240) v) fr:=by
 rw[iS,AQ h]
theorem uP:∀(k:Nat) (v:ByteArray) (fr:List Nat),(iS k v fr).length<=fr->(iS k v fr).reverse.map (·.1)=fr.take (iS k v fr)
 |0,_,_,_=>by simp[iS]
 |k+1,v,fr,hl=>by
  by_cases h:v.size=0
  .rw[kV _ _ _ h];simp
  .rw[kW _ _ _ h]at hl⊢;rw[jB]at hl⊢;rw[JF,BL,uP k (v.extract (min v 240) v) fr ω,AJ ω];grind
theorem uQ {k:Nat}{v:ByteArray}(b:(iS k v fr).length<=fr):∀x∈iS k v fr,x.1∈fr:=by
 intro x c;have a:x.1∈(iS k v fr).reverse.map (·.1):=AY.2 ⟨x,ζ,rfl⟩;rw[uP k v fr b]at a;grind
theorem iI(v:ByteArray)(a b)(c:b<=v.size):(v.extract a b).size=b-a:=by
 simp_all
theorem Hl{fs:Fs}:∀(k:Nat) (v:ByteArray) (fr:List Nat),v.size<=240 * k->(∀x∈iS k v fr,fs.has x.1 x.2/\x.1≠0)->eV fs (kH (iS k v fr)) v (iS k v fr)
 |0,v,fr,hv,_=>by
  have:v.size=0:=ω
  simp[iS,eV,this]
 |k+1,v,fr,hv,hx=>by
  by_cases h:v.size=0
  .rw[kV _ _ _ h];exact h
  .rw[kW _ _ _ h]at hx⊢;have d:(v.extract (min v 240) v)=v.size-min v.size 240:=iI _ _ _ (jU _);have b:(v.extract 0 (min v 240))=min v.size 240:=σ;have c:=Hl k (v.extract (min v 240) v) fr ω (λx e=>hx x (by simp[e]));refine⟨rfl,ω,(hx _ σ).1,rfl,b,_,rfl,?_,?_⟩
   .show _↔v.size-(v.extract 0 (min v 240)).size=0;rw[b];constructor
    .intro a
     cases hc:iS k (v.extract (min v 240) v) fr with
     |nil =>
      rw[hc]at c;have:(v.extract (min v 240) v).size=0:=c;omega
     |cons y l =>
      rw[hc]at a;exact absurd a (hx y (by rw[hc];simp)).2
    .intro a;rw[kV _ _ _ ω];rfl
   .show eV fs _ (v-(v.extract 0 (min v 240))) _;grind
theorem Sw:∀(k:Nat) (v:ByteArray) (fr:List Nat),(iS k v fr).length<=fr.length->(∀p∈fr,bF (p:Nat)=true)->∀x∈iS k v fr,x.2.encE=0
 |0,_,_,_,_,x,a=>by simp[iS]at a
 |k+1,v,fr,hl,hp,x,a=>by
  by_cases h:v.size=0
  .rw[kV _ _ _ h]at a;simp at a
  .rw[kW _ _ _ h]at hl a;rw[jB]at hl;rcases AS.1 a with rfl|a
   .have b:(v.extract 0 (min v 240))=min v.size 240:=σ;refine Ux _ _ ?_ (by rw[b];omega) (by rw[b];omega);cases hc:iS k (v.extract (min v 240) v) fr with
    |nil=>exact .inl rfl
    |cons y l =>
     refine .inr (hp _ (uQ (k:=k) (v:=v.extract (min v 240) v) ω y (by rw[hc];simp)))
   .exact Sw k _ fr ω hp x a
def fB(ch:List (Nat×Pg)):List UInt8:=ch.flatMap (λx=>x.2.data.data.toList)
theorem Mf:∀(k:Nat) (v:ByteArray) (fr:List Nat),v.size<=240 * k->fB (iS k v fr)=v.data.toList
 |0,v,fr,hv=>by
  have b:v.size=0:=ω
  rw[vQ b];rfl
 |k+1,v,fr,hv=>by
  by_cases h:v.size=0
  .rw[kV _ _ _ h,vQ h];rfl
  .rw[kW _ _ _ h];have e:(v.extract (min v.size 240) v.size).size=v.size-min v.size 240:=iI _ _ _ (jU _);have a:=Mf k (v.extract (min v.size 240) v.size) fr ω;rw[fB,AK];rw[fB]at a;rw[a];show(v.extract 0 (min v.size 240)).data.toList++(v.extract (min v.size 240) v.size).data.toList=_;rw[KZ,KZ,<-LW,Array.extract_append_extract];congr 1;have c:min 0 (min v.size 240)=0:=ω;have d:max (min v.size 240) v.size=v.size:=ω;simp_all
def En.value(x:En):List UInt8:=if x.e.over=0 then x.e.val.data.toList else fB x.ch
def En.newB(x:En):Bool:=x.e.over==0&&decide (60<x.e.size)
def dZ(x:En)(fr:List Nat):List (Nat×Pg):=if x.newB=true then iS 2 x.e.val fr else []
def pL(x:En)(fr:List Nat):En:=if x.newB=true then ⟨⟨x.e.key,⟨#[]⟩,x.e.size,kH (dZ x fr)⟩,dZ x fr⟩ else x
def aX:List En->List Nat->List En×List (Nat×Pg)
 |[],_=>([],[])
 |x :: es,fr=>(pL x fr :: (aX es (fr.drop (dZ x fr).length)).1,(dZ x fr).reverse++(aX es (fr.drop (dZ x fr).length)).2)
theorem zM(x fr):(pL x fr).e.key=x.e.key:=by unfold pL;split<;>rfl
theorem sQ:∀(es:List En) (fr:List Nat),(aX es fr).1.map (λx=>x.e.key)=es.map (λx=>x.e.key)
 |[],_=>rfl
 |x :: es,fr=>by simp only[aX,BE,zM,sQ es]
theorem sP(es fr):(aX es fr).1.length=es:=by
 have:=BR List.length (sQ es fr);grind
theorem zN:∀(es:List En) (fr:List Nat),(aX es fr).2.length<=fr->(aX es fr).2.map (·.1)=fr.take (aX es fr).2
 |[],_,_=>by simp[aX]
 |x :: es,fr,hl=>by
  simp only[aX,jK,EB]at hl⊢;have a:(dZ x fr).reverse.map (·.1)=fr.take (dZ x fr):=by
   unfold dZ at hl⊢;split
   .rename_i h;rw[AU h]at hl;exact uP 2 _ fr ω
   .simp
  rw[BL,a,zN es (fr.drop (dZ x fr)) ζ,List.take_add]
theorem tQ (h:l.map (·.1)=fr.take l):∀x∈l,x.1∈fr:=by
 intro x b;have a:x.1∈l.map (·.1):=AY.2 ⟨x,b,rfl⟩;grind
theorem sR{P:En->List Nat->Prop}:∀(es:List En) (fr:List Nat),(aX es fr).2.length<=fr->∀b∈(aX es fr).1,∃x∈es,∃f,(∀p∈f,p∈fr)/\(dZ x f).length<=f/\b=pL x f/\∀z∈dZ x f,z∈(aX es fr).2
 |[],_,_,b,a=>by simp[aX]at a
 |x :: es,fr,hl,b,a=>by
  simp only[aX,jK,EB,AS]at hl a;rcases a with rfl|a
  .exact⟨x,σ,fr,λp c=>c,ω,rfl,λz d=>by simp[aX,d]⟩
  .have⟨k,e,f,g,h,i,j⟩:=sR (P:=P) es (fr.drop (dZ x fr)) ζ b a;exact⟨k,by simp[e],f,λp c=>BV (g p c),h,i,λz d=>by simp[aX,j z d]⟩
theorem Mj:∀(es:List En) (fr:List Nat),(aX es fr).2.length<=fr->(∀p∈fr,bF (p:Nat)=true)->∀x∈(aX es fr).2,x.2.encE=0
 |[],_,_,_,x,hx=>by simp[aX]at hx
 |x :: es,fr,hl,hp,y,a=>by
  simp only[aX,jK,EB,AN,KR]at hl a;rcases a with a|a
  .unfold dZ at a hl;split at a
   .rename_i b;rw[AU b]at hl;exact Sw 2 _ fr ω hp y a
   .simp at a
  .exact Mj es (fr.drop (dZ x fr)) ζ (λp b=>hp p (BV b)) y a
theorem oH{fs}{x:En}(h:x.good fs)(b:x.newB=true):x.e.size=(x.e.val.size:Int)/\x.e.val.size<=400/\60<x.e.val.size/\x.ch=[]:=by
 simp only[En.newB,AM,CU,BO]at b;obtain⟨_,_,h|⟨_,a,e,d,_,c,_⟩⟩:=h
 .grind
 .rw[b.1]at a;simp[bF]at a
theorem qKq(x fr):esz (pL x fr)=esz x:=by
 unfold pL;split
 .rename_i h;simp only[En.newB,AM,CU,BO]at h;unfold esz;simp only;rw[AU h.2,AU h.2]
 .rfl
theorem Ha{fs x}(h:x.good fs)(a:x.newB=true)(fr):dZ x fr≠[]:=by
 have⟨_,_,b,_⟩:=oH h a;rw[dZ,AU a,kW _ _ _ ω];simp
theorem xU{a}(h:a≠[]):∃b∈a,kH a=b.1:=by
 cases a with
 |nil=>grind
 |cons b l=>exact⟨b,σ,rfl⟩
theorem gC (h:bF (p:Nat)=true):2<=p/\p<4096:=by
 simp only[bF,AM,BO]at h;omega
theorem Zb{fs:Fs}{x:En}(h:x.good fs)(fr)(d:(dZ x fr).length<=fr)(k:∀p∈fr,bF (p:Nat)=true):qS (pL x fr).e.val (pL x fr).e.size (pL x fr).e.over=true:=by
 unfold pL;by_cases hn:x.newB=true
 .rw[AU hn];have⟨a,b,c,_⟩:=oH h hn;have⟨f,e,g⟩:=xU (Ha h hn fr);have j:=by
   rw[dZ,AU hn]at e d;exact uQ d f e
  simp only[qS,DZ,AM,CU,BO];refine .inr ⟨⟨⟨?_,mN.2 rfl⟩,ω⟩,ω⟩;grind
 .rw[AQ hn];simp only[En.newB,AM,CU,BO,not_and,Int.not_lt]at hn;simp only[qS,DZ,AM,CU,BO];obtain⟨_,_,⟨a,b,c,i⟩|⟨a,b,o,n,c,i,l,m,_⟩⟩:=h
  .omega
  .exact .inr ⟨⟨⟨b,mN.2 a⟩,ω⟩,ω⟩
theorem qB{fs c}:∀{l:List (Nat×Pg)}{p r:Nat},eV fs p r l->(∀x∈l,∀g,fs.has x.1 g->c.has x.1 g)->eV c p r l
 |[],_,_,h,_=>h
 |x :: l,p,r,h,hs=>by
  have⟨a,d,b,e,f,n,i,j,k⟩:=h;refine⟨a,d,?_,e,f,n,i,j,qB k (λo m=>hs o (by simp[m]))⟩;grind
theorem qOj{fs i:Fs}{x:En}(h:x.good fs)(fr)(k:(dZ x fr).length<=fr)(q:∀p∈fr,bF (p:Nat)=true)(l:∀a∈dZ x fr,i.has a.1 a.2)(r:∀p∈x.pages,∀g,fs.has p g->i.has p g):(pL x fr).ok i:=by
 unfold pL;by_cases hn:x.newB=true
 .rw[AU hn];have⟨d,c,e,_⟩:=oH h hn;have j:∀a∈dZ x fr,a.1≠0:=λa b=>by
   rw[dZ,AU hn]at b k;have:=gC (q _ (uQ k a b));omega
  have⟨a,b,m⟩:=xU (Ha h hn fr);refine⟨x.e.val,kH (dZ x fr),d,rfl,c,.inr ⟨ζ,?_⟩⟩;rw[dZ,AU hn]at l j⊢;exact Hl 2 x.e.val fr ω (λa b=>⟨l a b,j a b⟩)
 .rw[AQ hn];obtain⟨_,_,⟨d,c,e,f⟩|⟨d,c,t,s,e,f,u,n,o⟩⟩:=h
  .exact⟨x.e.val,0,e,d,f,.inl ⟨rfl,c⟩⟩
  .refine⟨t,s,e,f,n,.inr ⟨?_,qB o (λa b=>r a.1 (AY.2 ⟨a,b,rfl⟩))⟩⟩;rw[f]at c;have:=gC c;omega
theorem Za{fs:Fs}{x:En}(h:x.good fs)(fr)(a:(dZ x fr).length<=fr)(f:∀p∈fr,bF (p:Nat)=true):(pL x fr).value=x.value:=by
 unfold pL;by_cases hn:x.newB=true
 .rw[AU hn];have⟨g,i,j,_⟩:=oH h hn;have⟨c,b,d⟩:=xU (Ha h hn fr);have k:=by
   rw[dZ,AU hn]at b a;exact(gC (f _ (uQ a c b))).1
  have e:=by
   simp only[En.newB,AM,CU]at hn;exact hn.1
  unfold En.value;rw[AU e];simp only;rw[AQ (by rw[d];omega),dZ,AU hn];exact Mf 2 _ fr ω
 grind
def lR:NT->List Nat->T×List (Nat×Pg)
 |.kept t _,_=>(t,[])
 |.leaf _ es,fr=>(.leaf (fr.getD (aX es fr).2.length 0) (aX es fr).1,(aX es fr).2++[(fr.getD (aX es fr).2.length 0,eQ (aX es fr).1)])
 |.bran _ _,_=>(.leaf 0 [],[])
theorem Cw(n fr)(a:(lR n fr).2.length<=fr):(lR n fr).2.map (·.1)=fr.take (lR n fr).2:=by
 cases n with
 |kept=>simp[lR]
 |bran=>simp[lR]
 |leaf s es =>
  simp only[lR,jK,AP]at a⊢;rw[BL,zN es fr ω,AJ ω];grind
structure Laid (fs fs':Fs) (Z:List Nat) (ws:List (Nat×Pg)):Prop where
 has:∀y∈ws,fs'.has y.1 y.2
 keep:∀p g,p ∉ Z->fs.has p g->fs'.has p g
theorem qEj{l m}(h:l.map (λx=>x.e.key)=m.map (λx=>x.e.key))(d:cT m):cT l:=by
 have c:(m.map (λx=>x.e.key)).Pairwise (λa b=>lt a b=true):=by rw[EV];exact d
 rw[<-h,EV]at c;exact c
theorem qKt{l m:List En}(h:l.map (λx=>x.e.key)=m.map (λx=>x.e.key)){a}(d:a∈l):∃x∈m,x.e.key=a.e.key:=by
 have:a.e.key∈m.map (λx=>x.e.key):=ζ
 grind
theorem Mi:∀(es:List En) (fr:List Nat),tot esz (aX es fr).1=tot esz es
 |[],_=>rfl
 |x :: es,fr=>by simp only[aX,cQ,qKq,Mi es]
theorem Sz{fs:Fs}{n:NT}(h:Ok0 fs n)(fr)(q:(lR n fr).2.length<=fr)(e:∀p∈fr,bF (p:Nat)=true):∀b∈(lR n fr).2,b.2.encE=0:=by
 cases n with
 |kept=>simp[lR]
 |bran=>exact h.elim
 |leaf s es =>
  have⟨i,u,j,k,l⟩:=h;simp only[lR,jK,AP]at q⊢;intro b a;rcases AN.1 a with a|a
  .exact Mj es fr ω e b a
  .rw[AL]at a;subst a;have d:=sQ es fr;refine qLo _ ?_ (qEj d j) ?_ (by rw[Mi];exact k)
   .intro f;simp_all
   .intro b a;obtain⟨t,r,g,m,o,rfl,_⟩:=sR (P:=λ_ _=>True) es fr ω b a;have c:=l t r;rw[zM];exact⟨c.1,c.2.1,Zb c g o (λp h=>e p (m p h))⟩
theorem aZ.in0 {fs s a}(h:aZ fs 0 t s)(i:∀x∈T.ents 0 t,a.has x.e.key=true):aZ fs 0 t a:=by
 cases t with
 |branch=>exact h.elim
 |leaf p es =>
  have⟨g,b,c,d,e,_,f⟩:=h;exact⟨g,b,c,d,e,i,f⟩
theorem qIh {fs a}(h:aZ fs 0 t s)(b:∀p∈T.pages 0 t,∀g,fs.has p g->a.has p g):aZ a 0 t s:=by
 cases t with
 |branch=>exact h.elim
 |leaf p es =>
  have⟨g,f,i,j,k,l,m⟩:=h;refine⟨g,b p (by simp[T.pages]) g f,i,j,k,l,λd c=>?_⟩;have⟨y,x,n,o,q,r⟩:=m d c;refine⟨y,x,n,o,q,r.imp id (λ⟨u,v⟩=>⟨u,qB v (λe w=>b e.1 ?_)⟩)⟩;simp only[T.pages,AS,AV];exact .inr ⟨d,c,AY.2 ⟨e,w,rfl⟩⟩
def NT.pages0:NT->List Nat
 |.kept t _=>T.pages 0 t
 |.leaf _ es=>es.flatMap En.pages
 |.bran _ _=>[]
theorem Sy{fs e:Fs}{n:NT}{Z fr f:List Nat}{u:List (Nat×Pg)}(L:Laid fs e Z u)(h:Ok0 fs n)(m:∀p∈f,p∈fr)(C:(lR n f).2.length<=f)(o:∀p∈fr,bF (p:Nat)=true)(j:∀c∈(lR n f).2,c∈u)(l:∀p∈n.pages0,p ∉ Z)(s)(r:∀x∈n.ents0,s.has x.e.key=true):
  aZ e 0 (lR n f).1 s/\bF ((lR n f).1.place:Nat)=true\/aZ e 0 (lR n f).1 s/\∃t b,n=.kept t b:=by
 cases n with
 |bran=>exact h.elim
 |kept t b =>
  refine .inr ⟨?_,t,b,rfl⟩;cases t with
  |branch=>exact h.elim
  |leaf p es =>
   exact(qIh h (λq F g i=>L.keep q g (l q F) i)).in0 r
 |leaf b es =>
  have⟨y,J,K,M,z⟩:=h;simp only[lR,jK,AP]at C j⊢;have D:f.getD (aX es f).2 0∈f:=by
   grind
  refine .inl ⟨⟨eQ (aX es f).1,L.has (f.getD (aX es f).2 0,eQ (aX es f).1) (j _ (GM _ (AL.2 rfl))),rfl,rfl,?_,?_,?_⟩,o _ (m _ D)⟩
  .intro d;have:=sP es f;grind
  .intro c k;have⟨x,a,d⟩:=qKt (sQ es f) k;rw[<-d];exact r x a
  .intro c k;obtain⟨x,a,v,A,B,rfl,G⟩:=sR (P:=λ_ _=>True) es f ω c k;apply qOj (z x a) v B (λp h=>o p (m p (A p h))) (λI H=>L.has _ (j _ (by simp[G I H])));intro p E g i;exact L.keep p g (l p (AV.2 ⟨x,a,E⟩)) i
theorem Zd{fs:Fs}{n:NT}(h:Ok0 fs n)(b:∀t a,n=.kept t a->bF (t.place:Nat)=true)(f)(c:(lR n f).2.length<=f)(e:∀p∈f,bF (p:Nat)=true):bF ((lR n f).1.place:Nat)=true:=by
 cases n with
 |bran=>exact h.elim
 |kept t a=>exact b t a rfl
 |leaf a es =>
  simp only[lR,jK,AP]at c⊢;have d:f.getD (aX es f).2 0∈f:=by
   grind
  exact e _ d
theorem qNf(ns):2 * ns+tot (λk:ByteArray=>k+1) (ns.map (λn=>n.sp.lo))=tot gY ns:=by
 induction ns with
 |nil=>rfl
 |cons n ns ih=>rw[BE,cQ,cQ,jB];unfold gY at *;omega
def cK(f:NT->List Nat->T×List (Nat×Pg)):List NT->List Nat->List T×List (Nat×Pg)
 |[],_=>([],[])
 |n :: ns,fr=>((f n fr).1 :: (cK f ns (fr.drop (f n fr).2.length)).1,(f n fr).2++(cK f ns (fr.drop (f n fr).2.length)).2)
def eK:Nat->NT->List Nat->T×List (Nat×Pg)
 |h+1,.bran _ ks,fr=>(.branch (fr.getD (cK (eK h) ks fr).2.length 0) (ks.tail.map (λn=>n.sp.lo)) (cK (eK h) ks fr).1,
   (cK (eK h) ks fr).2++[(fr.getD (cK (eK h) ks fr).2.length 0,fC (ks.tail.map (λn=>n.sp.lo)) ((cK (eK h) ks fr).1.map T.place))])
 |_,n,fr=>lR n fr
theorem rI(n fr):eK 0 n fr=lR n fr:=by cases n<;>rfl
theorem kX(h t s fr):eK h (.kept t s) fr=(t,[]):=by cases h<;>rfl
theorem qLe {k:Nat}(h:k<fr):fr.getD k 0∈fr:=by
 grind
theorem Cx{f:NT->List Nat->T×List (Nat×Pg)}(a:∀n fr,(f n fr).2.length<=fr->(f n fr).2.map (·.1)=fr.take (f n fr).2):∀(ns:List NT) (fr:List Nat),(cK f ns fr).2.length<=fr->(cK f ns fr).2.map (·.1)=fr.take (cK f ns fr).2
 |[],_,_=>by simp[cK]
 |n :: ns,fr,hl=>by
  simp only[cK,jK]at hl⊢;rw[BL,a n fr ω,Cx a ns (fr.drop (f n fr).2) ζ,List.take_add]
theorem Cz:∀(h:Nat) (n:NT) (fr:List Nat),(eK h n fr).2.length<=fr->(eK h n fr).2.map (·.1)=fr.take (eK h n fr).2
 |0,n,fr,hl=>by rw[rI]at hl⊢;exact Cw n fr hl
 |h+1,.kept t s,fr,hl=>by rfl
 |h+1,.leaf s es,fr,hl=>Cw (.leaf s es) fr hl
 |h+1,.bran s ks,fr,hl=>by
  simp only[eK,jK,AP]at hl⊢;rw[BL,Cx (Cz h) ks fr ω,AJ ω];grind
theorem fY(f):∀(ns:List NT) (fr:List Nat),(cK f ns fr).1.length=ns
 |[],_=>rfl
 |n :: ns,fr=>by simp[cK,fY f ns]
theorem Pa(f):∀(ns:List NT) (fr:List Nat) (j:Nat) (b:j<ns),(cK f ns fr).2.length<=fr->∃q,(∀p∈q,p∈fr)/\(f ns[j] q).2.length<=q/\(cK f ns fr).1[j]?=some (f ns[j] q).1/\∀c∈(f ns[j] q).2,c∈(cK f ns fr).2
 |[],_,j,b,_=>by simp at b
 |n :: ns,fr,j,b,hl=>by
  simp only[cK,jK]at hl⊢;cases j with
  |zero=>grind
  |succ j =>
   have⟨q,e,g,h,i⟩:=Pa f ns (fr.drop (f n fr).2) j ζ ζ;grind
theorem Mg{f:NT->List Nat->T×List (Nat×Pg)}{P:Nat×Pg->Prop}:∀(ns:List NT) (fr:List Nat),(cK f ns fr).2.length<=fr->(∀n∈ns,∀q,(∀p∈q,p∈fr)->(f n q).2.length<=q->∀a∈(f n q).2,P a)->∀a∈(cK f ns fr).2,P a
 |[],_,_,_=>by simp[cK]
 |n :: ns,fr,hl,H=>by
  simp only[cK,jK]at hl⊢;intro a b;rcases AN.1 b with b|b
  .grind
  .exact Mg ns (fr.drop (f n fr).2) ζ (λg d q e=>H g (by simp[d]) q (λp c=>BV (e p c))) a b
theorem sK{fs n}(H:OkH fs 0 n):Ok0 fs n:=by
 cases n with
 |leaf=>exact H
 |bran=>exact H.elim
 |kept t s=>cases t with
  |leaf=>exact(iE H).1
  |branch=>exact(iE H).1.elim
theorem Hn {fs:Fs}{n:NT}(H:StH fs h n)(q)(a:(eK h n q).2.length<=q)(b:∀p∈q,bF (p:Nat)=true):bF ((eK h n q).1.place:Nat)=true:=by
 cases n with
 |kept t s=>rw[kX];exact(iE H.ok).2.2
 |leaf s es =>
  cases h with
  |zero=>rw[rI]at a⊢;exact Zd (sK H.ok) σ q a b
  |succ h=>exact H.elim
 |bran s ks =>
  cases h with
  |zero=>exact H.elim
  |succ h =>
   simp only[eK,jK,AP]at a⊢;exact b _ (qLe ω)
theorem eE.tail_los {fs ns}(L:eE fs h ns):(ns.tail.map (λn=>n.sp.lo)).Pairwise (λa b=>lt a b=true)/\∀k∈ns.tail.map (λn=>n.sp.lo),lt (kO ns) k=true:=by
 cases ns with
 |nil=>simp
 |cons n ns =>
  have⟨c,d⟩:=BD.1 L.los;refine⟨ζ,λk e=>?_⟩;obtain⟨g,f,rfl⟩:=AY.1 e;exact c g f
theorem StH.kids {fs ks}(H:StH fs (h+1) (.bran s ks)):eE fs h ks/\2<=ks.length/\(∀k∈ks,StH fs h k)/\tot gY ks<=250/\s.lo=kO ks:=by
 have⟨⟨i,c,d,j,b,e⟩,f,g⟩:=H;exact⟨⟨λn a=>(b n a).1,λn a=>(b n a).2,e⟩,f,g,d,c⟩
theorem Ho{fs:Fs}:∀(h:Nat) {n:NT} (fr:List Nat),StH fs h n->(eK h n fr).2.length<=fr->(∀p∈fr,bF (p:Nat)=true)->∀c∈(eK h n fr).2,c.2.encE=0
 |0,n,fr,H,hl,hp=>by rw[rI]at hl⊢;exact Sz (sK H) fr hl hp
 |h+1,.kept C s,fr,H,hl,hp=>by simp[kX]
 |h+1,.leaf _ _,fr,H,_,_=>H.elim
 |h+1,.bran s ks,fr,H,hl,hp=>by
  have⟨d,l,e,F,_⟩:=H.kids;simp only[eK,jK,AP]at hl⊢;intro c a;rcases AN.1 a with a|a
  .exact Mg (f:=eK h) ks fr ω (λn o q t u=>Ho h q (e n o) u (λp h=>hp p (t p h))) c a
  .rw[AL]at a;subst a;have⟨D,E⟩:=d.tail_los;refine qLp _ _ ?_ ?_ D ?_ ?_ ?_
   .intro j;have:=BR List.length j;grind
   .simp[fY];omega
   .intro i g;refine⟨eB (Be _) (E i g),?_⟩;obtain⟨x,m,rfl⟩:=AY.1 g;exact sL (d.ok x (List.mem_of_mem_tail m))
   .intro p r;obtain⟨C,v,rfl⟩:=AY.1 r;obtain⟨w,b,rfl⟩:=AW v;rw[fY]at b;have⟨q,y,z,A,_⟩:=Pa (eK h) ks fr w b ω;have⟨_,B⟩:=AD.1 A;rw[B];exact Hn (e _ (AA b)) q z (λp h=>hp p (y p h))
   .rw[AF,fY];have k:=qNf ks;cases ks with
    |nil=>simp at l
    |cons i ks =>
     rw[BE,cQ]at k;grind
theorem Xl{fs a}:∀{h:Nat}{t:T}{s:Sp},aZ fs h t s->(∀p∈T.pages h t,∀g,fs.has p g->a.has p g)->aZ a h t s
 |0,t,s,H,hk=>qIh H hk
 |h+1,.leaf _ _,s,H,_=>by simp[aZ]at H
 |h+1,.branch p ks kids,s,H,hk=>by
  have⟨g,d,e,f,i,j,k,l⟩:=H;refine⟨g,hk p (by simp[T.pages]) g d,e,f,i,j,k,λc b=>Xl (l c b) (λq m=>hk q ?_)⟩;simp only[T.pages,AS,AV];exact .inr ⟨c.1,rH (fs:=fs) b,m⟩
theorem aZ.into{fs}:∀{h:Nat}{t:T}{s a:Sp},aZ fs h t s->le a.lo s.lo=true->(∀x∈T.ents h t,a.has x.e.key=true)->aZ fs h t a
 |0,t,s,a,H,_,hs=>H.in0 hs
 |h+1,.leaf _ _,s,a,H,_,_=>by simp[aZ]at H
 |h+1,.branch p ks kids,s,a,H,hlo,hs=>by
  have⟨K,L,J,_,k⟩:=dR H;have⟨g,v,w,y,z,A,⟨E,B,C⟩,I⟩:=H;have G:a.has (ks[ks.length-1])=true:=by
   have f:ks.length<kids:=ω;have n:=BI (fF s ks kids ks f);have⟨x,i⟩:=GS _ (oI (k _ n)).1;have d:=uU (iA (k _ n) x i);have j:kQ s ks ks=ks[ks.length-1]:=by
    unfold kQ;grind
   rw[j]at d;simp only[Sp.has,AM];exact⟨bH hlo (uU C),below_le d (xV (hs x (by simp only[T.ents,AV];grind)))⟩
  refine⟨g,v,w,y,z,A,⟨E,eB hlo B,G⟩,λx i=>?_⟩;have⟨b,f,j⟩:=AW i;have m:b<kids:=by rwa[dA]at f
  have⟨_,D⟩:=AD.1 (fF a ks kids b m);rw[<-j,D];have o:=k _ (BI (fF s ks kids b m));refine o.into ?_ ?_
  .show le (kQ a ks b) (kQ s ks b)=true;unfold kQ;split
   .exact hlo
   .rw[jQ ω];exact bG _
  .intro r q;have d:=iA o r q;have e:=hs r (by simp only[T.ents,AV];grind);simp only[Sp.has,AM];refine⟨?_,?_⟩
   .show le (kQ a ks b) _=true;have c:=uU d;unfold kQ at c⊢;split
    .exact uU e
    grind
   .show Sp.below (rO a ks b) _=true;have c:=xV d;unfold rO at c⊢;by_cases hjl:b<ks.length
    .grind
    .rw[CL ω];exact xV e
def NT.pagesH:Nat->NT->List Nat
 |h,.kept t _=>T.pages h t
 |_,.leaf _ es=>es.flatMap En.pages
 |0,.bran _ _=>[]
 |h+1,.bran _ ks=>ks.flatMap (NT.pagesH h)
variable {f:NT->List Nat->T×List (Nat×Pg)} {ns:List NT}
theorem eE.has {fs}(L:eE fs h ns)(s)(e:le s.lo (kO ns)=true)(f:∀x∈bQ h ns,s.has x.e.key=true)(j)(a:j<ns.length):
  le (kQ s (ns.tail.map (λn=>n.sp.lo)) j) (ns[j]).sp.lo=true/\∀x∈(ns[j]).entsH h,(⟨kQ s (ns.tail.map (λn=>n.sp.lo)) j,rO s (ns.tail.map (λn=>n.sp.lo)) j⟩:Sp).has x.e.key=true:=by
 have c:le (kQ s (ns.tail.map (λn=>n.sp.lo)) j) (ns[j]).sp.lo=true:=by
  unfold kQ;split
  .exact bH e (L.first _ (AA a))
  .rename_i h0;have d:(ns.tail.map (λn=>n.sp.lo))[j-1]?=some (ns[j]).sp.lo:=by
    grind
   rw[d];exact bG _
 refine⟨c,λx b=>?_⟩;simp only[Sp.has,AM];refine⟨bH c (L.lo ns[j] (AA _) x b),?_⟩;unfold rO;rw[BM,List.getElem?_tail];by_cases h1:j+1<ns
 .rw[jQ h1];refine gK.2 (.inr ?_);exact(BC.1 L.sep j (j+1) a h1 ω) x b
 .rw[CL ω];exact xV (f x (AV.2 ⟨ns[j],AA a,b⟩))
theorem Cy {fs k r}(W:Laid fs k Z r)(m:∀p∈fr,bF (p:Nat)=true):∀(h:Nat) {n:NT}{f:List Nat},StH fs h n->(∀p∈f,p∈fr)->(eK h n f).2.length<=f.length->(∀e∈(eK h n f).2,e∈r)->(∀p∈n.pagesH h,p ∉ Z)->∀(s:Sp),le s.lo n.sp.lo=true->(∀x∈n.entsH h,s.has x.e.key=true)->aZ k h (eK h n f).1 s
 |0,n,f,H,hf,hl,hw,ha,s,hlo,hs=>by
  rw[rI]at hl hw⊢;have c:n.pagesH 0=n.pages0:=by cases n<;>rfl
  rw[c]at ha;rw[Bc H.ok]at hs;rcases Sy W (sK H.ok) hf hl m hw ha s hs with h|h
  .exact h.1
  .exact h.1
 |h+1,.leaf _ _,f,H,_,_,_,_,_,_,_=>H.elim
 |h+1,.kept t sp,f,H,hf,hl,hw,ha,s,hlo,hs=>by
  rw[kX];exact(Xl (iE H.ok).1 (λq D g z=>W.keep q g (ha q D) z)).into hlo hs
 |h+1,.bran sp ks,f,H,hf,hl,hw,ha,s,hlo,hs=>by
  have⟨b,P,B,Q,E⟩:=H.kids;have i:le s.lo (kO ks)=true:=by rw[<-E];exact hlo
  have o:=hs;have⟨R,O⟩:=b.tail_los;simp only[eK,jK,AP]at hl hw⊢;have l:(ks.tail.map (λn=>n.sp.lo)).length=ks-1:=σ
  refine⟨_,W.has _ (hw _ (GM _ (AL.2 rfl))),rfl,rfl,by simp[fC],by rw[fY,l];omega,⟨ω,eB i (O _ (AA _)),?_⟩,?_⟩
  .have a:ks.length-1<ks:=ω
   have c:(ks.tail.map (λn=>n.sp.lo))[(ks.tail.map (λn=>n.sp.lo)).length-1]'(by omega)=(ks[ks.length-1]).sp.lo:=by
    grind
   rw[c];have⟨x,d⟩:=GS _ (kL (b.ok _ (AA a))).1;simp only[Sp.has,AM];exact⟨bH i (b.first _ (AA a)),below_le (b.lo _ (AA a) x d) (xV (o x (AV.2 ⟨_,AA a,d⟩)))⟩
  .intro x d;have⟨j,a,c⟩:=AW d;rw[dA,fY]at a;have⟨_,u⟩:=AD.1 (fF s (ks.tail.map (λn=>n.sp.lo)) (cK (eK h) ks f).1 j (by rw[fY];exact a));have⟨q,G,I,J,K⟩:=Pa (eK h) ks f j a ω;have⟨_,L⟩:=AD.1 J;rw[<-c,u,L];have⟨M,N⟩:=b.has s i o j a;refine Cy W m h (B _ (AA a)) (λp h=>hf p (G p h)) I (λe F=>hw e (List.mem_append_left _ (K e F))) (λp C=>ha p ?_) _ M N;show p∈ks.flatMap (NT.pagesH h);grind
def En.kv(x:En):ByteArray×List UInt8:=(x.e.key,x.value)
theorem Tg{fs:Fs}:∀(es:List En) (fr:List Nat),(∀x∈es,x.good fs)->(aX es fr).2.length<=fr->(∀p∈fr,bF (p:Nat)=true)->(aX es fr).1.map En.kv=es.map En.kv
 |[],_,_,_,_=>rfl
 |x :: es,fr,hg,hl,hp=>by
  simp only[aX,jK,EB]at hl;simp only[aX,BE,Tg es (fr.drop (dZ x fr)) (λe d=>hg e (by simp[d])) ζ (λp a=>hp p (BV a)),GJ,DC,En.kv,Za (hg x σ) fr ω hp,zM]
theorem qCh {g:T->List En}{e:NT->List En}:∀(ns:List NT) (fr:List Nat),(cK f ns fr).2.length<=fr->(∀n∈ns,∀q,(∀p∈q,p∈fr)->(f n q).2.length<=q->(g (f n q).1).map En.kv=(e n).map En.kv)->((cK f ns fr).1.flatMap g).map En.kv=(ns.flatMap e).map En.kv
 |[],_,_,_=>rfl
 |n :: ns,fr,hl,H=>by
  simp only[cK,jK]at hl;simp only[cK,AK,BL,H n σ fr (λp a=>a) ω,qCh ns (fr.drop (f n fr).2) ζ (λi d q h=>H i (by simp[d]) q (λp a=>BV (h p a)))]
theorem qCi{fs:Fs}:∀(h:Nat) {n:NT} (fr:List Nat),StH fs h n->(eK h n fr).2.length<=fr->(∀p∈fr,bF (p:Nat)=true)->(T.ents h (eK h n fr).1).map En.kv=(n.entsH h).map En.kv
 |h,.kept t s,fr,H,hl,hp=>by rw[kX,jL]
 |0,.leaf s es,fr,H,hl,hp=>by
  simp only[eK,lR,jK,AP]at hl;exact Tg es fr H.2.2.2.2 ω hp
 |0,.bran _ _,_,H,_,_=>H.elim
 |h+1,.leaf _ _,_,H,_,_=>H.elim
 |h+1,.bran s ks,fr,H,hl,hp=>by
  have⟨i,j,a,_,_⟩:=H.kids;simp only[eK,jK,AP]at hl;exact qCh (f:=eK h) (g:=T.ents h) (e:=NT.entsH h) ks fr ω (λn b q c d=>qCi h q (a n b) d (λp h=>hp p (c p h)))
theorem Sv:∀(k:Nat) (v:ByteArray) (fr:List Nat),∀b∈iS k v fr,b.2.ver=0
 |0,_,_,b,a=>by simp[iS]at a
 |k+1,v,fr,b,a=>by
  by_cases h:v.size=0
  .rw[kV _ _ _ h]at a;simp at a
  .rw[kW _ _ _ h]at a;rcases AS.1 a with rfl|a
   .rfl
   .exact Sv k _ _ b a
theorem Mh:∀(es:List En) (fr:List Nat),∀b∈(aX es fr).2,b.2.ver=0
 |[],_,b,a=>by simp[aX]at a
 |x :: es,fr,b,a=>by
  simp only[aX,AN,KR]at a;rcases a with a|a
  .unfold dZ at a;split at a
   .exact Sv _ _ _ b a
   .simp at a
  .exact Mh es _ b a
theorem Tb {P:Nat×Pg->Prop}(H:∀n q,∀a∈(f n q).2,P a):∀(ns:List NT) (fr:List Nat),∀a∈(cK f ns fr).2,P a
 |[],_=>by simp[cK]
 |n :: ns,fr=>by
  intro a b;simp only[cK,AN]at b;exact b.elim (H n fr a) (Tb H ns _ a)
theorem Td:∀(h:Nat) (n:NT) (fr:List Nat),∀b∈(eK h n fr).2,b.2.ver=0
 |h,.kept t s,fr=>by simp[kX]
 |h,.leaf s es,fr=>by
  have c:eK h (.leaf s es) fr=lR (.leaf s es) fr:=by cases h<;>rfl
  rw[c];intro b a;simp only[lR,AN,AL]at a;rcases a with a|rfl
  .exact Mh es fr b a
  .rfl
 |0,.bran _ _,_=>by simp[eK,lR]
 |h+1,.bran s ks,fr=>by
  intro b a;simp only[eK,AN,AL]at a;rcases a with a|rfl
  .exact Tb (Td h) ks fr b a
  .rfl
def En.ov(x:En):Nat:=if 60<x.e.size then (x.e.size.toNat+239) / 240 else 0
variable {es:List En}
def ovs(es:List En):Nat:=tot En.ov es
theorem Gs(a b):ovs (a++b)=ovs a+ovs b:=sA _ a b
theorem Sx:∀(k:Nat) (v:ByteArray) (fr:List Nat),(iS k v fr)<=(v.size+239) / 240
 |0,_,_=>AG _
 |k+1,v,fr=>by
  by_cases h:v.size=0
  .rw[kV _ _ _ h];simp
  .rw[kW _ _ _ h,jB];have a:=Sx k (v.extract (min v 240) v) fr;have b:=iI v (min v 240) v (jU _);omega
theorem qFo{fs:Fs}{x:En}(h:x.good fs)(fr):(dZ x fr)<=x.ov:=by
 unfold dZ;split
 .rename_i hn;have⟨a,b,c,_⟩:=oH h hn;have:=Sx 2 x.e.val fr;unfold En.ov;grind
 simp
theorem Mk{fs:Fs}:∀(es:List En) (fr:List Nat),(∀x∈es,x.good fs)->(aX es fr).2<=ovs es
 |[],_,_=>AG _
 |x :: es,fr,hg=>by
  simp only[aX,jK,EB,ovs,cQ];have d:=qFo (hg x σ) fr;have a:=Mk es (fr.drop (dZ x fr)) (λc b=>hg c (by simp[b]));unfold ovs at a;omega
theorem Ta {e}:∀(ns:List NT) (fr:List Nat),(∀n∈ns,∀q,(f n q).2.length+1<=2 * (e n).length+ovs (e n))->(cK f ns fr).2.length+ns.length<=2 * (ns.flatMap e).length+ovs (ns.flatMap e)
 |[],_,_=>by simp[cK]
 |n :: ns,fr,H=>by
  have c:=H n σ fr;have d:=Ta ns (fr.drop (f n fr).2) (λb a=>H b (by simp[a]));simp only[cK,jK,AK,Gs,jB];omega
theorem Te{fs:Fs}:∀(h:Nat) {n:NT} (fr:List Nat),StH fs h n->(eK h n fr).2+1<=2 * (n.entsH h).length+ovs (n.entsH h)
 |h,.kept t s,fr,H=>by
  rw[kX];have:=BX.2 (kL H.ok).1;grind
 |0,.leaf s es,fr,H=>by
  have g:=Mk es fr H.2.2.2.2;have a:=BX.2 H.1;simp only[eK,lR,jK,AP,NT.entsH];omega
 |0,.bran _ _,_,H=>H.elim
 |h+1,.leaf _ _,_,H=>H.elim
 |h+1,.bran s ks,fr,H=>by
  have⟨d,a,b,_,_⟩:=H.kids;have:=Ta (f:=eK h) (e:=NT.entsH h) ks fr (λn c q=>Te h q (b n c));simp only[eK,jK,AP,NT.entsH];omega
theorem Nh{fs:Fs}:∀{l:List (Nat×Pg)}{p r k:Nat},eV fs p r l->r<=240 * k->l<=k
 |[],_,_,_,_,_=>AG _
 |x :: l,p,r,k,h,hk=>by
  have⟨c,d,e,f,a,j,g,i,b⟩:=h;cases k with
  |zero=>omega
  |succ k =>
   have:=Nh (k:=k) b (by rw[a];omega);grind
theorem Pn{fs:Fs}{x:En}(h:x.ok fs)(c:x.good fs):x.pages<=x.ov:=by
 obtain⟨l,j,a,d,e,h|⟨f,h⟩⟩:=h
 .simp[En.pages,h.2]
 .simp only[En.pages,AF];have b:60<x.e.size:=by
   obtain⟨_,_,h|⟨_,_,k,_,g,_,i,_⟩⟩:=c
   .omega
   .omega
  unfold En.ov;rw[AU b,a,Int.toNat_natCast];exact Nh h ω
theorem Ui{f:En->List Nat}:∀(es:List En),(∀x∈es,(f x)<=x.ov)->(es.flatMap f)<=ovs es
 |[],_=>by simp
 |x :: es,h=>by
  have d:=h x σ;have a:=Ui es (λc b=>h c (by simp[b]));simp only[AK,jK,ovs,cQ];unfold ovs at a;omega
theorem Tl{f:T->List Nat}{e}:∀(a:List T),(∀t∈a,(f t).length+1<=2 * (e t).length+ovs (e t))->(a.flatMap f).length+a.length<=2 * (a.flatMap e).length+ovs (a.flatMap e)
 |[],_=>by simp
 |t :: a,h=>by
  have d:=h t σ;have g:=Tl a (λc b=>h c (by simp[b]));simp only[AK,jK,jB,Gs];omega
theorem Ln{fs}:∀{h:Nat}{t:T}{s:Sp},aZ fs h t s->(T.pages h t).length+1<=2 * (T.ents h t).length+ovs (T.ents h t)
 |0,.leaf p es,s,H=>by
  have⟨g,_,_,_,i,_,j⟩:=H;have n:=Ui (f:=En.pages) es (λb a=>Pn (j b a) ((kR H) b a));have o:=BX.2 i;simp only[T.pages,T.ents,jB];omega
 |0,.branch _ _ _,s,H=>H.elim
 |h+1,.leaf _ _,s,H=>by simp[aZ]at H
 |h+1,.branch p ks kids,s,H=>by
  have⟨q,_,_,_,c⟩:=dR H;have⟨_,_,_,_,_,_,⟨m,_⟩,_⟩:=H;have:=Tl (f:=T.pages h) (e:=T.ents h) kids (λt l=>by
   have⟨r,k⟩:=lL (s:=s) (ks:=ks) l;exact Ln (c _ k))
  simp only[T.pages,T.ents,jB];omega
def lZ(P:List Nat)(h:Nat)(n:NT):Prop:=∀p∈n.pagesH h,p∈P
theorem Mw {n}(b:lZ P 0 n):∀x∈n.ents0,∀p∈x.pages,p∈P:=by
 intro x a p c;cases n with
 |kept t s=>cases t with
  |leaf q es=>exact b p (by simp only[NT.pagesH,T.pages,AS,AV];exact .inr ⟨x,a,c⟩)
  |branch=>simp[NT.ents0]at a
 |leaf s es=>exact b p (AV.2 ⟨x,a,c⟩)
 |bran=>simp[NT.ents0]at a
theorem Is{c}(b):∀(k:Nat) (l:List c),∀p∈lX b k l,∀x∈p,x∈l
 |0,l,p,a,x,hx=>by simp[lX]at a
 |k+1,l,p,a,x,hx=>by
  simp only[lX]at a;split at a
  .grind
  .rcases AS.1 a with rfl|a
   .grind
   .exact BV (Is b k _ p a x hx)
theorem qO (b:∀x∈es,∀p∈x.pages,p∈P):∀n∈dE es,lZ P 0 n:=by
 intro n c p a;obtain⟨q,d,rfl⟩:=AY.1 c;have⟨x,e,a⟩:=AV.1 (show p∈q.flatMap En.pages from a);exact b x (Is esz _ es q d x e) p a
theorem tE (c:∀n∈ns,lZ P h n):∀m∈eL ns,lZ P (h+1) m:=by
 intro m d p a;obtain⟨q,e,rfl⟩:=AY.1 d;have⟨b,f,a⟩:=AV.1 (show p∈q.flatMap (NT.pagesH h) from a);exact c b (Is gY _ ns q e b f) p a
theorem uF(h t s):(NT.kept t s).pagesH h=T.pages h t:=by cases h<;>rfl
theorem Hs {n}(d:lZ P (h+1) n):∀k∈n.kidsN,lZ P h k:=by
 intro k a p b;cases n with
 |kept t s=>cases t with
  |leaf=>simp[NT.kidsN]at a
  |branch q ks kids =>
   obtain⟨c,e,rfl⟩:=AY.1 a;rw[uF]at b;apply d p;rw[uF];simp only[T.pages,AS,AV];refine .inr ⟨c.1,?_,b⟩;have:c.1∈(parts s ks kids).map (·.1):=AY.2 ⟨c,e,rfl⟩;rwa[kD]at this
 |leaf=>simp[NT.kidsN]at a
 |bran s ks=>exact d p (AV.2 ⟨k,a,b⟩)
theorem Kv:∀(h:Nat) {l n:NT},lZ P h l->lZ P h n->∀m∈qK h l n,lZ P h m
 |0,l,n,hl,hn=>qO (λd f=>(AN.1 f).elim (Mw hl d) (Mw hn d))
 |h+1,l,n,hl,hn=>tE (uS (J:=λe=>∀m∈e,lZ P h m) (λg a b B H=>λm c=>by
   simp only[AN]at c;rcases c with c|c|c
   .grind
   .exact Kv h (H a σ) (H b σ) m c
   grind) (λm c=>(AN.1 c).elim (Hs hl m) (Hs hn m)))
theorem Zl (H:∀m∈ns,lZ P h m):∀m∈rN (qK h) ns,lZ P h m :=
 uS (J:=λd=>∀m∈d,lZ P h m) (λe a b B H=>λm c=>by
  simp only[AN]at c;rcases c with c|c|c
  .grind
  .exact Kv h (H a σ) (H b σ) m c
  grind) H
theorem Gu (e:cT es)(f:cJ cs)(d:∀x∈es,∀p∈x.pages,p∈P):∀x∈bJ es cs,∀p∈x.pages,p∈P:=by
 intro x g p b;rcases(gH e f x).1 g with⟨c,a,_,rfl⟩|⟨a,_⟩
 .simp[En.pages,chE]at b
 grind
theorem Vx {fs}:∀(h:Nat) {t:T}{s:Sp}{cs:List Ch},aZ fs h t s->cJ cs->(∀p∈T.pages h t,p∈P)->∀m∈chP h t s cs,lZ P h m
 |0,.leaf q es,s,cs,ht,hr,hP=>qO (Gu (eC (h:=0) ht) hr (λc d p b=>hP p (by simp only[T.pages,AS,AV];grind)))
 |0,.branch _ _ _,s,cs,ht,_,_=>ht.elim
 |h+1,.leaf _ _,s,cs,ht,_,_=>by simp[aZ]at ht
 |h+1,.branch q ks kids,s,cs,ht,hr,hP=>by
  have⟨g,_,_,_,f⟩:=dR ht;refine tE (Zl (λm a=>?_));have⟨c,d,a⟩:=AV.1 a;have e:=λp b=>hP p (by
   simp only[T.pages,AS,AV];exact .inr ⟨c.1,rH (fs:=fs) d,b⟩)
  split at a
  .rw[AL]at a;subst a;intro p b;rw[uF]at b;exact e p b
  .exact Vx h (f c d) (lF hr c.2) e m a
theorem Ir:∀(h:Nat) {n:NT},lZ P h n->lZ P (kZ h n).1 (kZ h n).2
 |0,n,H=>by
  have a:kZ 0 n=(0,n):=by cases n<;>rfl
  grind
 |h+1,.kept t s,H=>H
 |h+1,.leaf _ _,H=>H
 |h+1,.bran s ks,H=>by
  match ks,H with
  |[],H=>exact H
  |[k],H =>
   rw[Bv];exact Ir h (λp b=>H p (AV.2 ⟨k,σ,b⟩))
  |k :: k' :: r,H=>exact H
theorem Qq:∀(k:Nat) {h:Nat}{ns:List NT},(∀n∈ns,lZ P h n)->∀x∈upP k h ns,lZ P x.1 x.2
 |k,h,[],H,x,hx=>by cases k<;>simp[upP]at hx
 |k,h,[n],H,x,hx=>by
  have c:upP k h [n]=some (kZ h n):=by cases k<;>rfl
  rw[c]at hx;cases hx;exact Ir h (H n σ)
 |0,h,a :: b :: r,H,x,hx=>by simp[upP]at hx
 |k+1,h,a :: b :: r,H,x,hx=>Qq k (tE H) x hx
theorem Zs {fs}(c:bO fs root o)(a:cJ cs):∀x∈jG o cs,lZ (bI o) x.1 x.2:=by
 apply Qq _;cases o with
 |none=>exact qO (Gu (es:=[]) .nil a σ)
 |some y=>exact Vx y.1 c.2.2 a (λp b=>b)
def qG(_:Option (Nat×T)):Prop:=True
def qSq(_:List ByteArray)(_:Option (Nat×T)):Prop:=True
def cC(x:Option (Nat×NT))(fr:List Nat):Option (Nat×T)×List (Nat×Pg):=match x with
 |none=>(none,[])
 |some y=>(some (y.1,(eK y.1 y.2 fr).1),(eK y.1 y.2 fr).2)
def rootOf:Option (Nat×T)->Nat
 |none=>0
 |some (_,t)=>t.place
structure qPe (fs:Fs) (E:List En) (fr Z:List Nat) (r:Option (Nat×T)×List (Nat×Pg)):Prop where
 enc:∀y∈r.2,y.2.encE=0
 places:r.2.map (·.1)=fr.take r.2.length
 kv:(aT r.1).map En.kv=E.map En.kv
 ver:∀y∈r.2,y.2.ver=0
 stands:∀fs',Laid fs fs' Z r.2->bO fs' (rootOf r.1) r.1/\(rootOf r.1=0\/bF (rootOf r.1:Nat)=true)
theorem qGb{fs:Fs}{d:List En}{x:Option (Nat×NT)}(H:qDg fs d x)(fr)(b:(cC x fr).2.length<=fr)(f:∀p∈fr,bF (p:Nat)=true)(Z)(k:∀c∈x,∀p∈c.2.pagesH c.1,p ∉ Z):qPe fs d fr Z (cC x fr):=by
 cases x with
 |none =>
  refine⟨by simp[cC],by simp[cC],?_,by simp[cC],λi _=>⟨rfl,.inl rfl⟩⟩;have:d=[]:=H;rw[this];rfl
 |some c =>
  have⟨a,n⟩:=c;obtain⟨e,j⟩:StH fs a n/\n.entsH a=d:=H;have g:=Hn e fr b f;refine⟨Ho a fr e b f,Cz a n fr b,j▸qCi a fr e b f,Td a n fr,λi h=>⟨⟨?_,rfl,Cy h f a e (λp a=>a) b (λc l=>l) (k _ rfl) _ (Be _) (λx _=>Ny _)⟩,.inr g⟩⟩
  .have:=gC g;show 0<(eK a n fr).1.place;omega
theorem Zc{fs a x}(H:qDg fs a x)(fr):(cC x fr).2.length<=2 * a.length+ovs a:=by
 cases x with
 |none=>exact AG _
 |some y =>
  have⟨b,n⟩:=y;obtain⟨c,d⟩:StH fs b n/\n.entsH b=a:=H;have:=Te b fr c;show(eK b n fr).2.length<=_;grind
theorem Yl {fs}(a:bO fs root o):(bI o).length<=2 * (aT o).length+ovs (aT o):=by
 cases o with
 |none=>exact AG _
 |some x =>
  have:=Ln a.2.2;show(T.pages x.1 x.2).length<=2 * (T.ents x.1 x.2)+ovs (T.ents x.1 x.2);omega
theorem Vv{fs}:∀{l:List (Nat×Pg)}{p r:Nat},eV fs p r l->2<=p->∀x∈l,2<=x.1
 |[],_,_,_,_,x,a=>by simp at a
 |y :: l,p,r,h,hp,x,a=>by
  have⟨k,m,d,e,n,j,f,g,b⟩:=h;rcases AS.1 a with rfl|a
  .omega
  .rcases qLa d e with c|c
   .have:j=0:=ω;subst this;rw[g.1 rfl]at b;cases l with
    |nil=>simp at a
    |cons z l=>have⟨_,o,_⟩:=b;omega
   .rw[f]at c;exact Vv b (gC c).1 x a
theorem qOi {fs}(h:aZ fs 0 (.leaf p es) s)(f:2<=p):∀q∈T.pages 0 (.leaf p es),2<=q:=by
 intro q b;simp only[T.pages,AS,AV]at b;rcases b with rfl|⟨i,g,b⟩
 .exact f
 .obtain⟨j,c,rfl⟩:=AY.1 b;obtain⟨_,_,⟨_,a,_⟩|⟨k,a,r,o,l,d,m,n,e⟩⟩:=kR h i g
  .grind
  .rw[d]at a;exact Vv e (gC a).1 j c
theorem Rx{fs}:∀{h:Nat}{t:T}{s:Sp},aZ fs h t s->2<=t.place->∀q∈T.pages h t,2<=q
 |0,.leaf p es,s,H,hp=>qOi H hp
 |0,.branch _ _ _,s,H,_=>H.elim
 |h+1,.leaf _ _,s,H,_=>by simp[aZ]at H
 |h+1,.branch p ks kids,s,H,hp=>by
  have⟨_,_,_,_,e⟩:=dR H;have⟨g,f,j,_,i,_⟩:=H;intro q a;simp only[T.pages,AS,AV]at a;rcases a with rfl|⟨c,b,a⟩
  .exact hp
  .have⟨l,k⟩:=lL (s:=s) (ks:=ks) b;exact Rx (e _ k) (gC (Uc f j (c.place:Int) ζ)).1 q a
theorem Bb {fs}(d:bO fs root o)(g:qG o)(c:root=0\/bF (root:Nat)=true):∀q∈bI o,2<=q:=by
 cases o with
 |none=>simp[bI]
 |some x =>
  have⟨e,h⟩:=x;have⟨f,a,b⟩:=d;apply Rx b;rw[a];exact(gC (c.resolve_left ω)).1
def eY(n:Nat)(u:List Bool):List Nat:=(List.range' 2 (n-2)).filter (λp=>!(u.getD p true))
theorem Br (h:p∈eY n u):2<=p/\p<n/\¬on u p:=by
 simp only[eY,EL,MK]at h;have⟨c,a⟩:=h;refine⟨ω,ω,λb=>?_⟩;unfold on at b;grind
theorem Uf(n u):(eY n u).Nodup:=ES _ (List.nodup_range' (s:=2) (n:=n-2))
theorem Zw {ps:List Nat}(e:n<=u)(d:∀p,on u p->p∈ps):n-2<=(eY n u)+ps:=by
 have a:=Ox (l:=List.range' 2 (n-2)) (m:=eY n u++ps) (List.nodup_range') (λp c=>by
  rw[MK]at c;simp only[AN];by_cases a:on u p
  .exact .inr (d p a)
  .refine .inl ?_;simp only[eY,EL,MK];refine⟨c,?_⟩;have b:p<u:=ω;rw[CI,jQ b];unfold on at a;grind)
 grind
theorem Fv {P:List b->Prop}(c:P [])(d:∀l x,P l->P (l++[x]))(l):P l:=by
 have e:∀a:List b,P a.reverse:=by
  intro a;induction a with
  |nil=>exact c
  |cons x a ih=>grind
 have:=e l.reverse;rwa[JQ]at this
theorem Hq(l x p):rJ (l++[x]) p=if x.1=p then some x.2 else rJ l p:=by
 unfold rJ;grind
theorem Pb:∀(l:List (Nat×ByteArray)) (s:List ByteArray) (p:Nat),(∀x∈l,x.1<s)->(laid s l).getD p ⟨#[]⟩=(rJ l p).getD (s.getD p ⟨#[]⟩):=by
 intro l;induction l using Fv with
 |c=>intro s p _;rfl
 |d l x ih =>
  intro s p h;have e:laid s (l++[x])=(laid s l).set x.1 x.2:=by simp[laid]
  rw[e,Hq,CI,List.getElem?_set];have j:=h x σ;by_cases hp:x.1=p
  .rw[AU hp,AU hp,AU (by rw[dM];omega)];rfl
  .rw[AQ hp,AQ hp,<-CI];exact ih s p (λy i=>h y (by simp[i]))
theorem nZ(fs:Fs)(h:fs.fits)(p):fs.synced.at p=fs.at p:=Pb fs.late fs.safe p h
theorem sC {fs:Fs}(h:fs.fits):fs.synced.has p g↔fs.has p g:=by
 unfold Fs.has;rw[nZ fs h];show p<(laid fs.safe fs.late)/\_↔_;rw[dM]
theorem Gi(fs:Fs)(q d p):(fs.put q d).at p=if q=p then d else fs.at p:=by
 unfold Fs.at Fs.put;simp only[Hq];split<;>rfl
def Fs.puts(fs:Fs)(l:List (Nat×Pg)):Fs:={fs with late:=fs.late++l.map (λy=>(y.1,y.2.encS))}
theorem qJe(fs:Fs):fs.puts []=fs:=by simp[Fs.puts]
theorem qEt(fs:Fs)(l a):fs.puts (l++[a])=(fs.puts l).put a.1 a.2.encS:=by simp[Fs.puts,Fs.put]
theorem Eo:∀(l:List (Nat×Pg)) (fs:Fs) (p:Nat),(p ∉ l.map (·.1)->(fs.puts l).at p=fs.at p)/\((l.map (·.1)).Nodup->∀y∈l,y.1=p->(fs.puts l).at p=y.2.encS):=by
 intro l;induction l using Fv with
 |c=>intro fs p;rw[qJe];exact⟨λ_=>rfl,λ_ y i=>by simp at i⟩
 |d l x ih =>
  intro fs p;rw[qEt,Gi];have⟨B,C⟩:=ih fs p;constructor
  .intro h;rw[BL,AN]at h;rw[AQ (λe=>h (.inr (by simp[e])))];exact B (λA=>h (.inl A))
  .intro r y i j;rw[BL]at r;have⟨z,E,D⟩:=List.nodup_append.1 r;rcases AN.1 i with i|i
   .have:x.1≠p:=λe=>D y.1 (AY.2 ⟨y,i,rfl⟩) x.1 σ (by rw[j,e]);rw[AQ this];exact C z y i j
   .rw[AL]at i;subst i;rw[AU j]
theorem qJf {fs:Fs}(e:(l.map (·.1)).Nodup)(c:∀a∈l,a.2.encE=0)(f:∀a∈l,a.2.ver=0)(d:∀a∈l,a.1<fs.safe):∀a∈l,(fs.puts l).has a.1 a.2:=by
 intro a b;refine⟨d a b,?_⟩;rw[(Eo l fs a.1).2 e a b rfl];exact Ab a.2 ζ (c a b)
theorem qEu {fs:Fs}(a:p ∉ l.map (·.1))(h:fs.has p g):(fs.puts l).has p g:=by
 refine⟨h.1,?_⟩;rw[(Eo l fs p).1 a];exact h.2
theorem Rt {fs:Fs}{q p d}(a:q≠p)(h:fs.has p g):(fs.put q d).has p g:=by
 refine⟨h.1,?_⟩;rw[Gi,AQ a];exact h.2
def Fs.made(fs:Fs)(l:List (Nat×Pg))(m:Nat)(mt:Pg):Fs:=(((fs.puts l).synced).put m mt.encS).synced
variable {fs:Fs}
theorem qFu {m:Nat}{mt:Pg}(u:fs.fits)(v:(l.map (·.1)).Nodup)(t:∀a∈l,a.2.encE=0)(w:∀a∈l,a.2.ver=0)(k:∀a∈l,a.1<fs.safe/\a.1≠m)(d:m<fs.safe)(n:∀a∈l,a.1∈Z)(o:m∈Z):
  Laid fs (fs.made l m mt) Z l/\(fs.made l m mt).at m=mt.encS/\(fs.made l m mt).late=[]/\(fs.made l m mt).safe.length=fs.safe/\∀p,p ∉ Z->(fs.made l m mt).at p=fs.at p:=by
 have i:(fs.puts l).fits:=by
  intro q c;simp only[Fs.puts,AN,AY]at c;rcases c with c|⟨a,b,rfl⟩
  .exact u q c
  .exact(k a b).1
 have r:(fs.puts l).synced.safe.length=fs.safe:=dM _ _;have f:(((fs.puts l).synced).put m mt.encS).fits:=by
  intro q c;simp only[Fs.put,Fs.synced,jE,AL]at c;subst c;show m<(laid _ _);rw[dM];exact d
 refine⟨⟨λa b=>(sC f).2 (Rt (k a b).2.symm ((sC i).2 (qJf v t w (λa b=>(k a b).1) a b))),λp g e s=>?_⟩,?_,rfl,?_,λp e=>?_⟩
 .have j:p ∉ l.map (·.1):=λd=>by
   grind
  exact(sC f).2 (Rt (λh:m=p=>e (h▸o)) ((sC i).2 (qEu j s)))
 .show(Fs.synced _).at m=_;rw[nZ _ f,Gi,AU rfl]
 .show(laid _ _).length=_;rw[dM];exact r
 .show(Fs.synced _).at p=_;have j:p ∉ l.map (·.1):=λd=>by
   grind
  rw[nZ _ f,Gi,AQ (λh:m=p=>e (h▸o)),nZ _ i,(Eo l fs p).1 j]
theorem qNi {fs b}(a:bO fs root o)(d:qG o)(c:∀p∈bI o,∀g,fs.has p g->b.has p g):bO b root o:=by
 cases o with
 |none=>exact a
 |some x=>exact⟨a.1,a.2.1,Xl a.2.2 c⟩
structure Tr (K:List ByteArray) (fs:Fs) (o:Option (Nat×T)):Prop where
 rooted:bO fs (rootOf o) o
 flat:qG o
 keys:qSq K o
 root:rootOf o=0\/bF (rootOf o:Nat)=true
theorem Tr.stays {fs a}(h:Tr K fs o)(b:∀p∈bI o,∀g,fs.has p g->a.has p g):Tr K a o:=⟨qNi h.rooted h.flat b,h.flat,h.keys,h.root⟩
def bT(fs:Fs)(p ver root:Nat):Prop:=(fs.at p=eA 256/\ver=0/\root=0)\/yE (fs.at p) (bL ver root)
structure dN (K:List ByteArray) (n:Nat) (fs:Fs) (v:Nat) (o ao:Option (Nat×T)):Prop where
 late:fs.late=[]
 len:fs.safe.length=n
 meta0:bT fs (v % 2) v (rootOf o)
 meta1:∃v',bT fs ((v+1) % 2) v' (rootOf ao)/\(v'+1=v\/(v'=v/\rootOf ao=rootOf o))
 sure:Tr K fs o
 ahead:Tr K fs ao
 size:∀s∈fs.safe,s.size=256
theorem vZ:∀(a:List (Nat×ByteArray)) (b:List ByteArray),(∀s∈b,s.size=256)->(∀x∈a,x.2.size=256)->∀s∈laid b a,s.size=256
 |[],_,h,_=>h
 |x :: a,b,h,h'=>vZ a (b.set x.1 x.2) (λs d=>(DS d).elim (h s) (λc=>c▸h' x σ)) (λf e=>h' f (by simp[e]))
theorem qFt {m mt}(h:∀s∈fs.safe,s.size=256)(d:fs.late=[])(c:∀b∈l,b.2.encE=0)(e:mt.encE=0):∀s∈(fs.made l m mt).safe,s.size=256:=by
 refine vZ _ _ (vZ _ _ h (λg a=>?_)) (λg a=>?_)
 .simp only[Fs.puts,d,jE,AY]at a;obtain⟨b,f,rfl⟩:=a;exact lU _ (c b f)
 .simp only[Fs.put,Fs.synced,jE,AL]at a;subst a;exact lU _ e
def bY(o:Option (Nat×T))(cs:List Ch)(fr:List Nat):Option (Nat×T)×List (Nat×Pg):=cC (jG o cs) fr
structure tL (K:List ByteArray) (n:Nat) (fs:Fs) (o:Option (Nat×T)) (cs:List Ch) (fr:List Nat):Prop where
 tree:Tr K fs o
 rise:cJ cs
 good:∀c∈cs,c.good
 free:∀p∈fr,2<=p/\p<n
 small:n<=4096
 len:fs.safe.length=n
 nodup:fr.Nodup
 away:∀p∈bI o,p ∉ fr
 size:(aT o).length+cs.length<=1000000
structure qBb (K:List ByteArray) (n:Nat) (fs:Fs) (o:Option (Nat×T)) (cs:List Ch) (fr:List Nat):Prop extends tL K n fs o cs fr where
 room:(bY o cs fr).2.length<=fr.length
theorem tL.place (h:tL K n fs o cs fr):∀p∈fr,bF (p:Nat)=true:=λp a=>by
 have:=h.free p a;have:=h.small;simp only[bF,AM,BO];omega
theorem nT {v:Nat}{o ao:Option (Nat×T)}(S:dN K n fs v o ao)(P:qBb K n fs o cs fr)(N:v+1<9223372036854775808)(M:2<=n):
  dN K n (fs.made (bY o cs fr).2 ((v+1) % 2) (bL (v+1:Nat) (rootOf (bY o cs fr).1))) (v+1) (bY o cs fr).1 o /\
  (∀c∈(bY o cs fr).2,c.2.encE=0)/\(bY o cs fr).2.map (·.1)=fr.take (bY o cs fr).2 /\
  (aT (bY o cs fr).1).map En.kv=(bJ (aT o) cs).map En.kv /\
  ∀o',Tr K fs o'->(∀p∈bI o',p ∉ fr)->Tr K (fs.made (bY o cs fr).2 ((v+1) % 2) (bL (v+1:Nat) (rootOf (bY o cs fr).1))) o':=by
 have u:=P.room;unfold bY at u⊢;have i:=P.place;have C:=Bb P.tree.rooted P.tree.flat P.tree.root;have L:(v+1) % 2<2:=Nat.mod_lt _ δ;have t:∀(o':Option (Nat×T)),Tr K fs o'->(∀p∈bI o',p ∉ fr)->∀p∈bI o',p ∉ (v+1) % 2 :: fr:=λo' d a p h k=>by
  have C:=Bb d.rooted d.flat d.root p h;rcases AS.1 k with b|b
  .omega
  .exact a p h b
 have e:=qGb (Hz P.tree.rooted P.rise P.good) fr u i ((v+1) % 2 :: fr) (λc f p h=>t o P.tree P.away p (Zs P.tree.rooted P.rise c f p h));have q:=e.enc;have j:=e.places;have w:=tQ j;have A:fs.fits:=λO y=>by rw[S.late]at y;simp at y
 have⟨r,F,G,H,I⟩:=qFu (fs:=fs) (l:=(cC (jG o cs) fr).2) (m:=(v+1) % 2) (mt:=bL (v+1:Nat) (rootOf (cC (jG o cs) fr).1)) (Z:=(v+1) % 2 :: fr) A
  (by rw[j];exact P.nodup.sublist (GN _ _)) q e.ver (λc f=>by have:=P.free _ (w c f);rw[P.len];omega) (by rw[P.len];omega) (λc f=>LQ _ (w c f)) σ
 have⟨J,z⟩:=e.stands _ r;have x:∀o',Tr K fs o'->(∀p∈bI o',p ∉ fr)->Tr K (fs.made (cC (jG o cs) fr).2 ((v+1) % 2) (bL (v+1:Nat) (rootOf (cC (jG o cs) fr).1))) o':=λo' d a=>d.stays (λp i g B=>r.keep p g (t o' d a p i) B);have s:=uY (v+1:Nat) (rootOf (cC (jG o cs) fr).1) ω (z.imp (λb=>by rw[b];rfl) id);refine⟨⟨G,H.t P.len,?_,⟨v,?_,.inl ω⟩,⟨J,trivial,trivial,z⟩,x o P.tree P.away,qFt S.size S.late q s⟩,q,j,e.kv,x⟩
 .refine .inr ?_;show yE (Fs.at _ _) _;rw[F];exact Ab _ (by show((v+1:Nat):Int)<_;omega) s
 .have E:(v+1+1) % 2=v % 2:=ω;rw[E];have D:v % 2 ∉ (v+1) % 2 :: fr:=by
   intro k;rcases AS.1 k with b|b
   .omega
   .have:=P.free _ b;omega
  unfold bT;rw[I _ D];exact S.meta0
def dJ(cs:List Ch)(c:Ch):List Ch:=if fnd cs c.key=true then cs.set (dK cs c.key) c else cs.take (dK cs c.key)++c :: cs.drop (dK cs c.key)
theorem uV {k:ByteArray}(h:fnd cs k=true)(f:cJ cs):∃a:dK cs k<cs,(cs[dK cs k]).key=k:=by
 unfold fnd at h;split at h
 .rename_i c hc;have⟨a,d⟩:=AD.1 hc;refine⟨a,?_⟩;have e:lt k c.key=false:=ζ
  have b:=sD f (jU _) a;rw[d]at b⊢;exact lQ b e
 .simp at h
theorem Fh (b:cJ cs)(c):dJ cs c=cs.take (dK cs c.key)++c :: cs.drop (dK cs c.key+if fnd cs c.key=true then 1 else 0):=by
 unfold dJ;by_cases h:fnd cs c.key=true
 .rw[AU h,AU h];have⟨a,_⟩:=uV h b;rw[JA,AU a]
 grind
theorem Po (d:cJ cs)(k):∀c∈cs.drop (dK cs k+if fnd cs k=true then 1 else 0),lt k c.key=true:=by
 intro c b;by_cases h:fnd cs k=true
 .rw[AU h]at b;have⟨l,j⟩:=uV h d;have⟨g,f,a⟩:=AW b;rw[JD]at a;rw[BJ]at f;have:=(BC.1 d) (dK cs k) (dK cs k+1+g) l ω ω;grind
 .rw[AQ h]at b;have⟨g,f,a⟩:=AW b;rw[JD]at a;rw[BJ]at f;have i:lt (cs[dK cs k+0+g]'(by omega)).key k=false:=sD d ω ω;rw[a]at i;rcases Ss c.key k with e|e
  .exfalso;exact h ((Ev d k).2 ⟨c,BV b,Su e (Gx.1 i)⟩)
  .exact e
theorem nY (d:cJ cs)(c):cJ (dJ cs c):=by
 rw[Fh d];refine CO.2 ⟨d.sublist (GN _ _),BD.2 ⟨Po d c.key,d.sublist (FT _ _)⟩,?_⟩;intro a g b e;have f:=Ej g;rcases AS.1 e with rfl|e
 .exact f
 .exact fG f (Po d c.key b e)
theorem iC (b:cJ cs)(c x):x∈dJ cs c↔x=c\/(x∈cs/\x.key≠c.key):=by
 rw[Fh b];simp only[AN,AS];constructor
 .rintro(a|a|a)
  .exact .inr ⟨DD a,Si (Ej a)⟩
  .grind
  .exact .inr ⟨BV a,(Si (Po b c.key x a)).symm⟩
 .rintro(a|⟨f,g⟩)
  .grind
  .rcases(Bj (dK cs c.key)).1 f with a|a
   .grind
   .refine .inr (.inr ?_);by_cases hf:fnd cs c.key=true
    .rw[AU hf];have⟨e,d⟩:=uV hf b;rw[BZ e]at a;grind
    grind
theorem qHt (a:cJ cs)(c):(dJ cs c).length<=cs+1/\0<(dJ cs c).length:=by
 unfold dJ;split
 .rename_i h;have⟨b,_⟩:=uV h a;grind
 grind
theorem qHv {P:Ch->Prop}(d:cJ cs){c}(h:∀x∈cs,P x)(b:P c):∀x∈dJ cs c,P x:=λx e=>by
 rcases(iC d c x).1 e with rfl|⟨a,_⟩
 .exact b
 grind
def valOf(es:List En)(k:ByteArray):Option (List UInt8):=(es.find? (λx=>decide (x.e.key=k))).map En.value
theorem iU (j:cT es){k v}:valOf es k=some v↔∃x∈es,x.e.key=k/\x.value=v:=by
 unfold valOf;constructor
 .intro a;rw[GG]at a;grind
 .intro⟨x,l,c,o⟩
  cases hf:es.find? (λx=>decide (x.e.key=k)) with
  |none =>
   grind
  |some y =>
   have b:=List.find?_some hf;have g:y.e.key=k:=ζ
   have:y=x:=by
    obtain⟨d,h,rfl⟩:=AW l;obtain⟨e,i,rfl⟩:=AW (GT hf);rcases JE d e with a|a|a
    .have:=BC.1 j d e h i a;rw[c,g,cP]at this;cases this
    .subst a;rfl
    .have:=BC.1 j e d i h a;rw[c,g,cP]at this;cases this
   rw[this,MX,o]
theorem qJq (d:cT es)(e:cJ cs)(k:ByteArray):valOf (bJ es cs) k=match cs.find? (λc=>decide (c.key=k)) with
  |some c=>if c.gone=true then none else some c.val.data.toList
  |none=>valOf es k:=by
 have n:=oB d e;cases hf:cs.find? (λc=>decide (c.key=k)) with
 |some c =>
  have o:=GT hf;have m:c.key=k:=ζ
  have y:∀b∈cs,b.key=k->b=c:=by
   intro b x l;obtain⟨r,u,rfl⟩:=AW x;obtain⟨s,w,rfl⟩:=AW o;rcases JE r s with i|i|i
   .have:=BC.1 e r s u w i;rw[l,m,cP]at this;cases this
   .subst i;rfl
   .have:=BC.1 e s r w u i;rw[l,m,cP]at this;cases this
  simp only;split
  .rename_i hg
   cases hv:valOf (bJ es cs) k with
   |none=>rfl
   |some v =>
    have⟨f,j,a,_⟩:=(iU n).1 hv;rcases(gH d e f).1 j with⟨b,g,h,rfl⟩|⟨g,h⟩
    .have:=y b g a;grind
    grind
  .rename_i hg;refine(iU n).2 ⟨chE c,(gH d e _).2 (.inl ⟨c,o,ζ,rfl⟩),m,?_⟩;rfl
 |none =>
  have t:∀c∈cs,c.key≠k:=λc p l=>by
   grind
  simp only;cases hv:valOf es k with
  |none =>
   cases hv2:valOf (bJ es cs) k with
   |none=>rfl
   |some v =>
    have⟨f,j,a,q⟩:=(iU n).1 hv2;rcases(gH d e f).1 j with⟨b,g,h,rfl⟩|⟨g,h⟩
    .exact absurd a (t b g)
    .rw[(iU d).2 ⟨f,g,a,q⟩]at hv;cases hv
  |some v =>
   have⟨f,j,a,q⟩:=(iU d).1 hv;exact(iU n).2 ⟨f,(gH d e f).2 (.inr ⟨j,λc p=>ζ⟩),a,q⟩
theorem Ls:¬on (List.replicate n false) p:=by
 unfold on;rw[DY];split<;>simp
theorem pA(n o):vE (List.replicate n false) o:=by
 cases o with
 |none=>trivial
 |some x=>exact λc b a=>absurd a Ls
theorem uK {r d:Nat}{o o':Option (Nat×T)}(h:bO fs r o)(b:bO fs d o')(c:fs.safe.length<=u)(a:vE u o):vE (marks u (bI o')) o:=by
 cases o' with
 |none=>exact a
 |some x' =>
  cases o with
  |none=>trivial
  |some x=>exact Shut.after h.2.2 b.2.2 c a
def dI(os:List (Option (Nat×T))):List Bool:=marks (List.replicate 4096 false) (os.flatMap bI)
theorem vK(a):(dI a).length=4096:=by unfold dI;rw[fJ,CT]
theorem Fj(a o):dI (a++[o])=marks (dI a) (bI o):=by
 unfold dI;rw[BS,gX,AK,MQ,EY]
theorem Xe (e:fs.safe.length<=4096):∀(a:List (Option (Nat×T))),(∀o∈a,bO fs (rootOf o) o)->∀o,bO fs (rootOf o) o->vE (dI a) o:=by
 intro a;induction a using Fv with
 |c=>intro _ o _;exact pA 4096 o
 |d a x ih =>
  intro b o c;rw[Fj];exact uK c (b x σ) (by rw[vK];exact e) (ih (λq d=>b q (by simp[d])) o c)
theorem Qp {c}:on (dI c) p↔p∈c.flatMap bI/\p<4096:=by
 unfold dI;rw[rC];constructor
 .rintro(d|⟨a,b⟩)
  .exact absurd d Ls
  grind
 grind
theorem Cl (h:Tr K fs o):∀p∈bI o,p<fs.safe:=by
 cases o with
 |none=>simp[bI]
 |some x=>exact Gn h.rooted.2.2
theorem qJl {a:List (Option (Nat×T))}(j:fs.safe=n)(k:n<=4096)(g:∀o'∈a,Tr K fs o')(f:o∈a)(m:cJ cs)(h:∀c∈cs,c.good)(l:(aT o).length+cs<=1000000):
  tL K n fs o cs (eY n (dI a))/\∀o'∈a,∀p∈bI o',p ∉ eY n (dI a):=by
 have e:∀o'∈a,∀p∈bI o',p ∉ eY n (dI a):=λo' d p b i=>by
  have q:=Cl (g o' d) p b;exact(Br i).2.2 (Qp.2 ⟨AV.2 ⟨o',d,b⟩,ω⟩)
 exact⟨⟨g o f,m,h,λp b=>⟨(Br b).1,(Br b).2.1⟩,k,j,Uf _ _,e o f,l⟩,e⟩
theorem qJt:∀(a:List (Option (Nat×T))),(∀o∈a,Tr K fs o)->(a.flatMap bI)<=tot (λo=>2 * (aT o)+ovs (aT o)) a
 |[],_=>by simp
 |o :: a,h=>by
  have c:=Yl (h o σ).rooted;have d:=qJt a (λq b=>h q (by simp[b]));rw[AK,jK,cQ];omega
theorem qEw {a:List (Option (Nat×T))}(e:n<=4096)(h:∀o'∈a,Tr K fs o')(g:Tr K fs o)(i:cJ cs)(b:∀c∈cs,c.good)(f:(eY n (dI a)).length<(bY o cs (eY n (dI a))).2):
  n<2+(2 * (bJ (aT o) cs)+ovs (bJ (aT o) cs))+tot (λo=>2 * (aT o)+ovs (aT o)) a:=by
 have j:=Zw (n:=n) (u:=dI a) (ps:=a.flatMap bI) (by rw[vK];exact e) (λp d=>(Qp.1 d).1);have k:=qJt a h;have l:=Zc (Hz g.rooted i b) (eY n (dI a));unfold bY at f;omega
theorem qBm(K fs):Tr K fs none:=⟨rfl,trivial,trivial,.inl rfl⟩
theorem Kx(K n)(d:2<=n):dN K n ⟨List.replicate n (eA 256),[],-1,-1,0⟩ 0 none none:=by
 have a:∀p,p<n->(⟨List.replicate n (eA 256),[],-1,-1,0⟩:Fs).at p=eA 256:=λp b=>by
  simp[Fs.at,rJ,DY,b]
 exact⟨rfl,σ,.inl ⟨a _ ω,rfl,rfl⟩,⟨0,.inl ⟨a _ ω,rfl,rfl⟩,.inr ⟨rfl,rfl⟩⟩,qBm _ _,qBm _ _,λs c=>by rw[List.eq_of_mem_replicate c];exact pQ 256⟩
theorem qIu{P:Program}(w T b E a zero z bytes)(h:P.underlying T=some (.slice a))(g:P.underlying b=some (.int .i64))(hi:(P.info? a).map (λi=>(i.zero,i.size,i.bytes))=some (some zero,z,bytes))(D:zero.cells.size=z)(H:0<z)(m)(p:0<m)(G:m<=140737488355328)(k:m * bytes<=140737488355328):
  ∃c w',(Builtin.append_ #[T,b] E #[.n,.i m]).run P w=.ok (.q w m c) w'/\m<=c/\w'.ownsRow 0 a z (.q w 0 c) 0 []/\Fr Bl.none w w':=by
 obtain⟨I,o,A,B,C⟩:=FL hi;have x:IntKind.i64.wrap (m:Int)=(m:Int):=by simp[IntKind.wrap,IntKind.bits,IntKind.signed];omega
 have q:¬((m:Int)<0):=ω;have r:¬((281474976710656:Int)<(m:Int) * (bytes:Int)):=by
  have:((m * bytes:Nat):Int)=(m:Int) * (bytes:Int):=σ;omega
 have j:∀d:World,Sem.run P (asIntOf (Value.int IntKind.i64 (m:Int))) d=.ok (.i64,(m:Int)) d:=λ_=>rfl;have u:¬m=0:=ω;have v:¬(m * z=0):=by rw[Nat.mul_eq_zero];omega
 have y:¬z=0:=ω;have s:¬((m:Int)<=0):=ω;have t:max (m:Int) 0=(m:Int):=ω;have f:¬(9223372036854775807<(m:Int)):=ω
 have F:=KG (need:=m) (old:=0) (bytes:=bytes) p k;have e:¬(281474976710656<Builtin.nextslicecap m 0 * bytes):=ω
 have n:=ND w m 0 a;have l:=MP w m 0 a (by unfold maxLen;omega);refine⟨grownCap w m 0 a,w.drew.alloc (.cells (Builtin.zeroCells zero.cells m++Builtin.zeroCells zero.cells (grownCap w m 0 a-m)) a),?_,n,?_,?_⟩
 .simp[Builtin.append_,DA h,DA g,sizeOf,typeInfo,o,A,B,C,asInt,j,x,q,r,zeroValue,u,v,y,s,t,f,e,Question.forced,newRow,grownCap,Builtin.firstCells]
 .refine⟨σ,.inr ⟨w,_,_,rfl,AG _,heap_alloc_new w.drew _,AG _,l,?_,σ⟩⟩;simp[Builtin.zeroCells,D];rw[<-Nat.add_mul];congr 1;omega
 .exact(AE _ w).drew.alloc _
theorem qBh{P:Program}{ops:Array Oper}{e:List Oper}{o:Oper}{a:Act}{Q:Exit->Act->World->Prop}(w)(r:o.guard=none)(f x T d b zero z bytes)(u:o.op=.call {callee:=.builtin .append,args:=#[f,x],argTypes:=#[T,d]})(p:P.underlying T=some (.slice b))(l:P.underlying d=some (.int .i64))(hi:(P.info? b).map (λi=>(i.zero,i.size,i.bytes))=some (some zero,z,bytes))(C:zero.cells.size=z)(A:0<z)(m:Nat)(y:a.eval f=.n)(B:a.eval x=.i m)(t:0<m)(s:m<=140737488355328)(q:m * bytes<=140737488355328)(h:∀c w',m<=c->w'.ownsRow 0 b z (.q w 0 c) 0 []->Fr Bl.none w w'->wpList P ops Q e (a.put o.dst (.q w m c)) w'):
  wpList P ops Q (o :: e) a w:=by
 refine FH r λK n=>?_;have⟨c,w',v,g,j,k⟩:=qIu (P:=P) w T d o.type b zero z bytes p l hi C A m t s q;unfold Oper.wp execOp;simp only[u,resolve,invoke,builtin,EK,ED,DN,DQ,BE,DB,y,B,v];exact n _ _ (h c w' g j k)
theorem qGm(m:Nat)(w)(g:m<=4000000):
  cL 222 #[.n,.i m] w λe w'=>∃v,e=.r v/\w'.ownsRow 0 69 4 v 0 []/\bW w w'/\∀k,v.ownBlock=some k->w<=k:=by
 go_enter func222,ntmps222;by_cases hm:0<m
 .have f:(0:Int)<(m:Int):=ω
  go_wp2_with (at_builtin;apply qBh w rfl (.tmp 20) (.tmp 21) 67 3 69 _ 4 48 rfl underlying67 underlying3 Hv rfl δ m rfl rfl hm ω ω;intro c h d b a);go_ret;exact⟨_,rfl,b,a.below0,ι⟩
 .obtain rfl:m=0:=ω;go_wp2;go_ret;exact⟨_,rfl,AO _ _ _ _,AC _ _,ι⟩
theorem Ri{P}(w T p a zero z bytes)(d:P.underlying T=some (.slice a))(hi:(P.info? a).map (λi=>(i.zero,i.size,i.bytes))=some (some zero,z,bytes))(v n xs)(m:w.ownsRow 0 a z v n xs)(b o):
  (Builtin.append_ #[T,T] p #[v,.s b 0 o]).run P w=.ok v w:=by
 have⟨s,e,f,h,j⟩:=FL hi;have⟨_,k⟩:=m;rcases k with⟨rfl,rfl⟩|⟨g,c,q,rfl,_,r,l,_⟩
 .cases b<;>simp[Builtin.append_,DA d,sizeOf,typeInfo,e,f,h,j,Builtin.lenOf,Builtin.firstCells,loadCells,loadCellsFrom]
 .cases b<;>simp[Builtin.append_,DA d,sizeOf,typeInfo,e,f,h,j,Builtin.lenOf,Builtin.firstCells,loadCells,loadCellsFrom,l,storeCells]
theorem qBi{P ops e o a Q}(w)(k:o.guard=none)(f x T b zero z bytes)(l:o.op=.call {callee:=.builtin .append,args:=#[f,x],argTypes:=#[T,T]})(j:P.underlying T=some (.slice b))(hi:(P.info? b).map (λi=>(i.zero,i.size,i.bytes))=some (some zero,z,bytes))(v n xs)(p:a.eval f=v)(q:w.ownsRow 0 b z v n xs)(c d)(r:a.eval x=.s c 0 d)(h:wpList P ops Q e (a.put o.dst v) w):
  wpList P ops Q (o :: e) a w:=by
 refine FH k λK g=>?_;unfold Oper.wp execOp;simp only[l,resolve,invoke,builtin,EK,ED,DN,DQ,BE,DB,p,r,Ri (P:=P) w T o.type b zero z bytes j hi v n xs q c d];exact g _ _ h
theorem aH.val{w S a e j u}(h:aH w S a e)(d:e[j]?=some u):∃b c,a=some (aD b c)/\S b/\w.c b (c+j)=some u:=by
 rcases h with h|⟨b,c,f,g,i⟩
 .subst h;simp at d
 .exact⟨b,c,f,g,i j u d⟩
def lens{α:Type}(qs:List (Pc α)):Nat:=(qs.map (·.l.length)).sum
theorem sO (qs:List (Pc a))(j)(h:j<qs.length):lens (qs.take (j+1))=lens (qs.take j)+qs[j].l:=by
 unfold lens;rw[AJ h,BL,List.sum_append];simp only[BE,DB,List.sum_cons,List.sum_nil,EC]
theorem Es (qs:List (Pc a))(j):lens (qs.take j)<=lens qs:=by
 have:qs.map (·.l.length)=(qs.take j).map (·.l.length)++(qs.drop j).map (·.l.length):=by rw[<-BL,BU]
 unfold lens;rw[this,List.sum_append];exact KS _ _
theorem Ki(a b):aU (a++b)=aU a++aU b:=by simp[aU]
theorem pH(a):(aU a).length=a * 4:=by rw[uZ];exact Il a (Uy a)
theorem Iq(a):∀u∈aU a,u.oneCell'=true:=by
 intro u c;simp[aU,Ent.cells]at c;obtain⟨d,_,b|b|b|b⟩:=c<;>subst b<;>rfl
theorem pB(a):∀u∈aM a,u.oneCell'=true:=by
 intro u c;simp[aM,MN.cells]at c;obtain⟨d,_,b|b|b|b|b⟩:=c<;>subst b<;>rfl
theorem Vn(qs ga gc S w)(hR:aH w S ga (qs.map Pc.val))(hq:∀q∈qs,q.l.length<=q.c/\aH w S q.a (aU q.l))(hS:lW S w)(hn:lens qs<=1000000)(hql:qs.length<=1000000)(hgc:qs.length<=gc):
  cL 220 #[.s ga qs gc] w λe w'=>∃v,e=.r v/\w'.ownsRow 0 69 4 v (lens qs) (aU (qs.flatMap (·.l)))/\bW w w'/\nW v w:=by
 have hG:=qGm (lens qs) w ω;go_enter func220,ntmps220;go_wp2;go_loopw [3,11] (λa b wr=>∃j:Nat,a=.i (lens (qs.take j))/\b=.i j/\j<=qs/\wr=w) (λ_ b _=>qs-(intOf b).toNat)
 case atStart=>exact⟨0,by simp[lens],rfl,AG _,rfl⟩
 case round =>
  obtain⟨j,rfl,rfl,hj,ae⟩:=hrel;subst wr;by_cases hlt:j<qs
  .obtain⟨Q,O⟩:=nM (qs[j]);obtain⟨gb,go,W,a7,I⟩:=hR.val (j:=j) (u:=.s Q.a Q.l Q.c) (by rw[BM,jQ hlt,O];rfl);subst W;have K:=Es qs (j+1);have F:=sO qs j hlt;rw[O]at F;obtain⟨n,J⟩:=nM (lens (qs.take j));rw[J]at F;obtain⟨m,a1⟩:=nM (Q.l.length);rw[a1]at F I;have ag:n+m<=1000000:=ω;have L:Hid _:=F;simp only[J];clear F K J a1 O hG hR hq;have af:¬((n:Int)+(m:Int)<0):=ω;go_wp2;go_roundw
   case rel=>exact⟨j+1,by rw[L.o];congr 1,ν,ω,by first|trivial|rfl⟩
   case measure=>simp[intOf];omega
  .obtain rfl:j=qs:=ω;simp only[BN];obtain⟨N,hN⟩:=nM (lens qs);have HN:Hid _:=hN;rw[hN]at hG hn;simp only[hN];clear hN;go_wp2_with (refine hG.m ?_;clear hG;rintro e w1 ⟨v,rfl,a3,a4,a6⟩);go_loopw [6,27] (λa b wr=>∃j:Nat,b=.i j/\j<=qs/\wr.ownsRow 0 69 4 a (lens (qs.take j)) (aU ((qs.take j).flatMap (·.l)))/\bW w wr/\nW a w) (λ_ b _=>qs-(intOf b).toNat)
   case atStart=>exact⟨0,rfl,AG _,by simpa[lens,aU] using a3,a4,a6⟩
   case round =>
    obtain⟨j,rfl,a8,X,U,hk⟩:=hrel;obtain⟨aa,ac,rfl⟩:=aG X;by_cases hlt2:j<qs
    .obtain⟨Q,O⟩:=nM (qs[j]);have a5:=O▸AA hlt2;obtain⟨gb,go,W,a7,I⟩:=(hR.on (vV U hS)).val (j:=j) (u:=.s Q.a Q.l Q.c) (by rw[BM,jQ hlt2,O];rfl);subst W;have K:=Es qs (j+1);have F:=sO qs j hlt2;rw[O]at F;have R:(qs.take (j+1)).flatMap (·.l)=(qs.take j).flatMap (·.l)++Q.l:=by rw[AJ hlt2,O];simp
     obtain⟨n,J⟩:=nM (lens (qs.take j));rw[J]at F X;simp only[J]at hk;have a2:n+Q.l<=1000000:=by have:=HN.o;omega
     have L:Hid (lens (qs.take (j+1))=n+Q.l):=F;have M:Hid (aU ((qs.take (j+1)).flatMap (·.l))=aU ((qs.take j).flatMap (·.l))++aU Q.l):=by show _=_;rw[R,Ki]
     simp only[J];have V:=(hq Q a5).2.on (vV U hS);clear F R K J O;obtain⟨Qa,Qc,Y⟩:=Q;simp only at I a2 V L M;by_cases hl0:0<Y.length
     .obtain⟨rb,ro,rfl,ad⟩:=V.addr (Bu hl0)
      have Z:∀i u,(aU Y)[i]?=some u->wr.cell? (((aD rb ro):Addr).add i)=some u:=by
       intro i u hu;obtain⟨b,ab,a0,_,hc⟩:=V.val hu;simp only[BB,CD,DC]at a0;obtain⟨rfl,rfl⟩:=a0;have e:((aD rb ro):Addr).add i=(aD rb (ro+i)):=by unfold Addr.add;split<;>simp_all
       rw[e];exact hc
      go_wp2_with (at_builtin;refine An wr rfl (.tmp 31) (.tmp 32) 67 69 _ 4 48 rfl underlying67 Hv rfl δ (.s aa n ac) n (aU ((qs.take j).flatMap (·.l))) rfl X (aD rb ro) Y Qc (aU Y) rfl (pH Y) Z (Iq Y) ω ω ?_;intro v3 w3 A3;obtain⟨g3,k3,rfl⟩:=A3.shape hl0);go_roundw
      case rel =>
       refine⟨j+1,ν,ω,by rw[L.o,M.o];exact A3.row,U.t (A3.fr.below U.size hk),?_⟩;intro k h;rcases A3.lies k h with h|h
       .exact hk k h
       .exact vJ U.size h
      case measure=>simp[intOf];omega
     .obtain rfl:=AH (by omega:Y.length=0);simp only[jN]at I;go_wp2_with (at_builtin;refine qBi wr rfl (.tmp 31) (.tmp 32) 67 69 _ 4 48 rfl underlying67 Hv (.s aa n ac) n (aU ((qs.take j).flatMap (·.l))) rfl X Qa Qc rfl ?_);go_roundw
      case rel=>exact⟨j+1,ν,ω,by rw[L.o,M.o];simpa[aU] using X,U,hk⟩
      case measure=>simp[intOf];omega
    .obtain rfl:j=qs:=ω;simp only[BN]at X hk⊢;go_wp2;go_ret;exact⟨_,rfl,X,U,hk⟩
theorem qGl(m:Nat)(w)(g:m<=4000000):
  cL 223 #[.n,.i m] w λe w'=>∃v,e=.r v/\w'.ownsRow 0 242 5 v 0 []/\bW w w'/\∀k,v.ownBlock=some k->w<=k:=by
 go_enter func223,ntmps223;by_cases hm:0<m
 .have f:(0:Int)<(m:Int):=ω;go_wp2_with (at_builtin;apply qBh w rfl (.tmp 20) (.tmp 21) 239 3 242 _ 5 88 rfl underlying239 underlying3 jD rfl δ m rfl rfl hm ω ω;intro c h d b a);go_ret;exact⟨_,rfl,b,a.below0,ι⟩
 .obtain rfl:m=0:=ω;go_wp2;go_ret;exact⟨_,rfl,AO _ _ _ _,AC _ _,ι⟩
theorem Vm(qs ga gc S w)(hR:aH w S ga (qs.map Pc.val))(hq:∀q∈qs,q.l.length<=q.c/\aH w S q.a (aM q.l))(hS:lW S w)(hn:lens qs<=1000000)(hql:qs.length<=1000000)(hgc:qs.length<=gc):
  cL 221 #[.s ga qs gc] w λe w'=>∃v,e=.r v/\w'.ownsRow 0 242 5 v (lens qs) (aM (qs.flatMap (·.l)))/\bW w w'/\nW v w:=by
 have hG:=qGl (lens qs) w ω;go_enter func221,ntmps221;go_wp2;go_loopw [3,11] (λa b wr=>∃j:Nat,a=.i (lens (qs.take j))/\b=.i j/\j<=qs/\wr=w) (λ_ b _=>qs-(intOf b).toNat)
 case atStart=>exact⟨0,by simp[lens],rfl,AG _,rfl⟩
 case round =>
  obtain⟨j,rfl,rfl,hj,ab⟩:=hrel;subst wr;by_cases hlt:j<qs
  .obtain⟨Q,A⟩:=nM (qs[j]);obtain⟨gb,go,F,a5,o⟩:=hR.val (j:=j) (u:=.s Q.a Q.l Q.c) (by rw[BM,jQ hlt,A];rfl);subst F;have t:=Es qs (j+1);have f:=sO qs j hlt;rw[A]at f;obtain⟨n,p⟩:=nM (lens (qs.take j));rw[p]at f;obtain⟨m,V⟩:=nM (Q.l.length);rw[V]at f o;have ae:n+m<=1000000:=ω;have y:Hid _:=f;simp only[p];clear f t p V A hG hR hq;have ad:¬((n:Int)+(m:Int)<0):=ω;go_wp2;go_roundw
   case rel=>exact⟨j+1,by rw[y.o];congr 1,ν,ω,by first|trivial|rfl⟩
   case measure=>simp[intOf];omega
  .obtain rfl:j=qs:=ω;simp only[BN];obtain⟨N,hN⟩:=nM (lens qs);have HN:Hid _:=hN;rw[hN]at hG hn;simp only[hN];clear hN;go_wp2_with (refine hG.m ?_;clear hG;rintro e w1 ⟨v,rfl,a1,a2,a4⟩);go_loopw [6,27] (λa b wr=>∃j:Nat,b=.i j/\j<=qs/\wr.ownsRow 0 242 5 a (lens (qs.take j)) (aM ((qs.take j).flatMap (·.l)))/\bW w wr/\nW a w) (λ_ b _=>qs-(intOf b).toNat)
   case atStart=>exact⟨0,rfl,AG _,by simpa[lens,aM] using a1,a2,a4⟩
   case round =>
    obtain⟨j,rfl,a6,G,D,L⟩:=hrel;obtain⟨aa,ac,rfl⟩:=aG G;by_cases hlt2:j<qs
    .obtain⟨Q,A⟩:=nM (qs[j]);have a3:=A▸AA hlt2;obtain⟨gb,go,F,a5,o⟩:=(hR.on (vV D hS)).val (j:=j) (u:=.s Q.a Q.l Q.c) (by rw[BM,jQ hlt2,A];rfl);subst F;have t:=Es qs (j+1);have f:=sO qs j hlt2;rw[A]at f;have C:(qs.take (j+1)).flatMap (·.l)=(qs.take j).flatMap (·.l)++Q.l:=by rw[AJ hlt2,A];simp
     obtain⟨n,p⟩:=nM (lens (qs.take j));rw[p]at f G;simp only[p]at L;have X:n+Q.l<=1000000:=by have:=HN.o;omega
     have y:Hid (lens (qs.take (j+1))=n+Q.l):=f;have z:Hid (aM ((qs.take (j+1)).flatMap (·.l))=aM ((qs.take j).flatMap (·.l))++aM Q.l):=by show _=_;rw[C,iK]
     simp only[p];have E:=(hq Q a3).2.on (vV D hS);clear f C t p A;obtain⟨Qa,Qc,H⟩:=Q;simp only at o X E y z;by_cases hl0:0<H.length
     .obtain⟨rb,ro,rfl,a9⟩:=E.addr (Bh hl0)
      have I:∀i u,(aM H)[i]?=some u->wr.cell? (((aD rb ro):Addr).add i)=some u:=by
       intro i u hu;obtain⟨b,a8,U,_,hc⟩:=E.val hu;simp only[BB,CD,DC]at U;obtain⟨rfl,rfl⟩:=U;have e:((aD rb ro):Addr).add i=(aD rb (ro+i)):=by unfold Addr.add;split<;>simp_all
       rw[e];exact hc
      go_wp2_with (at_builtin;refine An wr rfl (.tmp 31) (.tmp 32) 239 242 _ 5 88 rfl underlying239 jD rfl δ (.s aa n ac) n (aM ((qs.take j).flatMap (·.l))) rfl G (aD rb ro) H Qc (aM H) rfl (iY H) I (pB H) ω ω ?_;intro v3 w3 Y;obtain⟨g3,k3,rfl⟩:=Y.shape hl0);go_roundw
      case rel =>
       refine⟨j+1,ν,ω,by rw[y.o,z.o];exact Y.row,D.t (Y.fr.below D.size L),?_⟩;intro k h;rcases Y.lies k h with h|h
       .exact L k h
       .exact vJ D.size h
      case measure=>simp[intOf];omega
     .obtain rfl:=AH (by omega:H.length=0);simp only[jN]at o;go_wp2_with (at_builtin;refine qBi wr rfl (.tmp 31) (.tmp 32) 239 242 _ 5 88 rfl underlying239 jD (.s aa n ac) n (aM ((qs.take j).flatMap (·.l))) rfl G Qa Qc rfl ?_);go_roundw
      case rel=>exact⟨j+1,ν,ω,by rw[y.o,z.o];simpa[aM] using G,D,L⟩
      case measure=>simp[intOf];omega
    .obtain rfl:j=qs:=ω;simp only[BN]at G L⊢;go_wp2;go_ret;exact⟨_,rfl,G,D,L⟩
theorem cR{B:Nat}{W a c:World}(b:Below B W a)(d:B<=W)(e:bW a c):Below B W c:=b.t (e.m (vJ d b.size))
theorem nO(m:MN)(es ms S w)(M:m.en=es.length)(R:m.kn=ms.length)(N:es.length<=m.ec)(T:ms.length<=m.kc)(K:aH w S m.ea (aU es))(J:aH w S m.ka (aM ms))(r:lW S w)(Z:es.length<=1000000)(a0:ms.length<=1000000)(O:∀x∈es,x.fits)(P:∀x∈ms,x.fits):
  cL 215 #[m.val] w λe w'=>e=.r (.bool (m.place==0&&decide (tot esz es+tot ksz ms<62)))/\bW w w':=by
 have⟨Y,Q,h,t,a5,u,v,a7,y⟩:=m;simp only at M R N T K J;subst M R;obtain⟨d,L,G,o,-⟩:=al1 w (.cells #[.t Y,.t Q,.i h,.s t es u,.s v ms y] 242);have⟨a8,a9,aa,ab,ac⟩:=cS o;have a2:tot esz es<=427000000:=by have:=qJ esz es 427 (λx F=>rR (O x F));omega
 have a3:tot ksz ms<=27000000:=by have:=qJ ksz ms 27 (λx F=>rK (P x F));omega
 have l:=λW s=>Ft t u es S W (K.on (vV s r)) (λb g=>jY (r b g) s.size) Z N O;have n:=λW s=>Fq v y ms S W (J.on (vV s r)) (λb g=>jY (r b g) s.size) a0 T P;have⟨i,V⟩:=nM (tot esz es);have⟨j,X⟩:=nM (tot ksz ms);simp only[V,X]at a2 a3 l n⊢;clear V X;have H:=l;have I:=n;clear l n;have q:∀W,Below (w+1) d W->bW w W:=λW g=>G.t (g.m (DM _));have l:=λW g=>H W (q W g);have n:=λW g=>I W (q W g);clear H I;have f:w.1.size+1<=d:=(gL o);have a:Below (w+1) d d:=AC _ _;go_enter func215,ntmps215;by_cases hp:h=0
 .have a1:((h:Int)==0)=true:=by simp[hp]
  have U:(h==0)=true:=by simp[hp]
  clear hp;by_cases hlt:i+j<62
  .have z:Hid (decide (IntKind.i64.wrap ((i:Int)+(j:Int))<62)=true):=by show _=_;rw[CQ,KC];· omega
   have p:Hid ((h==0&&decide (i+j<62))=true):=by show _=_;simp[U,hlt]
   go_wp2;go_region_with (first|(go_at_call 212;apply(l _ (by first|exact a|exact a.drew|exact a.drew.drew)).m;rintro e k ⟨rfl,c⟩;have a:=(by first|exact cR a f c|exact cR a.drew f c|exact cR a.drew.drew f c);have⟨A,B,C,D,E⟩:=cS ((a.block w (DJ _)).t o))|(go_at_call 217;apply(n _ (by first|exact a|exact a.drew|exact a.drew.drew)).m;rintro e k ⟨rfl,c⟩;have a:=(by first|exact cR a f c|exact cR a.drew f c|exact cR a.drew.drew f c);have⟨A,B,C,D,E⟩:=cS ((a.block w (DJ _)).t o)))
   all_goals go_wp2
   all_goals go_ret
   all_goals exact⟨by rw[p.o];exact BR (λb=>Ending.returned (Value.bool b)) z,q _ (by first|exact a|exact a.drew|exact a.drew.drew)⟩
  .have z:Hid (decide (IntKind.i64.wrap ((i:Int)+(j:Int))<62)=false):=by show _=_;rw[CQ,EW];· omega
   have p:Hid ((h==0&&decide (i+j<62))=false):=by show _=_;simp[U,hlt]
   go_wp2;go_region_with (first|(go_at_call 212;apply(l _ (by first|exact a|exact a.drew|exact a.drew.drew)).m;rintro e k ⟨rfl,c⟩;have a:=(by first|exact cR a f c|exact cR a.drew f c|exact cR a.drew.drew f c);have⟨A,B,C,D,E⟩:=cS ((a.block w (DJ _)).t o))|(go_at_call 217;apply(n _ (by first|exact a|exact a.drew|exact a.drew.drew)).m;rintro e k ⟨rfl,c⟩;have a:=(by first|exact cR a f c|exact cR a.drew f c|exact cR a.drew.drew f c);have⟨A,B,C,D,E⟩:=cS ((a.block w (DJ _)).t o)));all_goals go_wp2
   all_goals go_ret
   all_goals exact⟨by rw[p.o];exact BR (λb=>Ending.returned (Value.bool b)) z,q _ (by first|exact a|exact a.drew|exact a.drew.drew)⟩
 .have a1:((h:Int)==0)=false:=by simp[hp]
  have p:Hid ((h==0&&decide (i+j<62))=false):=by show _=_;simp[hp]
  go_wp2;go_region
  all_goals go_wp2
  all_goals go_ret
  all_goals exact⟨by rw[p.o];rfl,q _ (by first|exact a|exact a.drew|exact a.drew.drew)⟩
