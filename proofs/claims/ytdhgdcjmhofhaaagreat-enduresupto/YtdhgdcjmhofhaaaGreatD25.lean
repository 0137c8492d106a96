import Derived.Test.YtdhgdcjmhofhaaaGreatD24
set_option linter.all false
set_option maxRecDepth 100000
set_option maxHeartbeats 8000000
namespace Go.Proofs.YtdhgdcjmhofhaaaGreat.Tree
open Go.RowKit Pages
variable {K:List ByteArray} {P Z fr:List Nat} {a b:Type} {cs:List Ch} {g:Pg} {h n p root:Nat} {l:List (Nat×Pg)} {o:Option (Nat×T)} {s:Sp} {t:T} {u:List Bool}
def NT.kidsN:NT->List NT
 |.kept (.leaf _ _) _=>[]
 |.kept (.branch _ ks kids) s=>(parts s ks kids).map λx=>.kept x.1 x.2
 |.leaf _ _=>[]
 |.bran _ ks=>ks
def pO:Nat->NT->NT->List NT
 |0,a,b=>qIr a b
 |h+1,a,b=>eH (qP (pO h) (a.kidsN++b.kidsN))
def gU {fs}(H:OkH fs h (.kept t s)):aV fs h t s/\s.lo.size<=24/\bI (t.place:Nat)=true:=by cases h<;>exact H
def iX(h t s):(NT.kept t s).entsH h=T.ents h t:=by cases h<;>rfl
def qJq {fs}(H:aV fs h t s)(a:s.lo.size<=24)(b:bI (t.place:Nat)=true):OkH fs h (.kept t s):=by cases h<;>exact⟨H,a,b⟩
def uF {fs ks a}(f:aV fs (h+1) (.branch p ks a) s)(i:s.lo.size<=24):∀x∈parts s ks a,OkH fs h (.kept x.1 x.2):=by
 have⟨u,v,r,n,j⟩:=dO f;have⟨g,k,o,t,l,_⟩:=f;intro x b;refine qJq (j x b) ?_ ?_
 .obtain⟨c,e,rfl⟩:=AV b
  have m:c<a.length:=by rwa[cO]at e
  have d:=fL s ks a c m;rw[jQ e,BB]at d;rw[d];show(lF s ks c).size<=24;unfold lF;grind
 .have:=Qs k o (x.1.place:Int) (by rw[l];exact AW.2 ⟨x.1,qJ (fs:=fs) b,rfl⟩)
  exact this
def uL {fs n}(H:OkH fs (h+1) n):eD fs h n.kidsN/\bL h n.kidsN=n.entsH (h+1)/\n.kidsN≠[]/\∀k∈n.kidsN,le n.sp.lo k.sp.lo=true:=by
 cases n with
 |leaf=>exact H.elim
 |bran s ks =>
  have⟨x,y,E,F,j,A⟩:=H;have i:eD fs h ks:=⟨λn b=>(j n b).1,λn b=>(j n b).2,A⟩;refine⟨i,rfl,x,λk e=>?_⟩;show le s.lo k.sp.lo=true;rw[y];exact i.first k e
 |kept t s =>
  have⟨f,z,_⟩:=gU H;cases t with
  |leaf=>simp[aV]at f
  |branch p ks kids =>
   have⟨o,q,m,_,l⟩:=dO f;refine⟨⟨?_,?_,?_⟩,?_,?_,?_⟩
   .intro n b
    obtain⟨a,c,rfl⟩:=AW.1 b;exact (uF f z) a c
   .intro n b u g
    obtain⟨a,c,rfl⟩:=AW.1 b;rw[iX]at g;exact tK (gQ (l a c) u g)
   .show((parts s ks kids).map _).Pairwise _
    rw[EO];refine JS ?_ (oJ s ks kids o q m);intro a u c g ⟨v,w⟩ D r;rw[iX]at r;have:=gD.1 (vY (gQ (l a c) D r));exact cA (this.elim (λd=>absurd d v) id) w
   .show bL h ((parts s ks kids).map _)=kids.flatMap (T.ents h)
    rw[<-jG s ks kids,bL,JV,JV];have:∀a∈parts s ((parts s ks kids).map (·.1) |> λ_=>ks) kids,(NT.kept a.1 a.2).entsH h=T.ents h a.1:=λa _=>iX h a.1 a.2;rw[JW,JW,jG];exact CI List.flatten (EF this)
   .intro d
    have:(parts s ks kids).length=0:=by
     have:=CI List.length d;simpa[NT.kidsN] using this
    rw[cO]at this;omega
   .intro k e
    obtain⟨a,c,rfl⟩:=AW.1 e;exact(sU s ks kids o q m a c).1
def yW{fs n}(H:OkH fs 0 n):n.entsH 0=n.ents0:=by
 cases n with
 |leaf=>rfl
 |bran=>rfl
 |kept t s=>cases t with
  |leaf=>rfl
  |branch=>rfl
def Bd{b}{J:List NT->Prop}(i:∀f l n B,J (f++l :: n :: B)->J (f++(b l n++B))/\iG (b l n)):∀(acc next B:List NT),(∀m∈acc,dM m=false)->iG next->J (acc.reverse++(next++B))->iG (qO b acc next)
 |[],next,B,_,ht,_=>ht
 |l :: acc,next,B,ha,ht,h=>by
  match next,ht,h with
  |[],_,h =>
   show iG ((l :: acc).reverse++[])
   rw[FD];exact .inr (λm a=>ha m (JX.1 a))
  |[m],_,h =>
   by_cases hs:dM l=true\/dM m=true
   .have e:qO b (l :: acc) [m]=qO b acc (b l m):=AU hs
    rw[e];have g:=i _ _ _ _ (show J (acc.reverse++l :: m :: B) by grind);exact Bd i acc (b l m) B (λm a=>ha m (by simp[a])) g.2 g.1
   .have e:qO b (l :: acc) [m]=(l :: acc).reverse++[m]:=AR hs
    rw[e];refine .inr (λd c=>?_);grind
  |d :: y :: r,ht,h =>
   show iG ((l :: acc).reverse++d :: y :: r)
   refine .inr (λm a=>?_);rcases AO.1 a with a|a
   .grind
   .exact(ht.resolve_left (by simp)) m a
def Fo{a}{J:List NT->Prop}(d:∀c l n B,J (c++l :: n :: B)->J (c++(a l n++B))/\iG (a l n)):∀{ns acc:List NT},iG acc->J (acc++ns)->iG (ns.foldl (xR a) acc)
 |[],acc,ht,_=>ht
 |n :: ns,acc,ht,b=>by
  refine Fo d (ns:=ns) (acc:=xR a acc n) ?_ (Bc (λc l n B b=>(d c l n B b).1) b);by_cases ha:∀f∈acc,dM f=false
  .exact Bd d acc.reverse [n] ns (λf e=>ha f (JX.1 e)) (.inl rfl) (by grind)
  .obtain⟨l,rfl⟩:=ES.1 (ht.resolve_right ha)
   have h:dM l=true:=by
    grind
   have g:xR a [l] n=a l n:=AU (.inl h);rw[g];exact(d [] l n ns (by grind)).2
def tY:iG []:=.inr (by simp)
structure qIl (fs:Fs) (h:Nat) (l n:NT) (M:List NT):Prop where
 lst:eD fs h M
 ents:bL h M=l.entsH h++n.entsH h
 ne:M≠[]
 tight:iG M
 lo:∀m∈M,le l.sp.lo m.sp.lo=true
def eD.two {fs a B l n}(L:eD fs h (a++l :: n :: B)):eD fs h [l,n]:=
 L.sub ((List.Sublist.cons_cons l (List.Sublist.cons_cons n (List.nil_sublist B))).t (MO a _))
def Vq {fs}(i:∀{l n:NT},eD fs h [l,n]->qIl fs h l n (pO h l n))(e c):∀b l n B,(eD fs h (b++l :: n :: B)/\bL h (b++l :: n :: B)=e/\∀m∈b++l :: n :: B,le c m.sp.lo=true)->(eD fs h (b++(pO h l n++B))/\bL h (b++(pO h l n++B))=e/\∀m∈b++(pO h l n++B),le c m.sp.lo=true)/\iG (pO h l n):=by
 intro b l n B ⟨f,g,d⟩;have T:=i f.two;have⟨j,k⟩:=f.swap T.lst T.ents T.lo;refine⟨⟨j,k.t g,λm a=>?_⟩,T.tight⟩;simp only[AO]at a;rcases a with a|a|a
 .grind
 .exact bG (d l (by simp)) (T.lo m a)
 grind
structure qLa (fs:Fs) (h:Nat) (E:List En) (c:ByteArray) (M:List NT):Prop where
 lst:eD fs h M
 ents:bL h M=E
 lo:∀m∈M,le c m.sp.lo=true
 tight:iG M
def Qj {fs}(j:∀{l n:NT},eD fs h [l,n]->qIl fs h l n (pO h l n)){ns c}(L:eD fs h ns)(a:∀m∈ns,le c m.sp.lo=true):qLa fs h (bL h ns) c (qP (pO h) ns):=by
 have b:=Vq j (bL h ns) c;have⟨e,f,g⟩:=tI (J:=λM=>eD fs h M/\bL h M=bL h ns/\∀m∈M,le c m.sp.lo=true) (λd l n B i=>(b d l n B i).1) (ns:=ns) ⟨L,rfl,a⟩;exact⟨e,f,g,Fo (J:=λM=>eD fs h M/\bL h M=bL h ns/\∀m∈M,le c m.sp.lo=true) (acc:=[]) b tY ⟨L,rfl,a⟩⟩
def Le{fs}:∀(h:Nat) {l n:NT},eD fs h [l,n]->qIl fs h l n (pO h l n)
 |0,l,n,d=>by
  have w:=d.ok l (by simp);have S:=d.ok n (by simp);have⟨k,p,s⟩:=kC w;have⟨q,t,u⟩:=kC S;have O:cQ (l.entsH 0++n.entsH 0):=by have:=d.rise;simpa[bL] using this
  have g:pO 0 l n=dB (l.entsH 0++n.entsH 0):=by rw[yW w,yW S];rfl
  rw[g];have⟨z,A,B,C,D⟩:=Mb (fs:=fs) O (λj i=>(AO.1 i).elim (s j) (u j)) (λg=>k (ER.1 g).1);refine⟨z,A,B,C,λe f=>?_⟩;have⟨j,i,g⟩:=D e f;rw[g];rcases AO.1 i with i|i
  .exact d.lo l (by simp) j i
  .have⟨x,r⟩:=GE _ k
   exact bG (d.lo l (by simp) x r) (bG (gV ((BG.1 d.sep).1 n (by simp) x r)) (d.lo n (by simp) j i))
 |h+1,l,n,d=>by
  have⟨k,p,s,R⟩:=uL (d.ok l (by simp));have⟨q,t,u,v⟩:=uL (d.ok n (by simp));have y:eD fs h (l.kidsN++n.kidsN):=by
   refine⟨λe f=>(AO.1 f).elim (k.ok e) (q.ok e),λe f=>(AO.1 f).elim (k.lo e) (q.lo e),CO.2 ⟨k.sep,q.sep,λa J b K j i=>?_⟩⟩;have:j∈l.entsH (h+1):=by rw[<-p];exact AX.2 ⟨a,J,i⟩
   exact cA (((BG.1 d.sep).1 n (by simp)) j this) (v b K)
  have m:=Qj (λ{l n} d=>Le h d) (c:=l.sp.lo) y (λe f=>(AO.1 f).elim (R e) (λf=>bG (gV ((BG.1 d.los).1 n (by simp))) (v e f)));have N:qP (pO h) (l.kidsN++n.kidsN)≠[]:=λg=>by
   have o:=m.ents;rw[g,eR,p]at o;exact(kC (d.ok l (by simp))).1 (ER.1 o.symm).1
  have⟨E,F,G,H,I⟩:=Mx m.lst m.tight N;refine⟨E,?_,G,H,λe f=>?_⟩
  .show bL (h+1) (eH _)=_
   rw[F,m.ents,eR,p,t]
  .have⟨Q,L,g⟩:=I e f
   rw[g];exact m.lo Q L
def qGm {fs ns c}(L:eD fs h ns)(a:∀m∈ns,le c m.sp.lo=true):qLa fs h (bL h ns) c (qP (pO h) ns):=Qj (λ{b n} L=>Le h L) L a
def chP:Nat->T->Sp->List Ch->List NT
 |_,.leaf _ es,_,cs=>dB (bF es cs)
 |0,.branch _ _ _,_,_=>[]
 |h+1,.branch _ ks kids,s,cs=>eH (qP (pO h) ((parts s ks kids).flatMap λx=>if (dF cs x.2).length=0 then [.kept x.1 x.2] else chP h x.1 x.2 (dF cs x.2)))
structure Da (fs:Fs) (h:Nat) (s:Sp) (E:List En) (ns:List NT):Prop where
 lst:eD fs h ns
 ents:bL h ns=E
 keys:∀y∈E,s.has y.e.key=true
 los:∀n∈ns,le s.lo n.sp.lo=true
 tight:iG ns
def qHa {fs}(f e):∀(l:List (T×Sp)),(∀x∈l,Da fs h x.2 (e x) (f x))->l.Pairwise (λx d=>x.2.hi≠⟨#[]⟩/\le x.2.hi d.2.lo=true)->eD fs h (l.flatMap f)/\bL h (l.flatMap f)=l.flatMap e
 |[],_,_=>⟨⟨by simp,by simp,by simp⟩,rfl⟩
 |x :: l,H,hp=>by
  have⟨t,u⟩:=BG.1 hp;have⟨k,s⟩:=qHa f e l (λd j=>H d (by simp[j])) u;have c:=H x (by simp);rw[AK,AK];refine⟨⟨by intro n i;exact(AO.1 i).elim (c.lst.ok n) (k.ok n),by intro n i;exact(AO.1 i).elim (c.lst.lo n) (k.lo n),?_⟩,by rw[eR,s,c.ents]⟩
  .refine CO.2 ⟨c.lst.sep,k.sep,λa r b g d j=>?_⟩
   have⟨o,m,g⟩:=AX.1 g;have⟨v,w⟩:=t o m;exact cA (cA ((gD.1 (vY (c.keys d (by rw[<-c.ents];exact AX.2 ⟨a,r,j⟩)))).elim (λh=>absurd h v) id) w) ((H o (by simp[m])).los b g)
def Ei {fs ks f}(n:aV fs (h+1) (.branch p ks f) s)(e:cF cs)(t:∀c∈cs,s.has c.key=true)(r:cQ ((parts s ks f).flatMap (λx=>bF (T.ents h x.1) (dF cs x.2)))):(parts s ks f).flatMap (λx=>bF (T.ents h x.1) (dF cs x.2))=bF (T.ents (h+1) (.branch p ks f)) cs:=by
 have l:=eB n;have⟨v,A,z,_,g⟩:=dO n;apply wP r (nO l e);intro q;rw[gA l e];simp only[AX,T.ents];constructor
 .intro⟨x,d,j⟩
  rcases(gA (eB (g x d)) (kV e x.2) q).1 j with⟨c,a,b,rfl⟩|⟨a,b⟩
  .exact .inl ⟨c,(mF.1 a).1,b,rfl⟩
  .refine .inr ⟨⟨x.1,qJ (fs:=fs) d,a⟩,λc i k=>b c (mF.2 ⟨i,?_⟩) k⟩
   rw[k];exact gQ (g x d) q a
 .rintro(⟨c,a,b,rfl⟩|⟨⟨y,u,j⟩,b⟩)
  .have⟨x,d,w⟩:=An s ks f v c.key (t c a)
   exact⟨x,d,(gA (eB (g x d)) (kV e x.2) _).2 (.inl ⟨c,mF.2 ⟨a,w⟩,b,rfl⟩)⟩
  .have⟨o,m⟩:=mJ (s:=s) (ks:=ks) u
   exact⟨(y,o),m,(gA (eB (g _ m)) (kV e o) _).2 (.inr ⟨j,λc i=>b c (mF.1 i).1⟩)⟩
def Yk {es}(f:cQ es)(g:cF cs)(d:∀x∈es,s.has x.e.key=true)(e:∀c∈cs,s.has c.key=true):∀a∈bF es cs,s.has a.e.key=true:=by
 intro a h;rcases(gA f g a).1 h with⟨c,b,_,rfl⟩|⟨b,_⟩
 .exact e c b
 grind
def Xd{fs}:∀(h:Nat) {t:T}{s:Sp}{cs:List Ch},aV fs h t s->s.lo.size<=24->cF cs->(∀c∈cs,c.good)->(∀c∈cs,s.has c.key=true)->Da fs h s (bF (T.ents h t) cs) (chP h t s cs)
 |0,.leaf p es,s,cs,ht,h24,hr,hc,hcs=>by
  have l:=eB (h:=0) ht;have g:=Yk l hr (gQ (h:=0) ht) hcs;by_cases h0:bF es cs=[]
  .have f:chP 0 (.leaf p es) s cs=[]:=by simp[chP,h0,dB,jL esz [] (by simp[tot])]
   rw[f];exact⟨⟨by simp,by simp,by simp⟩,h0.symm,g,by simp,tY⟩
  .have⟨y,z,Q,A,B⟩:=Mb (fs:=fs) (nO l hr) (kM (fs:=fs) l hr (kJ ht) hc) h0
   refine⟨y,z,g,λn b=>?_,A⟩;have⟨a,d,f⟩:=B n b;rw[f];exact tK (g a d)
 |0,.branch _ _ _,s,cs,ht,_,_,_,_=>ht.elim
 |h+1,.leaf _ _,s,cs,ht,_,_,_,_=>by simp[aV]at ht
 |h+1,.branch p ks kids,s,cs,ht,h24,hr,hc,hcs=>by
  have v:=uF ht h24;have⟨u,w,q,_,H⟩:=dO ht;have r:∀a∈parts s ks kids,Da fs h a.2 (bF (T.ents h a.1) (dF cs a.2)) (if (dF cs a.2).length=0 then [.kept a.1 a.2] else chP h a.1 a.2 (dF cs a.2)):=by
   intro a d;have k:=H a d;split
   .rename_i h0
    rw[AH h0,nP (eB k)];refine⟨⟨by grind,?_,by simp⟩,by simp[bL,iX],gQ k,by intro n b;rw[AJ]at b;subst b;exact bD _,.inl rfl⟩
    .intro n b P x;rw[AJ]at b;subst b
     rw[iX]at x;exact tK (gQ k P x)
   .exact Xd h k (gU (v a d)).2.1 (kV hr a.2) (λc h=>hc c (mF.1 h).1) (λc h=>(mF.1 h).2)
  have⟨m,o⟩:=qHa (fs:=fs) (h:=h) (λa=>if (dF cs a.2).length=0 then [.kept a.1 a.2] else chP h a.1 a.2 (dF cs a.2)) (λa=>bF (T.ents h a.1) (dF cs a.2)) (parts s ks kids) r (oJ s ks kids u w q);have K:∀j∈(parts s ks kids).flatMap (λa=>if (dF cs a.2).length=0 then [.kept a.1 a.2] else chP h a.1 a.2 (dF cs a.2)),le s.lo j.sp.lo=true:=by
   intro j i;have⟨a,d,i⟩:=AX.1 i;exact bG (sU s ks kids u w q a d).1 ((r a d).los j i)
  have e:=qGm m K;rw[o,Ei ht hr hcs (by rw[<-o];exact m.rise)]at e;have g:=Yk (eB ht) hr (gQ ht) hcs;generalize hM:qP (pO h) ((parts s ks kids).flatMap λa=>if (dF cs a.2).length=0 then [.kept a.1 a.2] else chP h a.1 a.2 (dF cs a.2))=M at e;have f:chP (h+1) (.branch p ks kids) s cs=eH M:=by rw[<-hM];rfl
  rw[f];by_cases h0:M=[]
  .subst h0
   have G:eH []=[]:=by rfl
   rw[G];exact⟨⟨by simp,by simp,by simp⟩,e.ents,g,by simp,tY⟩
  .have⟨C,D,R,E,F⟩:=Mx e.lst e.tight h0
   refine⟨C,D.t e.ents,g,λj i=>?_,E⟩;have⟨n,b,f⟩:=F j i;rw[f];exact e.lo n b
def StH(fs:Fs):Nat->NT->Prop
 |0,n=>OkH fs 0 n
 |h+1,.kept t s=>OkH fs (h+1) (.kept t s)
 |h+1,.bran s ks=>OkH fs (h+1) (.bran s ks)/\2<=ks.length/\∀k∈ks,StH fs h k
 |_+1,.leaf _ _=>False
def StH.ok{fs}:∀{h:Nat}{n:NT},StH fs h n->OkH fs h n
 |0,n,H=>H
 |h+1,.kept t s,H=>H
 |h+1,.bran s ks,H=>H.1
 |_+1,.leaf _ _,H=>H.elim
def Yv {fs n}(H:OkH fs h n):gF n<=27:=by have:=rI H;unfold gF;omega
def qEd{fs}:∀{h:Nat}{n:NT},OkH fs h n->dM n=false->StH fs h n
 |0,n,H,_=>H
 |h+1,.kept t s,H,_=>H
 |h+1,.leaf _ _,H,_=>H.elim
 |h+1,.bran s ks,H,hs=>by
  have⟨i,j,k,e,c,l⟩:=H;have o:=pN gF ks 27 (λb a=>Yv (c b a).1);have m:62<=tot gF ks:=by
   simp only[dM,FL]at hs;omega
  have f:2<=ks.length:=by omega
  exact⟨H,f,λb a=>qEd (c b a).1 ((e.resolve_left (by omega)) b a)⟩
def kR:Nat->NT->Nat×NT
 |h+1,.bran _ [k]=>kR h k
 |h,n=>(h,n)
def zQ(h s k):kR (h+1) (.bran s [k])=kR h k:=by rfl
def Rs{fs}:∀{h:Nat}{n:NT},OkH fs h n->StH fs (kR h n).1 (kR h n).2/\(kR h n).2.entsH (kR h n).1=n.entsH h
 |0,n,H=>by
  have d:kR 0 n=(0,n):=by cases n<;>rfl
  rw[d];exact⟨H,rfl⟩
 |h+1,.kept t s,H=>⟨H,rfl⟩
 |h+1,.leaf _ _,H=>H.elim
 |h+1,.bran s ks,H=>by
  have c:=H;have⟨k,m,o,e,a,p⟩:=H;match ks,k,e,a,c with
  |[b],_,_,a,_ =>
   rw[zQ];have⟨i,j⟩:=Rs (a b (by simp)).1;refine⟨i,j.t ?_⟩;simp[NT.entsH]
  |b :: k' :: r,_,e,a,c =>
   have d:kR (h+1) (.bran s (b :: k' :: r))=(h+1,.bran s (b :: k' :: r)):=by rfl
   rw[d];exact⟨⟨c,by simp,λg f=>qEd (a g f).1 ((e.resolve_left (by simp)) g f)⟩,rfl⟩
def upP:Nat->Nat->List NT->Option (Nat×NT)
 |_,_,[]=>none
 |_,h,[n]=>some (kR h n)
 |0,_,_ :: _ :: _=>none
 |k+1,h,a :: b :: r=>upP k (h+1) (eH (a :: b :: r))
def Bf:∀(ps:List (List b)),(∀p∈ps,2<=p.length)->2 * ps.length<=ps.flatten.length
 |[],_=>by simp
 |p :: ps,h=>by
  have:=Bf ps (λq a=>h q (by simp[a]));grind
def Gx {fs ns}(L:eD fs h ns)(e:2<=ns.length):(eH ns).length<ns.length:=by
 have b:∀n∈ns,gF n<=27:=λn a=>Yv (L.ok n a);rw[eH,AF];by_cases hb:250<tot gF ns
 .have c:=mA gF ns (λn a=>by grind)
  have:=Bf (dV gF ns) (λp d=>by
   have f:=yA gF 27 (by decide) ns.length ns (jU _) b hb p d;have e:=pN gF p 27 (λn a=>b n (by rw[<-c];exact GD.2 ⟨p,d,a⟩));omega)
  grind
 .rw[jL gF ns (by omega),AR (by omega),AM];omega
def Zp(fs:Fs)(E:List En):Option (Nat×NT)->Prop
 |none=>E=[]
 |some x=>StH fs x.1 x.2/\x.2.entsH x.1=E
def qDs{fs}:∀(k:Nat) {h:Nat}{ns:List NT},ns.length<=k+1->eD fs h ns->iG ns->Zp fs (bL h ns) (upP k h ns)
 |k,h,[],_,L,_=>by
  have c:upP k h []=none:=by cases k<;>rfl
  rw[c];rfl
 |k,h,[n],_,L,_=>by
  have c:upP k h [n]=some (kR h n):=by cases k<;>rfl
  rw[c];have⟨d,e⟩:=Rs (L.ok n (by simp));exact⟨d,e.t (by simp[bL])⟩
 |0,h,a :: b :: r,hk,L,_=>by simp at hk
 |k+1,h,a :: b :: r,hk,L,ht=>by
  have c:upP (k+1) h (a :: b :: r)=upP k (h+1) (eH (a :: b :: r)):=rfl;rw[c];have m:=Gx L (by simp);have⟨f,g,j,i,l⟩:=Mx L ht (by simp);have:=qDs k (h:=h+1) (ns:=eH (a :: b :: r)) (by omega) f i;grind
def gB(o:Option (Nat×T))(cs:List Ch):Nat×List NT:=match o with
 |none=>(0,dB (bF [] cs))
 |some x=>(x.1,chP x.1 x.2 ⟨⟨#[]⟩,⟨#[]⟩⟩ cs)
def iU(o:Option (Nat×T))(cs:List Ch):Option (Nat×NT):=upP (gB o cs).2.length (gB o cs).1 (gB o cs).2
def Pb {fs}(j:bQ fs root o)(a:cF cs)(b:∀c∈cs,c.good):eD fs (gB o cs).1 (gB o cs).2/\bL (gB o cs).1 (gB o cs).2=bF (aU o) cs/\iG (gB o cs).2:=by
 cases o with
 |none =>
  by_cases h0:bF [] cs=[]
  .have g:(gB none cs).2=[]:=by simp[gB,h0,dB,jL esz [] (by simp[tot])]
   rw[g];exact⟨⟨by simp,by simp,by simp⟩,h0.symm,tY⟩
  .have⟨d,e,l,f,m⟩:=Mb (nO (es:=[]) .nil a) (kM (fs:=fs) (es:=[]) .nil a (by simp) b) h0
   exact⟨d,e,f⟩
 |some x =>
  have⟨h,n⟩:=x;have:=Xd h (cs:=cs) j.2.2 (by decide) a b (λc _=>Lg c.key);exact⟨this.lst,this.ents,this.tight⟩
def Fw {fs}(d:bQ fs root o)(b:cF cs)(a:∀c∈cs,c.good):Zp fs (bF (aU o) cs) (iU o cs):=by
 have⟨e,f,g⟩:=Pb d b a;have:=qDs (gB o cs).2.length (by omega) e g;rw[f]at this;exact this
def Yb [DecidableEq b](f):∀{l m:List b},l.Nodup->(∀x∈l,x∈m)->tot f l<=tot f m
 |[],m,_,_=>AG _
 |x :: l,m,hn,hs=>by
  have⟨e,g⟩:=LY.1 hn;have a:tot f m=f x+tot f (m.erase x):=by
   have:=((List.perm_cons_erase (hs x (by simp))).map f).sum_nat;simpa[tot] using this
  have k:=Yb f (l:=l) (m:=m.erase x) g (λd c=>by
   grind)
  rw[cK,a];omega
def Ye (l:List a):tot (λ_=>1) l=l.length:=by
 induction l with
 |nil=>rfl
 |cons x l ih=>rw[cK,ih,jB];omega
def Lz [DecidableEq a]{l m:List a}(b:l.Nodup)(c:∀x∈l,x∈m):l.length<=m.length:=by
 have:=Yb (λ_=>1) b c;rwa[Ye,Ye]at this
def Ug{l:List ByteArray}(h:l.Pairwise (λa b=>lt a b=true)):l.Nodup:=List.Pairwise.imp (λh=>Pa h) h
def Bg{a β:Type}(f:a->List β):∀(l:List a),(∀x∈l,f x≠[])->l.length<=(l.flatMap f).length
 |[],_=>by simp
 |x :: l,h=>by
  have d:=BQ.2 (h x (by simp));have:=Bg f l (λc b=>h c (by simp[b]));grind
def jW:List (Nat×Pg)->Nat
 |[]=>0
 |x :: _=>x.1
def iJ:Nat->ByteArray->List Nat->List (Nat×Pg)
 |0,_,_=>[]
 |k+1,v,fr=>if v.size=0 then [] else
   (fr.getD (iJ k (v.extract (min v.size 240) v.size) fr).length 0,iP (jW (iJ k (v.extract (min v.size 240) v.size) fr)) (v.extract 0 (min v.size 240))):: iJ k (v.extract (min v.size 240) v.size) fr
def kN(k v fr)(h:v.size=0):iJ k v fr=[]:=by
 cases k with
 |zero=>rfl
 |succ k=>simp[iJ,h]
def kO(k v fr)(h:v.size≠0):iJ (k+1) v fr=(fr.getD (iJ k (v.extract (min v.size 240) v.size) fr).length 0,iP (jW (iJ k (v.extract (min v.size 240) v.size) fr)) (v.extract 0 (min v.size 240))):: iJ k (v.extract (min v.size 240) v.size) fr:=by
 rw[iJ,AR h]
def tF:∀(k:Nat) (v:ByteArray) (fr:List Nat),(iJ k v fr).length<=fr.length->(iJ k v fr).reverse.map (·.1)=fr.take (iJ k v fr).length
 |0,_,_,_=>by simp[iJ]
 |k+1,v,fr,hl=>by
  by_cases h:v.size=0
  .rw[kN _ _ _ h];simp
  .rw[kO _ _ _ h]at hl⊢
   rw[jB]at hl⊢;rw[GU,BM,tF k (v.extract (min v.size 240) v.size) fr (by omega),AN (by omega)];grind
def tG {k v}(b:(iJ k v fr).length<=fr.length):∀x∈iJ k v fr,x.1∈fr:=by
 intro x c;have a:x.1∈(iJ k v fr).reverse.map (·.1):=AW.2 ⟨x,by grind,rfl⟩;rw[tF k v fr b]at a;grind
def iA(v:ByteArray)(a b)(c:b<=v.size):(v.extract a b).size=b-a:=by
 simp_all
def Fb{fs}:∀(k:Nat) (v:ByteArray) (fr:List Nat),v.size<=240 * k->(∀x∈iJ k v fr,fs.has x.1 x.2/\x.1≠0)->fD fs (jW (iJ k v fr)) v.size (iJ k v fr)
 |0,v,fr,hv,_=>by
  have:v.size=0:=by omega
  simp[iJ,fD,this]
 |k+1,v,fr,hv,hx=>by
  by_cases h:v.size=0
  .rw[kN _ _ _ h];exact h
  .rw[kO _ _ _ h]at hx⊢
   have d:(v.extract (min v.size 240) v.size).size=v.size-min v.size 240:=iA _ _ _ (jU _);have b:(v.extract 0 (min v.size 240)).size=min v.size 240:=by simp
   have c:=Fb k (v.extract (min v.size 240) v.size) fr (by omega) (λx e=>hx x (by simp[e]));refine⟨rfl,by omega,(hx _ (by simp)).1,rfl,b,_,rfl,?_,?_⟩
   .show _↔v.size-(v.extract 0 (min v.size 240)).size=0
    rw[b];constructor
    .intro a
     cases hc:iJ k (v.extract (min v.size 240) v.size) fr with
     |nil =>
      rw[hc]at c;have:(v.extract (min v.size 240) v.size).size=0:=c;omega
     |cons y l =>
      rw[hc]at a;exact absurd a (hx y (by rw[hc];simp)).2
    .intro a
     rw[kN _ _ _ (by omega)];rfl
   .show fD fs _ (v.size-(v.extract 0 (min v.size 240)).size) _
    grind
def Pn:∀(k:Nat) (v:ByteArray) (fr:List Nat),(iJ k v fr).length<=fr.length->(∀p∈fr,bI (p:Nat)=true)->∀x∈iJ k v fr,x.2.encE=0
 |0,_,_,_,_,x,a=>by simp[iJ]at a
 |k+1,v,fr,hl,hp,x,a=>by
  by_cases h:v.size=0
  .rw[kN _ _ _ h]at a;simp at a
  .rw[kO _ _ _ h]at hl a
   rw[jB]at hl;rcases AS.1 a with rfl|a
   .have b:(v.extract 0 (min v.size 240)).size=min v.size 240:=by simp
    refine Rp _ _ ?_ (by rw[b];omega) (by rw[b];omega);cases hc:iJ k (v.extract (min v.size 240) v.size) fr with
    |nil=>exact .inl rfl
    |cons y l =>
     refine .inr (hp _ (tG (k:=k) (v:=v.extract (min v.size 240) v.size) (by omega) y (by rw[hc];simp)))
   .exact Pn k _ fr (by omega) hp x a
def eW(ch:List (Nat×Pg)):List UInt8:=ch.flatMap (λx=>x.2.data.data.toList)
def Jr:∀(k:Nat) (v:ByteArray) (fr:List Nat),v.size<=240 * k->eW (iJ k v fr)=v.data.toList
 |0,v,fr,hv=>by
  have b:v.size=0:=by omega
  rw[uC b];rfl
 |k+1,v,fr,hv=>by
  by_cases h:v.size=0
  .rw[kN _ _ _ h,uC h];rfl
  .rw[kO _ _ _ h]
   have e:(v.extract (min v.size 240) v.size).size=v.size-min v.size 240:=iA _ _ _ (jU _);have a:=Jr k (v.extract (min v.size 240) v.size) fr (by omega);rw[eW,AK];rw[eW]at a;rw[a];show(v.extract 0 (min v.size 240)).data.toList++(v.extract (min v.size 240) v.size).data.toList=_;rw[KD,KD,<-KZ,Array.extract_append_extract];congr 1;have c:min 0 (min v.size 240)=0:=by omega
   have d:max (min v.size 240) v.size=v.size:=by omega
   simp_all
def En.value(x:En):List UInt8:=if x.e.over=0 then x.e.val.data.toList else eW x.ch
def En.newB(x:En):Bool:=x.e.over==0&&decide (60<x.e.size)
def dU(x:En)(fr:List Nat):List (Nat×Pg):=if x.newB=true then iJ 2 x.e.val fr else []
def oY(x:En)(fr:List Nat):En:=if x.newB=true then ⟨⟨x.e.key,⟨#[]⟩,x.e.size,jW (dU x fr)⟩,dU x fr⟩ else x
def aX:List En->List Nat->List En×List (Nat×Pg)
 |[],_=>([],[])
 |x :: es,fr=>(oY x fr :: (aX es (fr.drop (dU x fr).length)).1,(dU x fr).reverse++(aX es (fr.drop (dU x fr).length)).2)
def xN(x fr):(oY x fr).e.key=x.e.key:=by unfold oY;split<;>rfl
def rM:∀(es:List En) (fr:List Nat),(aX es fr).1.map (λx=>x.e.key)=es.map (λx=>x.e.key)
 |[],_=>rfl
 |x :: es,fr=>by simp only[aX,BH,xN,rM es]
def rL(es fr):(aX es fr).1.length=es.length:=by
 have:=CI List.length (rM es fr);grind
def xO:∀(es:List En) (fr:List Nat),(aX es fr).2.length<=fr.length->(aX es fr).2.map (·.1)=fr.take (aX es fr).2.length
 |[],_,_=>by simp[aX]
 |x :: es,fr,hl=>by
  simp only[aX,jK,DT]at hl⊢;have a:(dU x fr).reverse.map (·.1)=fr.take (dU x fr).length:=by
   unfold dU at hl⊢;split
   .rename_i h;rw[AU h]at hl;exact tF 2 _ fr (by omega)
   .simp
  rw[BM,a,xO es (fr.drop (dU x fr).length) (by grind),List.take_add]
def sK (h:l.map (·.1)=fr.take l.length):∀x∈l,x.1∈fr:=by
 intro x b;have a:x.1∈l.map (·.1):=AW.2 ⟨x,b,rfl⟩;grind
def rN{P:En->List Nat->Prop}:∀(es:List En) (fr:List Nat),(aX es fr).2.length<=fr.length->∀b∈(aX es fr).1,∃x∈es,∃f,(∀p∈f,p∈fr)/\(dU x f).length<=f.length/\b=oY x f/\∀z∈dU x f,z∈(aX es fr).2
 |[],_,_,b,a=>by simp[aX]at a
 |x :: es,fr,hl,b,a=>by
  simp only[aX,jK,DT,AS]at hl a;rcases a with rfl|a
  .exact⟨x,by simp,fr,λp c=>c,by omega,rfl,λz d=>by simp[aX,d]⟩
  .have⟨k,e,f,g,h,i,j⟩:=rN (P:=P) es (fr.drop (dU x fr).length) (by grind) b a
   exact⟨k,by simp[e],f,λp c=>BS (g p c),h,i,λz d=>by simp[aX,j z d]⟩
def Jv:∀(es:List En) (fr:List Nat),(aX es fr).2.length<=fr.length->(∀p∈fr,bI (p:Nat)=true)->∀x∈(aX es fr).2,x.2.encE=0
 |[],_,_,_,x,hx=>by simp[aX]at hx
 |x :: es,fr,hl,hp,y,a=>by
  simp only[aX,jK,DT,AO,JX]at hl a;rcases a with a|a
  .unfold dU at a hl
   split at a
   .rename_i b;rw[AU b]at hl;exact Pn 2 _ fr (by omega) hp y a
   .simp at a
  .exact Jv es (fr.drop (dU x fr).length) (by grind) (λp b=>hp p (BS b)) y a
def nU{fs}{x:En}(h:x.good fs)(b:x.newB=true):x.e.size=(x.e.val.size:Int)/\x.e.val.size<=400/\60<x.e.val.size/\x.ch=[]:=by
 simp only[En.newB,AP,CT,BT]at b;obtain⟨_,_,h|⟨_,a,e,d,_,c,_⟩⟩:=h
 .grind
 .rw[b.1]at a;simp[bI]at a
def qGh(x fr):esz (oY x fr)=esz x:=by
 unfold oY;split
 .rename_i h
  simp only[En.newB,AP,CT,BT]at h;unfold esz;simp only;rw[AU h.2,AU h.2]
 .rfl
def Ep{fs x}(h:x.good fs)(a:x.newB=true)(fr):dU x fr≠[]:=by
 have⟨_,_,b,_⟩:=nU h a;rw[dU,AU a,kO _ _ _ (by omega)];simp
def vX{a}(h:a≠[]):∃b∈a,jW a=b.1:=by
 cases a with
 |nil=>grind
 |cons b l=>exact⟨b,by simp,rfl⟩
def fV (h:bI (p:Nat)=true):2<=p/\p<4096:=by
 simp only[bI,AP,BT]at h;omega
def Vi{fs x}(h:x.good fs)(fr)(d:(dU x fr).length<=fr.length)(k:∀p∈fr,bI (p:Nat)=true):qB (oY x fr).e.val (oY x fr).e.size (oY x fr).e.over=true:=by
 unfold oY;by_cases hn:x.newB=true
 .rw[AU hn]
  have⟨a,b,c,_⟩:=nU h hn;have⟨f,e,g⟩:=vX (Ep h hn fr);have j:f.1∈fr:=by
   rw[dU,AU hn]at e d;exact tG d f e
  simp only[qB,DR,AP,CT,BT];refine .inr ⟨⟨⟨?_,lZ.2 rfl⟩,by omega⟩,by omega⟩;grind
 .rw[AR hn]
  simp only[En.newB,AP,CT,BT,not_and,Int.not_lt]at hn;simp only[qB,DR,AP,CT,BT];obtain⟨_,_,⟨a,b,c,i⟩|⟨a,b,o,n,c,i,l,m,_⟩⟩:=h
  .omega
  .exact .inr ⟨⟨⟨b,lZ.2 a⟩,by omega⟩,by omega⟩
def tQ{fs c}:∀{l:List (Nat×Pg)}{p r:Nat},fD fs p r l->(∀x∈l,∀g,fs.has x.1 g->c.has x.1 g)->fD c p r l
 |[],_,_,h,_=>h
 |x :: l,p,r,h,hs=>by
  have⟨a,d,b,e,f,n,i,j,k⟩:=h;refine⟨a,d,?_,e,f,n,i,j,tQ k (λo m=>hs o (by simp[m]))⟩;grind
def qJp{fs i x}(h:x.good fs)(fr)(k:(dU x fr).length<=fr.length)(q:∀p∈fr,bI (p:Nat)=true)(l:∀a∈dU x fr,i.has a.1 a.2)(r:∀p∈x.pages,∀g,fs.has p g->i.has p g):(oY x fr).ok i:=by
 unfold oY;by_cases hn:x.newB=true
 .rw[AU hn]
  have⟨d,c,e,_⟩:=nU h hn;have j:∀a∈dU x fr,a.1≠0:=λa b=>by
   rw[dU,AU hn]at b k;have:=fV (q _ (tG k a b));omega
  have⟨a,b,m⟩:=vX (Ep h hn fr);refine⟨x.e.val.size,jW (dU x fr),d,rfl,c,.inr ⟨by grind,?_⟩⟩;rw[dU,AU hn]at l j⊢;exact Fb 2 x.e.val fr (by omega) (λa b=>⟨l a b,j a b⟩)
 .rw[AR hn]
  obtain⟨_,_,⟨d,c,e,f⟩|⟨d,c,t,s,e,f,u,n,o⟩⟩:=h
  .exact⟨x.e.val.size,0,e,d,f,.inl ⟨rfl,c⟩⟩
  .refine⟨t,s,e,f,n,.inr ⟨?_,tQ o (λa b=>r a.1 (AW.2 ⟨a,b,rfl⟩))⟩⟩
   rw[f]at c;have:=fV c;omega
def Vh{fs x}(h:x.good fs)(fr)(a:(dU x fr).length<=fr.length)(f:∀p∈fr,bI (p:Nat)=true):(oY x fr).value=x.value:=by
 unfold oY;by_cases hn:x.newB=true
 .rw[AU hn]
  have⟨g,i,j,_⟩:=nU h hn;have⟨c,b,d⟩:=vX (Ep h hn fr);have k:2<=c.1:=by
   rw[dU,AU hn]at b a;exact(fV (f _ (tG a c b))).1
  have e:x.e.over=0:=by
   simp only[En.newB,AP,CT]at hn;exact hn.1
  unfold En.value;rw[AU e];simp only;rw[AR (by rw[d];omega),dU,AU hn];exact Jr 2 _ fr (by omega)
 grind
def lG:NT->List Nat->T×List (Nat×Pg)
 |.kept t _,_=>(t,[])
 |.leaf _ es,fr=>(.leaf (fr.getD (aX es fr).2.length 0) (aX es fr).1,(aX es fr).2++[(fr.getD (aX es fr).2.length 0,eM (aX es fr).1)])
 |.bran _ _,_=>(.leaf 0 [],[])
def Aw(n fr)(a:(lG n fr).2.length<=fr.length):(lG n fr).2.map (·.1)=fr.take (lG n fr).2.length:=by
 cases n with
 |kept=>simp[lG]
 |bran=>simp[lG]
 |leaf s es =>
  simp only[lG,jK,AM]at a⊢;rw[BM,xO es fr (by omega),AN (by omega)];grind
structure Laid (fs fs':Fs) (Z:List Nat) (ws:List (Nat×Pg)):Prop where
 has:∀y∈ws,fs'.has y.1 y.2
 keep:∀p g,p ∉ Z->fs.has p g->fs'.has p g
def qAl{l m}(h:l.map (λx=>x.e.key)=m.map (λx=>x.e.key))(d:cQ m):cQ l:=by
 have c:(m.map (λx=>x.e.key)).Pairwise (λa b=>lt a b=true):=by rw[EO];exact d
 rw[<-h,EO]at c;exact c
def qGk{l m:List En}(h:l.map (λx=>x.e.key)=m.map (λx=>x.e.key)){a}(d:a∈l):∃x∈m,x.e.key=a.e.key:=by
 have:a.e.key∈m.map (λx=>x.e.key):=by grind
 grind
def Ju:∀(es:List En) (fr:List Nat),tot esz (aX es fr).1=tot esz es
 |[],_=>rfl
 |x :: es,fr=>by simp only[aX,cK,qGh,Ju es]
def Pq{fs n}(h:Ok0 fs n)(fr)(q:(lG n fr).2.length<=fr.length)(e:∀p∈fr,bI (p:Nat)=true):∀b∈(lG n fr).2,b.2.encE=0:=by
 cases n with
 |kept=>simp[lG]
 |bran=>exact h.elim
 |leaf s es =>
  have⟨i,u,j,k,l⟩:=h;simp only[lG,jK,AM]at q⊢;intro b a;rcases AO.1 a with a|a
  .exact Jv es fr (by omega) e b a
  .rw[AJ]at a
   subst a;have d:=rM es fr;refine qHh _ ?_ (qAl d j) ?_ (by rw[Ju];exact k)
   .intro f
    simp_all
   .intro b a
    obtain⟨t,r,g,m,o,rfl,_⟩:=rN (P:=λ_ _=>True) es fr (by omega) b a;have c:=l t r;rw[xN];exact⟨c.1,c.2.1,Vi c g o (λp h=>e p (m p h))⟩
def aV.in0 {fs s a}(h:aV fs 0 t s)(i:∀x∈T.ents 0 t,a.has x.e.key=true):aV fs 0 t a:=by
 cases t with
 |branch=>exact h.elim
 |leaf p es =>
  have⟨g,b,c,d,e,_,f⟩:=h;exact⟨g,b,c,d,e,i,f⟩
def qEc {fs a}(h:aV fs 0 t s)(b:∀p∈T.pages 0 t,∀g,fs.has p g->a.has p g):aV a 0 t s:=by
 cases t with
 |branch=>exact h.elim
 |leaf p es =>
  have⟨g,f,i,j,k,l,m⟩:=h;refine⟨g,b p (by simp[T.pages]) g f,i,j,k,l,λd c=>?_⟩;have⟨y,x,n,o,q,r⟩:=m d c;refine⟨y,x,n,o,q,r.imp id (λ⟨u,v⟩=>⟨u,tQ v (λe w=>b e.1 ?_)⟩)⟩;simp only[T.pages,AS,AX];exact .inr ⟨d,c,AW.2 ⟨e,w,rfl⟩⟩
def NT.pages0:NT->List Nat
 |.kept t _=>T.pages 0 t
 |.leaf _ es=>es.flatMap En.pages
 |.bran _ _=>[]
def Pp{fs e n}{Z fr f:List Nat}{u}(L:Laid fs e Z u)(h:Ok0 fs n)(m:∀p∈f,p∈fr)(C:(lG n f).2.length<=f.length)(o:∀p∈fr,bI (p:Nat)=true)(j:∀c∈(lG n f).2,c∈u)(l:∀p∈n.pages0,p ∉ Z)(s)(r:∀x∈n.ents0,s.has x.e.key=true):
  aV e 0 (lG n f).1 s/\bI ((lG n f).1.place:Nat)=true\/aV e 0 (lG n f).1 s/\∃t b,n=.kept t b:=by
 cases n with
 |bran=>exact h.elim
 |kept t b =>
  refine .inr ⟨?_,t,b,rfl⟩;cases t with
  |branch=>exact h.elim
  |leaf p es =>
   exact(qEc h (λq F g i=>L.keep q g (l q F) i)).in0 r
 |leaf b es =>
  have⟨y,J,K,M,z⟩:=h;simp only[lG,jK,AM]at C j⊢;have D:f.getD (aX es f).2.length 0∈f:=by
   grind
  refine .inl ⟨⟨eM (aX es f).1,L.has (f.getD (aX es f).2.length 0,eM (aX es f).1) (j _ (FS _ (AJ.2 rfl))),rfl,rfl,?_,?_,?_⟩,o _ (m _ D)⟩
  .intro d
   have:=rL es f;grind
  .intro c k
   have⟨x,a,d⟩:=qGk (rM es f) k;rw[<-d];exact r x a
  .intro c k
   obtain⟨x,a,v,A,B,rfl,G⟩:=rN (P:=λ_ _=>True) es f (by omega) c k;apply qJp (z x a) v B (λp h=>o p (m p (A p h))) (λI H=>L.has _ (j _ (by simp[G I H])));intro p E g i;exact L.keep p g (l p (AX.2 ⟨x,a,E⟩)) i
def Vk{fs n}(h:Ok0 fs n)(b:∀t a,n=.kept t a->bI (t.place:Nat)=true)(f)(c:(lG n f).2.length<=f.length)(e:∀p∈f,bI (p:Nat)=true):bI ((lG n f).1.place:Nat)=true:=by
 cases n with
 |bran=>exact h.elim
 |kept t a=>exact b t a rfl
 |leaf a es =>
  simp only[lG,jK,AM]at c⊢;have d:f.getD (aX es f).2.length 0∈f:=by
   grind
  exact e _ d
def qIq(ns):2 * ns.length+tot (λk:ByteArray=>k.size+1) (ns.map (λn=>n.sp.lo))=tot gF ns:=by
 induction ns with
 |nil=>rfl
 |cons n ns ih=>rw[BH,cK,cK,jB];unfold gF at *;omega
def cG(f:NT->List Nat->T×List (Nat×Pg)):List NT->List Nat->List T×List (Nat×Pg)
 |[],_=>([],[])
 |n :: ns,fr=>((f n fr).1 :: (cG f ns (fr.drop (f n fr).2.length)).1,(f n fr).2++(cG f ns (fr.drop (f n fr).2.length)).2)
def eG:Nat->NT->List Nat->T×List (Nat×Pg)
 |h+1,.bran _ ks,fr=>(.branch (fr.getD (cG (eG h) ks fr).2.length 0) (ks.tail.map (λn=>n.sp.lo)) (cG (eG h) ks fr).1,
   (cG (eG h) ks fr).2++[(fr.getD (cG (eG h) ks fr).2.length 0,eX (ks.tail.map (λn=>n.sp.lo)) ((cG (eG h) ks fr).1.map T.place))])
 |_,n,fr=>lG n fr
def qL(n fr):eG 0 n fr=lG n fr:=by cases n<;>rfl
def kP(h t s fr):eG h (.kept t s) fr=(t,[]):=by cases h<;>rfl
def qGv {k}(h:k<fr.length):fr.getD k 0∈fr:=by
 grind
def Ax{f}(a:∀n fr,(f n fr).2.length<=fr.length->(f n fr).2.map (·.1)=fr.take (f n fr).2.length):∀(ns:List NT) (fr:List Nat),(cG f ns fr).2.length<=fr.length->(cG f ns fr).2.map (·.1)=fr.take (cG f ns fr).2.length
 |[],_,_=>by simp[cG]
 |n :: ns,fr,hl=>by
  simp only[cG,jK]at hl⊢;rw[BM,a n fr (by omega),Ax a ns (fr.drop (f n fr).2.length) (by grind),List.take_add]
def Az:∀(h:Nat) (n:NT) (fr:List Nat),(eG h n fr).2.length<=fr.length->(eG h n fr).2.map (·.1)=fr.take (eG h n fr).2.length
 |0,n,fr,hl=>by rw[qL]at hl⊢;exact Aw n fr hl
 |h+1,.kept t s,fr,hl=>by rfl
 |h+1,.leaf s es,fr,hl=>Aw (.leaf s es) fr hl
 |h+1,.bran s ks,fr,hl=>by
  simp only[eG,jK,AM]at hl⊢;rw[BM,Ax (Az h) ks fr (by omega),AN (by omega)];grind
def fS(f):∀(ns:List NT) (fr:List Nat),(cG f ns fr).1.length=ns.length
 |[],_=>rfl
 |n :: ns,fr=>by simp[cG,fS f ns]
def Mc(f):∀(ns:List NT) (fr:List Nat) (j:Nat) (b:j<ns.length),(cG f ns fr).2.length<=fr.length->∃q,(∀p∈q,p∈fr)/\(f ns[j] q).2.length<=q.length/\(cG f ns fr).1[j]?=some (f ns[j] q).1/\∀c∈(f ns[j] q).2,c∈(cG f ns fr).2
 |[],_,j,b,_=>by simp at b
 |n :: ns,fr,j,b,hl=>by
  simp only[cG,jK]at hl⊢;cases j with
  |zero=>grind
  |succ j =>
   have⟨q,e,g,h,i⟩:=Mc f ns (fr.drop (f n fr).2.length) j (by grind) (by grind);grind
def Js{f}{P:Nat×Pg->Prop}:∀(ns:List NT) (fr:List Nat),(cG f ns fr).2.length<=fr.length->(∀n∈ns,∀q,(∀p∈q,p∈fr)->(f n q).2.length<=q.length->∀a∈(f n q).2,P a)->∀a∈(cG f ns fr).2,P a
 |[],_,_,_=>by simp[cG]
 |n :: ns,fr,hl,H=>by
  simp only[cG,jK]at hl⊢;intro a b;rcases AO.1 b with b|b
  .grind
  .exact Js ns (fr.drop (f n fr).2.length) (by grind) (λg d q e=>H g (by simp[d]) q (λp c=>BS (e p c))) a b
def rH{fs n}(H:OkH fs 0 n):Ok0 fs n:=by
 cases n with
 |leaf=>exact H
 |bran=>exact H.elim
 |kept t s=>cases t with
  |leaf=>exact(gU H).1
  |branch=>exact(gU H).1.elim
def Ff {fs n}(H:StH fs h n)(q)(a:(eG h n q).2.length<=q.length)(b:∀p∈q,bI (p:Nat)=true):bI ((eG h n q).1.place:Nat)=true:=by
 cases n with
 |kept t s=>rw[kP];exact(gU H.ok).2.2
 |leaf s es =>
  cases h with
  |zero=>rw[qL]at a⊢;exact Vk (rH H.ok) (by simp) q a b
  |succ h=>exact H.elim
 |bran s ks =>
  cases h with
  |zero=>exact H.elim
  |succ h =>
   simp only[eG,jK,AM]at a⊢;exact b _ (qGv (by omega))
def eD.tail_los {fs ns}(L:eD fs h ns):(ns.tail.map (λn=>n.sp.lo)).Pairwise (λa b=>lt a b=true)/\∀k∈ns.tail.map (λn=>n.sp.lo),lt (kF ns) k=true:=by
 cases ns with
 |nil=>simp
 |cons n ns =>
  have⟨c,d⟩:=BG.1 L.los;refine⟨by grind,λk e=>?_⟩;obtain⟨g,f,rfl⟩:=AW.1 e;exact c g f
def StH.kids {fs ks}(H:StH fs (h+1) (.bran s ks)):eD fs h ks/\2<=ks.length/\(∀k∈ks,StH fs h k)/\tot gF ks<=250/\s.lo=kF ks:=by
 have⟨⟨i,c,d,j,b,e⟩,f,g⟩:=H;exact⟨⟨λn a=>(b n a).1,λn a=>(b n a).2,e⟩,f,g,d,c⟩
def Fg{fs}:∀(h:Nat) {n:NT} (fr:List Nat),StH fs h n->(eG h n fr).2.length<=fr.length->(∀p∈fr,bI (p:Nat)=true)->∀c∈(eG h n fr).2,c.2.encE=0
 |0,n,fr,H,hl,hp=>by rw[qL]at hl⊢;exact Pq (rH H) fr hl hp
 |h+1,.kept C s,fr,H,hl,hp=>by simp[kP]
 |h+1,.leaf _ _,fr,H,_,_=>H.elim
 |h+1,.bran s ks,fr,H,hl,hp=>by
  have⟨d,l,e,F,_⟩:=H.kids;simp only[eG,jK,AM]at hl⊢;intro c a;rcases AO.1 a with a|a
  .exact Js (f:=eG h) ks fr (by omega) (λn o q t u=>Fg h q (e n o) u (λp h=>hp p (t p h))) c a
  .rw[AJ]at a
   subst a;have⟨D,E⟩:=d.tail_los;refine qHi _ _ ?_ ?_ D ?_ ?_ ?_
   .intro j
    have:=CI List.length j;grind
   .simp[fS];omega
   .intro i g
    refine⟨dZ (yY _) (E i g),?_⟩;obtain⟨x,m,rfl⟩:=AW.1 g;exact rI (d.ok x (List.mem_of_mem_tail m))
   .intro p r
    obtain⟨C,v,rfl⟩:=AW.1 r;obtain⟨w,b,rfl⟩:=AV v;rw[fS]at b;have⟨q,y,z,A,_⟩:=Mc (eG h) ks fr w b (by omega);have⟨_,B⟩:=AD.1 A;rw[B];exact Ff (e _ (AA b)) q z (λp h=>hp p (y p h))
   .rw[AF,fS]
    have k:=qIq ks;cases ks with
    |nil=>simp at l
    |cons i ks =>
     rw[BH,cK]at k;grind
def Tu{fs a}:∀{h:Nat}{t:T}{s:Sp},aV fs h t s->(∀p∈T.pages h t,∀g,fs.has p g->a.has p g)->aV a h t s
 |0,t,s,H,hk=>qEc H hk
 |h+1,.leaf _ _,s,H,_=>by simp[aV]at H
 |h+1,.branch p ks kids,s,H,hk=>by
  have⟨g,d,e,f,i,j,k,l⟩:=H;refine⟨g,hk p (by simp[T.pages]) g d,e,f,i,j,k,λc b=>Tu (l c b) (λq m=>hk q ?_)⟩;simp only[T.pages,AS,AX];exact .inr ⟨c.1,qJ (fs:=fs) b,m⟩
def aV.into{fs}:∀{h:Nat}{t:T}{s a:Sp},aV fs h t s->le a.lo s.lo=true->(∀x∈T.ents h t,a.has x.e.key=true)->aV fs h t a
 |0,t,s,a,H,_,hs=>H.in0 hs
 |h+1,.leaf _ _,s,a,H,_,_=>by simp[aV]at H
 |h+1,.branch p ks kids,s,a,H,hlo,hs=>by
  have⟨K,L,J,_,k⟩:=dO H;have⟨g,v,w,y,z,A,⟨E,B,C⟩,I⟩:=H;have G:a.has (ks[ks.length-1])=true:=by
   have f:ks.length<kids.length:=by omega
   have n:=BL (fL s ks kids ks.length f);have⟨x,i⟩:=GE _ (nX (k _ n)).1;have d:=tK (gQ (k _ n) x i);have j:lF s ks ks.length=ks[ks.length-1]:=by
    unfold lF;grind
   rw[j]at d;simp only[Sp.has,AP];exact⟨bG hlo (tK C),below_le d (vY (hs x (by simp only[T.ents,AX];grind)))⟩
  refine⟨g,v,w,y,z,A,⟨E,dZ hlo B,G⟩,λx i=>?_⟩;have⟨b,f,j⟩:=AV i;have m:b<kids.length:=by rwa[cO]at f
  have⟨_,D⟩:=AD.1 (fL a ks kids b m);rw[<-j,D];have o:=k _ (BL (fL s ks kids b m));refine o.into ?_ ?_
  .show le (lF a ks b) (lF s ks b)=true
   unfold lF;split
   .exact hlo
   .rw[jQ (by omega)];exact bD _
  .intro r q
   have d:=gQ o r q;have e:=hs r (by simp only[T.ents,AX];grind);simp only[Sp.has,AP];refine⟨?_,?_⟩
   .show le (lF a ks b) _=true
    have c:=tK d;unfold lF at c⊢;split
    .exact tK e
    grind
   .show Sp.below (pZ a ks b) _=true
    have c:=vY d;unfold pZ at c⊢;by_cases hjl:b<ks.length
    .grind
    .rw[CE (by omega)];exact vY e
def NT.pagesH:Nat->NT->List Nat
 |h,.kept t _=>T.pages h t
 |_,.leaf _ es=>es.flatMap En.pages
 |0,.bran _ _=>[]
 |h+1,.bran _ ks=>ks.flatMap (NT.pagesH h)
variable {f:NT->List Nat->T×List (Nat×Pg)} {ns:List NT}
def eD.has {fs}(L:eD fs h ns)(s)(e:le s.lo (kF ns)=true)(f:∀x∈bL h ns,s.has x.e.key=true)(j)(a:j<ns.length):
  le (lF s (ns.tail.map (λn=>n.sp.lo)) j) (ns[j]).sp.lo=true/\∀x∈(ns[j]).entsH h,(⟨lF s (ns.tail.map (λn=>n.sp.lo)) j,pZ s (ns.tail.map (λn=>n.sp.lo)) j⟩:Sp).has x.e.key=true:=by
 have c:le (lF s (ns.tail.map (λn=>n.sp.lo)) j) (ns[j]).sp.lo=true:=by
  unfold lF;split
  .exact bG e (L.first _ (AA a))
  .rename_i h0
   have d:(ns.tail.map (λn=>n.sp.lo))[j-1]?=some (ns[j]).sp.lo:=by
    grind
   rw[d];exact bD _
 refine⟨c,λx b=>?_⟩;simp only[Sp.has,AP];refine⟨bG c (L.lo ns[j] (AA _) x b),?_⟩;unfold pZ;rw[BN,List.getElem?_tail];by_cases h1:j+1<ns.length
 .rw[jQ h1]
  refine gD.2 (.inr ?_);exact(BD.1 L.sep j (j+1) a h1 (by omega)) x b
 .rw[CE (by omega)]
  exact vY (f x (AX.2 ⟨ns[j],AA a,b⟩))
def Ay {fs k r}(W:Laid fs k Z r)(m:∀p∈fr,bI (p:Nat)=true):∀(h:Nat) {n:NT}{f:List Nat},StH fs h n->(∀p∈f,p∈fr)->(eG h n f).2.length<=f.length->(∀e∈(eG h n f).2,e∈r)->(∀p∈n.pagesH h,p ∉ Z)->∀(s:Sp),le s.lo n.sp.lo=true->(∀x∈n.entsH h,s.has x.e.key=true)->aV k h (eG h n f).1 s
 |0,n,f,H,hf,hl,hw,ha,s,hlo,hs=>by
  rw[qL]at hl hw⊢;have c:n.pagesH 0=n.pages0:=by cases n<;>rfl
  rw[c]at ha;rw[yW H.ok]at hs;rcases Pp W (rH H.ok) hf hl m hw ha s hs with h|h
  .exact h.1
  .exact h.1
 |h+1,.leaf _ _,f,H,_,_,_,_,_,_,_=>H.elim
 |h+1,.kept t sp,f,H,hf,hl,hw,ha,s,hlo,hs=>by
  rw[kP];exact(Tu (gU H.ok).1 (λq D g z=>W.keep q g (ha q D) z)).into hlo hs
 |h+1,.bran sp ks,f,H,hf,hl,hw,ha,s,hlo,hs=>by
  have⟨b,P,B,Q,E⟩:=H.kids;have i:le s.lo (kF ks)=true:=by rw[<-E];exact hlo
  have o:=hs;have⟨R,O⟩:=b.tail_los;simp only[eG,jK,AM]at hl hw⊢;have l:(ks.tail.map (λn=>n.sp.lo)).length=ks.length-1:=by simp
  refine⟨_,W.has _ (hw _ (FS _ (AJ.2 rfl))),rfl,rfl,by simp[eX],by rw[fS,l];omega,⟨by omega,dZ i (O _ (AA _)),?_⟩,?_⟩
  .have a:ks.length-1<ks.length:=by omega
   have c:(ks.tail.map (λn=>n.sp.lo))[(ks.tail.map (λn=>n.sp.lo)).length-1]'(by omega)=(ks[ks.length-1]).sp.lo:=by
    grind
   rw[c];have⟨x,d⟩:=GE _ (kC (b.ok _ (AA a))).1;simp only[Sp.has,AP];exact⟨bG i (b.first _ (AA a)),below_le (b.lo _ (AA a) x d) (vY (o x (AX.2 ⟨_,AA a,d⟩)))⟩
  .intro x d
   have⟨j,a,c⟩:=AV d;rw[cO,fS]at a;have⟨_,u⟩:=AD.1 (fL s (ks.tail.map (λn=>n.sp.lo)) (cG (eG h) ks f).1 j (by rw[fS];exact a));have⟨q,G,I,J,K⟩:=Mc (eG h) ks f j a (by omega);have⟨_,L⟩:=AD.1 J;rw[<-c,u,L];have⟨M,N⟩:=b.has s i o j a;refine Ay W m h (B _ (AA a)) (λp h=>hf p (G p h)) I (λe F=>hw e (List.mem_append_left _ (K e F))) (λp C=>ha p ?_) _ M N;show p∈ks.flatMap (NT.pagesH h);grind
def En.kv(x:En):ByteArray×List UInt8:=(x.e.key,x.value)
def Py{fs}:∀(es:List En) (fr:List Nat),(∀x∈es,x.good fs)->(aX es fr).2.length<=fr.length->(∀p∈fr,bI (p:Nat)=true)->(aX es fr).1.map En.kv=es.map En.kv
 |[],_,_,_,_=>rfl
 |x :: es,fr,hg,hl,hp=>by
  simp only[aX,jK,DT]at hl;simp only[aX,BH,Py es (fr.drop (dU x fr).length) (λe d=>hg e (by simp[d])) (by grind) (λp a=>hp p (BS a)),GM,DD,En.kv,Vh (hg x (by simp)) fr (by omega) hp,xN]
def Yt {g e}:∀(ns:List NT) (fr:List Nat),(cG f ns fr).2.length<=fr.length->(∀n∈ns,∀q,(∀p∈q,p∈fr)->(f n q).2.length<=q.length->(g (f n q).1).map En.kv=(e n).map En.kv)->((cG f ns fr).1.flatMap g).map En.kv=(ns.flatMap e).map En.kv
 |[],_,_,_=>rfl
 |n :: ns,fr,hl,H=>by
  simp only[cG,jK]at hl;simp only[cG,AK,BM,H n (by simp) fr (λp a=>a) (by omega),Yt ns (fr.drop (f n fr).2.length) (by grind) (λi d q h=>H i (by simp[d]) q (λp a=>BS (h p a)))]
def Yu{fs}:∀(h:Nat) {n:NT} (fr:List Nat),StH fs h n->(eG h n fr).2.length<=fr.length->(∀p∈fr,bI (p:Nat)=true)->(T.ents h (eG h n fr).1).map En.kv=(n.entsH h).map En.kv
 |h,.kept t s,fr,H,hl,hp=>by rw[kP,iX]
 |0,.leaf s es,fr,H,hl,hp=>by
  simp only[eG,lG,jK,AM]at hl;exact Py es fr H.2.2.2.2 (by omega) hp
 |0,.bran _ _,_,H,_,_=>H.elim
 |h+1,.leaf _ _,_,H,_,_=>H.elim
 |h+1,.bran s ks,fr,H,hl,hp=>by
  have⟨i,j,a,_,_⟩:=H.kids;simp only[eG,jK,AM]at hl;exact Yt (f:=eG h) (g:=T.ents h) (e:=NT.entsH h) ks fr (by omega) (λn b q c d=>Yu h q (a n b) d (λp h=>hp p (c p h)))
def Pm:∀(k:Nat) (v:ByteArray) (fr:List Nat),∀b∈iJ k v fr,b.2.ver=0
 |0,_,_,b,a=>by simp[iJ]at a
 |k+1,v,fr,b,a=>by
  by_cases h:v.size=0
  .rw[kN _ _ _ h]at a;simp at a
  .rw[kO _ _ _ h]at a
   rcases AS.1 a with rfl|a
   .rfl
   .exact Pm k _ _ b a
def Jt:∀(es:List En) (fr:List Nat),∀b∈(aX es fr).2,b.2.ver=0
 |[],_,b,a=>by simp[aX]at a
 |x :: es,fr,b,a=>by
  simp only[aX,AO,JX]at a;rcases a with a|a
  .unfold dU at a
   split at a
   .exact Pm _ _ _ b a
   .simp at a
  .exact Jt es _ b a
def Ps {P:Nat×Pg->Prop}(H:∀n q,∀a∈(f n q).2,P a):∀(ns:List NT) (fr:List Nat),∀a∈(cG f ns fr).2,P a
 |[],_=>by simp[cG]
 |n :: ns,fr=>by
  intro a b;simp only[cG,AO]at b;exact b.elim (H n fr a) (Ps H ns _ a)
def Pv:∀(h:Nat) (n:NT) (fr:List Nat),∀b∈(eG h n fr).2,b.2.ver=0
 |h,.kept t s,fr=>by simp[kP]
 |h,.leaf s es,fr=>by
  have c:eG h (.leaf s es) fr=lG (.leaf s es) fr:=by cases h<;>rfl
  rw[c];intro b a;simp only[lG,AO,AJ]at a;rcases a with a|rfl
  .exact Jt es fr b a
  .rfl
 |0,.bran _ _,_=>by simp[eG,lG]
 |h+1,.bran s ks,fr=>by
  intro b a;simp only[eG,AO,AJ]at a;rcases a with a|rfl
  .exact Ps (Pv h) ks fr b a
  .rfl
def En.ov(x:En):Nat:=if 60<x.e.size then (x.e.size.toNat+239) / 240 else 0
variable {es:List En}
def ovs(es:List En):Nat:=tot En.ov es
def Eh(a b):ovs (a++b)=ovs a+ovs b:=qY _ a b
def Po:∀(k:Nat) (v:ByteArray) (fr:List Nat),(iJ k v fr).length<=(v.size+239) / 240
 |0,_,_=>AG _
 |k+1,v,fr=>by
  by_cases h:v.size=0
  .rw[kN _ _ _ h];simp
  .rw[kO _ _ _ h,jB]
   have a:=Po k (v.extract (min v.size 240) v.size) fr;have b:=iA v (min v.size 240) v.size (jU _);omega
def qBo{fs x}(h:x.good fs)(fr):(dU x fr).length<=x.ov:=by
 unfold dU;split
 .rename_i hn
  have⟨a,b,c,_⟩:=nU h hn;have:=Po 2 x.e.val fr;unfold En.ov;grind
 simp
def Jw{fs}:∀(es:List En) (fr:List Nat),(∀x∈es,x.good fs)->(aX es fr).2.length<=ovs es
 |[],_,_=>AG _
 |x :: es,fr,hg=>by
  simp only[aX,jK,DT,ovs,cK];have d:=qBo (hg x (by simp)) fr;have a:=Jw es (fr.drop (dU x fr).length) (λc b=>hg c (by simp[b]));unfold ovs at a;omega
def Pr {e}:∀(ns:List NT) (fr:List Nat),(∀n∈ns,∀q,(f n q).2.length+1<=2 * (e n).length+ovs (e n))->(cG f ns fr).2.length+ns.length<=2 * (ns.flatMap e).length+ovs (ns.flatMap e)
 |[],_,_=>by simp[cG]
 |n :: ns,fr,H=>by
  have c:=H n (by simp) fr;have d:=Pr ns (fr.drop (f n fr).2.length) (λb a=>H b (by simp[a]));simp only[cG,jK,AK,Eh,jB];omega
def Pw{fs}:∀(h:Nat) {n:NT} (fr:List Nat),StH fs h n->(eG h n fr).2.length+1<=2 * (n.entsH h).length+ovs (n.entsH h)
 |h,.kept t s,fr,H=>by
  rw[kP];have:=BQ.2 (kC H.ok).1;grind
 |0,.leaf s es,fr,H=>by
  have g:=Jw es fr H.2.2.2.2;have a:=BQ.2 H.1;simp only[eG,lG,jK,AM,NT.entsH];omega
 |0,.bran _ _,_,H=>H.elim
 |h+1,.leaf _ _,_,H=>H.elim
 |h+1,.bran s ks,fr,H=>by
  have⟨d,a,b,_,_⟩:=H.kids;have:=Pr (f:=eG h) (e:=NT.entsH h) ks fr (λn c q=>Pw h q (b n c));simp only[eG,jK,AM,NT.entsH];omega
def Kq{fs}:∀{l:List (Nat×Pg)}{p r k:Nat},fD fs p r l->r<=240 * k->l.length<=k
 |[],_,_,_,_,_=>AG _
 |x :: l,p,r,k,h,hk=>by
  have⟨c,d,e,f,a,j,g,i,b⟩:=h;cases k with
  |zero=>omega
  |succ k =>
   have:=Kq (k:=k) b (by rw[a];omega);grind
def Mn{fs}{x:En}(h:x.ok fs)(c:x.good fs):x.pages.length<=x.ov:=by
 obtain⟨l,j,a,d,e,h|⟨f,h⟩⟩:=h
 .simp[En.pages,h.2]
 .simp only[En.pages,AF]
  have b:60<x.e.size:=by
   obtain⟨_,_,h|⟨_,_,k,_,g,_,i,_⟩⟩:=c
   .omega
   .omega
  unfold En.ov;rw[AU b,a,Int.toNat_natCast];exact Kq h (by omega)
def Qw{f:En->List Nat}:∀(es:List En),(∀x∈es,(f x).length<=x.ov)->(es.flatMap f).length<=ovs es
 |[],_=>by simp
 |x :: es,h=>by
  have d:=h x (by simp);have a:=Qw es (λc b=>h c (by simp[b]));simp only[AK,jK,ovs,cK];unfold ovs at a;omega
def Qd{f:T->List Nat}{e}:∀(a:List T),(∀t∈a,(f t).length+1<=2 * (e t).length+ovs (e t))->(a.flatMap f).length+a.length<=2 * (a.flatMap e).length+ovs (a.flatMap e)
 |[],_=>by simp
 |t :: a,h=>by
  have d:=h t (by simp);have g:=Qd a (λc b=>h c (by simp[b]));simp only[AK,jK,jB,Eh];omega
def Jd{fs}:∀{h:Nat}{t:T}{s:Sp},aV fs h t s->(T.pages h t).length+1<=2 * (T.ents h t).length+ovs (T.ents h t)
 |0,.leaf p es,s,H=>by
  have⟨g,_,_,_,i,_,j⟩:=H;have n:=Qw (f:=En.pages) es (λb a=>Mn (j b a) ((kJ H) b a));have o:=BQ.2 i;simp only[T.pages,T.ents,jB];omega
 |0,.branch _ _ _,s,H=>H.elim
 |h+1,.leaf _ _,s,H=>by simp[aV]at H
 |h+1,.branch p ks kids,s,H=>by
  have⟨q,_,_,_,c⟩:=dO H;have⟨_,_,_,_,_,_,⟨m,_⟩,_⟩:=H;have:=Qd (f:=T.pages h) (e:=T.ents h) kids (λt l=>by
   have⟨r,k⟩:=mJ (s:=s) (ks:=ks) l;exact Jd (c _ k))
  simp only[T.pages,T.ents,jB];omega
def lK(P:List Nat)(h:Nat)(n:NT):Prop:=∀p∈n.pagesH h,p∈P
def Ki {n}(b:lK P 0 n):∀x∈n.ents0,∀p∈x.pages,p∈P:=by
 intro x a p c;cases n with
 |kept t s=>cases t with
  |leaf q es=>exact b p (by simp only[NT.pagesH,T.pages,AS,AX];exact .inr ⟨x,a,c⟩)
  |branch=>simp[NT.ents0]at a
 |leaf s es=>exact b p (AX.2 ⟨x,a,c⟩)
 |bran=>simp[NT.ents0]at a
def Gm{c}(b):∀(k:Nat) (l:List c),∀p∈lH b k l,∀x∈p,x∈l
 |0,l,p,a,x,hx=>by simp[lH]at a
 |k+1,l,p,a,x,hx=>by
  simp only[lH]at a;split at a
  .grind
  .rcases AS.1 a with rfl|a
   .grind
   .exact BS (Gm b k _ p a x hx)
def pU (b:∀x∈es,∀p∈x.pages,p∈P):∀n∈dB es,lK P 0 n:=by
 intro n c p a;obtain⟨q,d,rfl⟩:=AW.1 c;have⟨x,e,a⟩:=AX.1 (show p∈q.flatMap En.pages from a);exact b x (Gm esz _ es q d x e) p a
def rX (c:∀n∈ns,lK P h n):∀m∈eH ns,lK P (h+1) m:=by
 intro m d p a;obtain⟨q,e,rfl⟩:=AW.1 d;have⟨b,f,a⟩:=AX.1 (show p∈q.flatMap (NT.pagesH h) from a);exact c b (Gm gF _ ns q e b f) p a
def sV(h t s):(NT.kept t s).pagesH h=T.pages h t:=by cases h<;>rfl
def Fj {n}(d:lK P (h+1) n):∀k∈n.kidsN,lK P h k:=by
 intro k a p b;cases n with
 |kept t s=>cases t with
  |leaf=>simp[NT.kidsN]at a
  |branch q ks kids =>
   obtain⟨c,e,rfl⟩:=AW.1 a;rw[sV]at b;apply d p;rw[sV];simp only[T.pages,AS,AX];refine .inr ⟨c.1,?_,b⟩;have:c.1∈(parts s ks kids).map (·.1):=AW.2 ⟨c,e,rfl⟩;rwa[jG]at this
 |leaf=>simp[NT.kidsN]at a
 |bran s ks=>exact d p (AX.2 ⟨k,a,b⟩)
def Io:∀(h:Nat) {l n:NT},lK P h l->lK P h n->∀m∈pO h l n,lK P h m
 |0,l,n,hl,hn=>pU (λd f=>(AO.1 f).elim (Ki hl d) (Ki hn d))
 |h+1,l,n,hl,hn=>rX (tI (J:=λe=>∀m∈e,lK P h m) (λg a b B H=>λm c=>by
   simp only[AO]at c;rcases c with c|c|c
   .grind
   .exact Io h (H a (by simp)) (H b (by simp)) m c
   grind) (λm c=>(AO.1 c).elim (Fj hl m) (Fj hn m)))
def Vr (H:∀m∈ns,lK P h m):∀m∈qP (pO h) ns,lK P h m :=
 tI (J:=λd=>∀m∈d,lK P h m) (λe a b B H=>λm c=>by
  simp only[AO]at c;rcases c with c|c|c
  .grind
  .exact Io h (H a (by simp)) (H b (by simp)) m c
  grind) H
def Ej (e:cQ es)(f:cF cs)(d:∀x∈es,∀p∈x.pages,p∈P):∀x∈bF es cs,∀p∈x.pages,p∈P:=by
 intro x g p b;rcases(gA e f x).1 g with⟨c,a,_,rfl⟩|⟨a,_⟩
 .simp[En.pages,chE]at b
 grind
def So {fs}:∀(h:Nat) {t:T}{s:Sp}{cs:List Ch},aV fs h t s->cF cs->(∀p∈T.pages h t,p∈P)->∀m∈chP h t s cs,lK P h m
 |0,.leaf q es,s,cs,ht,hr,hP=>pU (Ej (eB (h:=0) ht) hr (λc d p b=>hP p (by simp only[T.pages,AS,AX];grind)))
 |0,.branch _ _ _,s,cs,ht,_,_=>ht.elim
 |h+1,.leaf _ _,s,cs,ht,_,_=>by simp[aV]at ht
 |h+1,.branch q ks kids,s,cs,ht,hr,hP=>by
  have⟨g,_,_,_,f⟩:=dO ht;refine rX (Vr (λm a=>?_));have⟨c,d,a⟩:=AX.1 a;have e:∀p∈T.pages h c.1,p∈P:=λp b=>hP p (by
   simp only[T.pages,AS,AX];exact .inr ⟨c.1,qJ (fs:=fs) d,b⟩)
  split at a
  .rw[AJ]at a;subst a
   intro p b;rw[sV]at b;exact e p b
  .exact So h (f c d) (kV hr c.2) e m a
def Gk:∀(h:Nat) {n:NT},lK P h n->lK P (kR h n).1 (kR h n).2
 |0,n,H=>by
  have a:kR 0 n=(0,n):=by cases n<;>rfl
  grind
 |h+1,.kept t s,H=>H
 |h+1,.leaf _ _,H=>H
 |h+1,.bran s ks,H=>by
  match ks,H with
  |[],H=>exact H
  |[k],H =>
   rw[zQ];exact Gk h (λp b=>H p (AX.2 ⟨k,by simp,b⟩))
  |k :: k' :: r,H=>exact H
def Nm:∀(k:Nat) {h:Nat}{ns:List NT},(∀n∈ns,lK P h n)->∀x∈upP k h ns,lK P x.1 x.2
 |k,h,[],H,x,hx=>by cases k<;>simp[upP]at hx
 |k,h,[n],H,x,hx=>by
  have c:upP k h [n]=some (kR h n):=by cases k<;>rfl
  rw[c]at hx;cases hx;exact Gk h (H n (by simp))
 |0,h,a :: b :: r,H,x,hx=>by simp[upP]at hx
 |k+1,h,a :: b :: r,H,x,hx=>Nm k (rX H) x hx
def Vy {fs}(c:bQ fs root o)(a:cF cs):∀x∈iU o cs,lK (cR o) x.1 x.2:=by
 apply Nm _;cases o with
 |none=>exact pU (Ej (es:=[]) .nil a (by simp))
 |some y=>exact So y.1 c.2.2 a (λp b=>b)
def pM(_:Option (Nat×T)):Prop:=True
def qNf(_:List ByteArray)(_:Option (Nat×T)):Prop:=True
def bT(x:Option (Nat×NT))(fr:List Nat):Option (Nat×T)×List (Nat×Pg):=match x with
 |none=>(none,[])
 |some y=>(some (y.1,(eG y.1 y.2 fr).1),(eG y.1 y.2 fr).2)
def rootOf:Option (Nat×T)->Nat
 |none=>0
 |some (_,t)=>t.place
structure qKj (fs:Fs) (E:List En) (fr Z:List Nat) (r:Option (Nat×T)×List (Nat×Pg)):Prop where
 enc:∀y∈r.2,y.2.encE=0
 places:r.2.map (·.1)=fr.take r.2.length
 kv:(aU r.1).map En.kv=E.map En.kv
 ver:∀y∈r.2,y.2.ver=0
 stands:∀fs',Laid fs fs' Z r.2->bQ fs' (rootOf r.1) r.1/\(rootOf r.1=0\/bI (rootOf r.1:Nat)=true)
def qBz{fs d x}(H:Zp fs d x)(fr)(b:(bT x fr).2.length<=fr.length)(f:∀p∈fr,bI (p:Nat)=true)(Z)(k:∀c∈x,∀p∈c.2.pagesH c.1,p ∉ Z):qKj fs d fr Z (bT x fr):=by
 cases x with
 |none =>
  refine⟨by simp[bT],by simp[bT],?_,by simp[bT],λi _=>⟨rfl,.inl rfl⟩⟩;have:d=[]:=H;rw[this];rfl
 |some c =>
  have⟨a,n⟩:=c;obtain⟨e,j⟩:StH fs a n/\n.entsH a=d:=H;have g:=Ff e fr b f;refine⟨Fg a fr e b f,Az a n fr b,by rw[<-j];exact Yu a fr e b f,Pv a n fr,λi h=>⟨⟨?_,rfl,Ay h f a e (λp a=>a) b (λc l=>l) (k _ rfl) _ (yY _) (λx _=>Lg _)⟩,.inr g⟩⟩
  .have:=fV g
   show 0<(eG a n fr).1.place
   omega
def Vj{fs a x}(H:Zp fs a x)(fr):(bT x fr).2.length<=2 * a.length+ovs a:=by
 cases x with
 |none=>exact AG _
 |some y =>
  have⟨b,n⟩:=y;obtain⟨c,d⟩:StH fs b n/\n.entsH b=a:=H;have:=Pw b fr c;show(eG b n fr).2.length<=_;grind
def Us {fs}(a:bQ fs root o):(cR o).length<=2 * (aU o).length+ovs (aU o):=by
 cases o with
 |none=>exact AG _
 |some x =>
  have:=Jd a.2.2;show(T.pages x.1 x.2).length<=2 * (T.ents x.1 x.2).length+ovs (T.ents x.1 x.2);omega
def Sm{fs}:∀{l:List (Nat×Pg)}{p r:Nat},fD fs p r l->2<=p->∀x∈l,2<=x.1
 |[],_,_,_,_,x,a=>by simp at a
 |y :: l,p,r,h,hp,x,a=>by
  have⟨k,m,d,e,n,j,f,g,b⟩:=h;rcases AS.1 a with rfl|a
  .omega
  .rcases qGr d e with c|c
   .have:j=0:=by omega
    subst this;rw[g.1 rfl]at b;cases l with
    |nil=>simp at a
    |cons z l=>have⟨_,o,_⟩:=b;omega
   .rw[f]at c
    exact Sm b (fV c).1 x a
def qJo {fs}(h:aV fs 0 (.leaf p es) s)(f:2<=p):∀q∈T.pages 0 (.leaf p es),2<=q:=by
 intro q b;simp only[T.pages,AS,AX]at b;rcases b with rfl|⟨i,g,b⟩
 .exact f
 .obtain⟨j,c,rfl⟩:=AW.1 b
  obtain⟨_,_,⟨_,a,_⟩|⟨k,a,r,o,l,d,m,n,e⟩⟩:=kJ h i g
  .grind
  .rw[d]at a
   exact Sm e (fV a).1 j c
def Om{fs}:∀{h:Nat}{t:T}{s:Sp},aV fs h t s->2<=t.place->∀q∈T.pages h t,2<=q
 |0,.leaf p es,s,H,hp=>qJo H hp
 |0,.branch _ _ _,s,H,_=>H.elim
 |h+1,.leaf _ _,s,H,_=>by simp[aV]at H
 |h+1,.branch p ks kids,s,H,hp=>by
  have⟨_,_,_,_,e⟩:=dO H;have⟨g,f,j,_,i,_⟩:=H;intro q a;simp only[T.pages,AS,AX]at a;rcases a with rfl|⟨c,b,a⟩
  .exact hp
  .have⟨l,k⟩:=mJ (s:=s) (ks:=ks) b
   exact Om (e _ k) (fV (Qs f j (c.place:Int) (by grind))).1 q a
def yV {fs}(d:bQ fs root o)(g:pM o)(c:root=0\/bI (root:Nat)=true):∀q∈cR o,2<=q:=by
 cases o with
 |none=>simp[cR]
 |some x =>
  have⟨e,h⟩:=x;have⟨f,a,b⟩:=d;apply Om b;rw[a];exact(fV (c.resolve_left (by omega))).1
def eP(n:Nat)(u:List Bool):List Nat:=(List.range' 2 (n-2)).filter (λp=>!(u.getD p true))
def zL (h:p∈eP n u):2<=p/\p<n/\¬on u p:=by
 simp only[eP,EH,LN]at h;have⟨c,a⟩:=h;refine⟨by omega,by omega,λb=>?_⟩;unfold on at b;grind
def Qu(n u):(eP n u).Nodup:=EM _ (List.nodup_range' (s:=2) (n:=n-2))
def Wi {ps:List Nat}(e:n<=u.length)(d:∀p,on u p->p∈ps):n-2<=(eP n u).length+ps.length:=by
 have a:=Lz (l:=List.range' 2 (n-2)) (m:=eP n u++ps) (List.nodup_range') (λp c=>by
  rw[LN]at c;simp only[AO];by_cases a:on u p
  .exact .inr (d p a)
  .refine .inl ?_
   simp only[eP,EH,LN];refine⟨c,?_⟩;have b:p<u.length:=by omega
   rw[CB,jQ b];unfold on at a;grind)
 grind
def Dp {P:List b->Prop}(c:P [])(d:∀l x,P l->P (l++[x]))(l):P l:=by
 have e:∀a:List b,P a.reverse:=by
  intro a;induction a with
  |nil=>exact c
  |cons x a ih=>grind
 have:=e l.reverse;rwa[HV]at this
def Fi(l x p):qM (l++[x]) p=if x.1=p then some x.2 else qM l p:=by
 unfold qM;grind
def Me:∀(l:List (Nat×ByteArray)) (s:List ByteArray) (p:Nat),(∀x∈l,x.1<s.length)->(laid s l).getD p ⟨#[]⟩=(qM l p).getD (s.getD p ⟨#[]⟩):=by
 intro l;induction l using Dp with
 |c=>intro s p _;rfl
 |d l x ih =>
  intro s p h;have e:laid s (l++[x])=(laid s l).set x.1 x.2:=by simp[laid]
  rw[e,Fi,CB,List.getElem?_set];have j:=h x (by simp);by_cases hp:x.1=p
  .rw[AU hp,AU hp,AU (by rw[dK];omega)];rfl
  .rw[AR hp,AR hp,<-CB]
   exact ih s p (λy i=>h y (by simp[i]))
def nJ(fs:Fs)(h:fs.fits)(p):fs.synced.at p=fs.at p:=Me fs.late fs.safe p h
def qZ {fs:Fs}(h:fs.fits):fs.synced.has p g↔fs.has p g:=by
 unfold Fs.has;rw[nJ fs h];show p<(laid fs.safe fs.late).length/\_↔_;rw[dK]
def Ea(fs:Fs)(q d p):(fs.put q d).at p=if q=p then d else fs.at p:=by
 unfold Fs.at Fs.put;simp only[Fi];split<;>rfl
def Fs.puts(fs:Fs)(l:List (Nat×Pg)):Fs:={fs with late:=fs.late++l.map (λy=>(y.1,y.2.encS))}
def qEz(fs:Fs):fs.puts []=fs:=by simp[Fs.puts]
def qAu(fs:Fs)(l a):fs.puts (l++[a])=(fs.puts l).put a.1 a.2.encS:=by simp[Fs.puts,Fs.put]
def Cm:∀(l:List (Nat×Pg)) (fs:Fs) (p:Nat),(p ∉ l.map (·.1)->(fs.puts l).at p=fs.at p)/\((l.map (·.1)).Nodup->∀y∈l,y.1=p->(fs.puts l).at p=y.2.encS):=by
 intro l;induction l using Dp with
 |c=>intro fs p;rw[qEz];exact⟨λ_=>rfl,λ_ y i=>by simp at i⟩
 |d l x ih =>
  intro fs p;rw[qAu,Ea];have⟨B,C⟩:=ih fs p;constructor
  .intro h
   rw[BM,AO]at h;rw[AR (λe=>h (.inr (by simp[e])))];exact B (λA=>h (.inl A))
  .intro r y i j
   rw[BM]at r;have⟨z,E,D⟩:=List.nodup_append.1 r;rcases AO.1 i with i|i
   .have:x.1≠p:=λe=>D y.1 (AW.2 ⟨y,i,rfl⟩) x.1 (by simp) (by rw[j,e])
    rw[AR this];exact C z y i j
   .rw[AJ]at i
    subst i;rw[AU j]
def qFa {fs:Fs}(e:(l.map (·.1)).Nodup)(c:∀a∈l,a.2.encE=0)(f:∀a∈l,a.2.ver=0)(d:∀a∈l,a.1<fs.safe.length):∀a∈l,(fs.puts l).has a.1 a.2:=by
 intro a b;refine⟨d a b,?_⟩;rw[(Cm l fs a.1).2 e a b rfl];exact xV a.2 (by grind) (c a b)
def qAv {fs:Fs}(a:p ∉ l.map (·.1))(h:fs.has p g):(fs.puts l).has p g:=by
 refine⟨h.1,?_⟩;rw[(Cm l fs p).1 a];exact h.2
def Og {fs:Fs}{q p d}(a:q≠p)(h:fs.has p g):(fs.put q d).has p g:=by
 refine⟨h.1,?_⟩;rw[Ea,AR a];exact h.2
def Fs.made(fs:Fs)(l:List (Nat×Pg))(m:Nat)(mt:Pg):Fs:=(((fs.puts l).synced).put m mt.encS).synced
variable {fs:Fs}
def qBt {m mt}(u:fs.fits)(v:(l.map (·.1)).Nodup)(t:∀a∈l,a.2.encE=0)(w:∀a∈l,a.2.ver=0)(k:∀a∈l,a.1<fs.safe.length/\a.1≠m)(d:m<fs.safe.length)(n:∀a∈l,a.1∈Z)(o:m∈Z):
  Laid fs (fs.made l m mt) Z l/\(fs.made l m mt).at m=mt.encS/\(fs.made l m mt).late=[]/\(fs.made l m mt).safe.length=fs.safe.length/\∀p,p ∉ Z->(fs.made l m mt).at p=fs.at p:=by
 have i:(fs.puts l).fits:=by
  intro q c;simp only[Fs.puts,AO,AW]at c;rcases c with c|⟨a,b,rfl⟩
  .exact u q c
  .exact(k a b).1
 have r:(fs.puts l).synced.safe.length=fs.safe.length:=dK _ _;have f:(((fs.puts l).synced).put m mt.encS).fits:=by
  intro q c;simp only[Fs.put,Fs.synced,jE,AJ]at c;subst c;show m<(laid _ _).length;rw[dK];exact d
 refine⟨⟨λa b=>(qZ f).2 (Og (k a b).2.symm ((qZ i).2 (qFa v t w (λa b=>(k a b).1) a b))),λp g e s=>?_⟩,?_,rfl,?_,λp e=>?_⟩
 .have j:p ∉ l.map (·.1):=λd=>by
   grind
  exact(qZ f).2 (Og (λh:m=p=>e (h▸o)) ((qZ i).2 (qAv j s)))
 .show(Fs.synced _).at m=_
  rw[nJ _ f,Ea,AU rfl]
 .show(laid _ _).length=_
  rw[dK];exact r
 .show(Fs.synced _).at p=_
  have j:p ∉ l.map (·.1):=λd=>by
   grind
  rw[nJ _ f,Ea,AR (λh:m=p=>e (h▸o)),nJ _ i,(Cm l fs p).1 j]
def qIt {fs b}(a:bQ fs root o)(d:pM o)(c:∀p∈cR o,∀g,fs.has p g->b.has p g):bQ b root o:=by
 cases o with
 |none=>exact a
 |some x=>exact⟨a.1,a.2.1,Tu a.2.2 c⟩
structure Tr (K:List ByteArray) (fs:Fs) (o:Option (Nat×T)):Prop where
 rooted:bQ fs (rootOf o) o
 flat:pM o
 keys:qNf K o
 root:rootOf o=0\/bI (rootOf o:Nat)=true
def Tr.stays {fs a}(h:Tr K fs o)(b:∀p∈cR o,∀g,fs.has p g->a.has p g):Tr K a o:=⟨qIt h.rooted h.flat b,h.flat,h.keys,h.root⟩
def gE(fs:Fs)(p ver root:Nat):Prop:=(fs.at p=fH 256/\ver=0/\root=0)\/Ig (fs.at p) (bK ver root)
structure fA (K:List ByteArray) (n:Nat) (fs:Fs) (v:Nat) (o ao:Option (Nat×T)):Prop where
 late:fs.late=[]
 len:fs.safe.length=n
 meta0:gE fs (v % 2) v (rootOf o)
 meta1:∃v',gE fs ((v+1) % 2) v' (rootOf ao)/\(v'+1=v\/(v'=v/\rootOf ao=rootOf o))
 sure:Tr K fs o
 ahead:Tr K fs ao
 size:∀s∈fs.safe,s.size=256
def uK:∀(a:List (Nat×ByteArray)) (b:List ByteArray),(∀s∈b,s.size=256)->(∀x∈a,x.2.size=256)->∀s∈laid b a,s.size=256
 |[],_,h,_=>h
 |x :: a,b,h,h'=>uK a (b.set x.1 x.2) (λs d=>(EI d).elim (h s) (λc=>c▸h' x (by simp))) (λf e=>h' f (by simp[e]))
def qBs {m mt}(h:∀s∈fs.safe,s.size=256)(d:fs.late=[])(c:∀b∈l,b.2.encE=0)(e:mt.encE=0):∀s∈(fs.made l m mt).safe,s.size=256:=by
 refine uK _ _ (uK _ _ h (λg a=>?_)) (λg a=>?_)
 .simp only[Fs.puts,d,jE,AW]at a
  obtain⟨b,f,rfl⟩:=a;exact mN _ (c b f)
 .simp only[Fs.put,Fs.synced,jE,AJ]at a
  subst a;exact mN _ e
def bM(o:Option (Nat×T))(cs:List Ch)(fr:List Nat):Option (Nat×T)×List (Nat×Pg):=bT (iU o cs) fr
structure sE (K:List ByteArray) (n:Nat) (fs:Fs) (o:Option (Nat×T)) (cs:List Ch) (fr:List Nat):Prop where
 tree:Tr K fs o
 rise:cF cs
 good:∀c∈cs,c.good
 free:∀p∈fr,2<=p/\p<n
 small:n<=4096
 len:fs.safe.length=n
 nodup:fr.Nodup
 away:∀p∈cR o,p ∉ fr
 size:(aU o).length+cs.length<=1000000
structure Xp (K:List ByteArray) (n:Nat) (fs:Fs) (o:Option (Nat×T)) (cs:List Ch) (fr:List Nat):Prop extends sE K n fs o cs fr where
 room:(bM o cs fr).2.length<=fr.length
def sE.place (h:sE K n fs o cs fr):∀p∈fr,bI (p:Nat)=true:=λp a=>by
 have:=h.free p a;have:=h.small;simp only[bI,AP,BT];omega
def nF {v o ao}(S:fA K n fs v o ao)(P:Xp K n fs o cs fr)(N:v+1<9223372036854775808)(M:2<=n):
  fA K n (fs.made (bM o cs fr).2 ((v+1) % 2) (bK (v+1:Nat) (rootOf (bM o cs fr).1))) (v+1) (bM o cs fr).1 o /\
  (∀c∈(bM o cs fr).2,c.2.encE=0)/\(bM o cs fr).2.map (·.1)=fr.take (bM o cs fr).2.length /\
  (aU (bM o cs fr).1).map En.kv=(bF (aU o) cs).map En.kv /\
  ∀o',Tr K fs o'->(∀p∈cR o',p ∉ fr)->Tr K (fs.made (bM o cs fr).2 ((v+1) % 2) (bK (v+1:Nat) (rootOf (bM o cs fr).1))) o':=by
 have u:=P.room;unfold bM at u⊢;have i:=P.place;have C:=yV P.tree.rooted P.tree.flat P.tree.root;have L:(v+1) % 2<2:=MI _ (by decide);have t:∀(o':Option (Nat×T)),Tr K fs o'->(∀p∈cR o',p ∉ fr)->∀p∈cR o',p ∉ (v+1) % 2 :: fr:=λo' d a p h k=>by
  have C:=yV d.rooted d.flat d.root p h;rcases AS.1 k with b|b
  .omega
  .exact a p h b
 have e:=qBz (Fw P.tree.rooted P.rise P.good) fr u i ((v+1) % 2 :: fr) (λc f p h=>t o P.tree P.away p (Vy P.tree.rooted P.rise c f p h));have q:=e.enc;have j:=e.places;have w:=sK j;have A:fs.fits:=λO y=>by rw[S.late]at y;simp at y
 have⟨r,F,G,H,I⟩:=qBt (fs:=fs) (l:=(bT (iU o cs) fr).2) (m:=(v+1) % 2) (mt:=bK (v+1:Nat) (rootOf (bT (iU o cs) fr).1)) (Z:=(v+1) % 2 :: fr) A
  (by rw[j];exact P.nodup.sublist (FU _ _)) q e.ver (λc f=>by have:=P.free _ (w c f);rw[P.len];omega) (by rw[P.len];omega) (λc f=>KU _ (w c f)) (by simp)
 have⟨J,z⟩:=e.stands _ r;have x:∀o',Tr K fs o'->(∀p∈cR o',p ∉ fr)->Tr K (fs.made (bT (iU o cs) fr).2 ((v+1) % 2) (bK (v+1:Nat) (rootOf (bT (iU o cs) fr).1))) o':=λo' d a=>d.stays (λp i g B=>r.keep p g (t o' d a p i) B);have s:=tO (v+1:Nat) (rootOf (bT (iU o cs) fr).1) (by omega) (z.imp (λb=>by rw[b];rfl) id);refine⟨⟨G,H.t P.len,?_,⟨v,?_,.inl (by omega)⟩,⟨J,trivial,trivial,z⟩,x o P.tree P.away,qBs S.size S.late q s⟩,q,j,e.kv,x⟩
 .refine .inr ?_
  show Ig (Fs.at _ _) _
  rw[F];exact xV _ (by show((v+1:Nat):Int)<_;omega) s
 .have E:(v+1+1) % 2=v % 2:=by omega
  rw[E];have D:v % 2 ∉ (v+1) % 2 :: fr:=by
   intro k;rcases AS.1 k with b|b
   .omega
   .have:=P.free _ b;omega
  unfold gE;rw[I _ D];exact S.meta0
def dG(cs:List Ch)(c:Ch):List Ch:=if fnd cs c.key=true then cs.set (dH cs c.key) c else cs.take (dH cs c.key)++c :: cs.drop (dH cs c.key)
def tL {k}(h:fnd cs k=true)(f:cF cs):∃a:dH cs k<cs.length,(cs[dH cs k]).key=k:=by
 unfold fnd at h;split at h
 .rename_i c hc
  have⟨a,d⟩:=AD.1 hc;refine⟨a,?_⟩;have e:lt k c.key=false:=by grind
  have b:=rA f (jU _) a;rw[d]at b⊢;exact lE b e
 .simp at h
def De (b:cF cs)(c):dG cs c=cs.take (dH cs c.key)++c :: cs.drop (dH cs c.key+if fnd cs c.key=true then 1 else 0):=by
 unfold dG;by_cases h:fnd cs c.key=true
 .rw[AU h,AU h]
  have⟨a,_⟩:=tL h b;rw[LH,AU a]
 grind
def Mo (d:cF cs)(k):∀c∈cs.drop (dH cs k+if fnd cs k=true then 1 else 0),lt k c.key=true:=by
 intro c b;by_cases h:fnd cs k=true
 .rw[AU h]at b
  have⟨l,j⟩:=tL h d;have⟨g,f,a⟩:=AV b;rw[GS]at a;rw[BE]at f;have:=(BD.1 d) (dH cs k) (dH cs k+1+g) l (by omega) (by omega);grind
 .rw[AR h]at b
  have⟨g,f,a⟩:=AV b;rw[GS]at a;rw[BE]at f;have i:lt (cs[dH cs k+0+g]'(by omega)).key k=false:=rA d (by omega) (by omega);rw[a]at i;rcases Pk c.key k with e|e
  .exfalso
   exact h ((Ct d k).2 ⟨c,BS b,Pl e (El.1 i)⟩)
  .exact e
def nI (d:cF cs)(c):cF (dG cs c):=by
 rw[De d];refine CO.2 ⟨d.sublist (FU _ _),BG.2 ⟨Mo d c.key,d.sublist (FH _ _)⟩,?_⟩;intro a g b e;have f:=Ck g;rcases AS.1 e with rfl|e
 .exact f
 .exact eY f (Mo d c.key b e)
def gR (b:cF cs)(c x):x∈dG cs c↔x=c\/(x∈cs/\x.key≠c.key):=by
 rw[De b];simp only[AO,AS];constructor
 .rintro(a|a|a)
  .exact .inr ⟨DC a,Pa (Ck a)⟩
  .grind
  .exact .inr ⟨BS a,(Pa (Mo b c.key x a)).symm⟩
 .rintro(a|⟨f,g⟩)
  .grind
  .rcases(zD (dH cs c.key)).1 f with a|a
   .grind
   .refine .inr (.inr ?_)
    by_cases hf:fnd cs c.key=true
    .rw[AU hf]
     have⟨e,d⟩:=tL hf b;rw[CA e]at a;grind
    grind
def qDo (a:cF cs)(c):(dG cs c).length<=cs.length+1/\0<(dG cs c).length:=by
 unfold dG;split
 .rename_i h
  have⟨b,_⟩:=tL h a;grind
 grind
def qDq {P:Ch->Prop}(d:cF cs){c}(h:∀x∈cs,P x)(b:P c):∀x∈dG cs c,P x:=λx e=>by
 rcases(gR d c x).1 e with rfl|⟨a,_⟩
 .exact b
 grind
def valOf(es:List En)(k:ByteArray):Option (List UInt8):=(es.find? (λx=>decide (x.e.key=k))).map En.value
def iL (j:cQ es){k v}:valOf es k=some v↔∃x∈es,x.e.key=k/\x.value=v:=by
 unfold valOf;constructor
 .intro a
  rw[FM]at a;grind
 .intro⟨x,l,c,o⟩
  cases hf:es.find? (λx=>decide (x.e.key=k)) with
  |none =>
   grind
  |some y =>
   have b:=List.find?_some hf;have g:y.e.key=k:=by grind
   have:y=x:=by
    obtain⟨d,h,rfl⟩:=AV l;obtain⟨e,i,rfl⟩:=AV (EZ hf);rcases GT d e with a|a|a
    .have:=BD.1 j d e h i a
     rw[c,g,cI]at this;cases this
    .subst a;rfl
    .have:=BD.1 j e d i h a
     rw[c,g,cI]at this;cases this
   rw[this,LZ,o]
def qFm (d:cQ es)(e:cF cs)(k:ByteArray):valOf (bF es cs) k=match cs.find? (λc=>decide (c.key=k)) with
  |some c=>if c.gone=true then none else some c.val.data.toList
  |none=>valOf es k:=by
 have n:=nO d e;cases hf:cs.find? (λc=>decide (c.key=k)) with
 |some c =>
  have o:=EZ hf;have m:c.key=k:=by grind
  have y:∀b∈cs,b.key=k->b=c:=by
   intro b x l;obtain⟨r,u,rfl⟩:=AV x;obtain⟨s,w,rfl⟩:=AV o;rcases GT r s with i|i|i
   .have:=BD.1 e r s u w i
    rw[l,m,cI]at this;cases this
   .subst i;rfl
   .have:=BD.1 e s r w u i
    rw[l,m,cI]at this;cases this
  simp only;split
  .rename_i hg
   cases hv:valOf (bF es cs) k with
   |none=>rfl
   |some v =>
    have⟨f,j,a,_⟩:=(iL n).1 hv;rcases(gA d e f).1 j with⟨b,g,h,rfl⟩|⟨g,h⟩
    .have:=y b g a
     grind
    grind
  .rename_i hg
   refine(iL n).2 ⟨chE c,(gA d e _).2 (.inl ⟨c,o,by grind,rfl⟩),m,?_⟩;rfl
 |none =>
  have t:∀c∈cs,c.key≠k:=λc p l=>by
   grind
  simp only;cases hv:valOf es k with
  |none =>
   cases hv2:valOf (bF es cs) k with
   |none=>rfl
   |some v =>
    have⟨f,j,a,q⟩:=(iL n).1 hv2;rcases(gA d e f).1 j with⟨b,g,h,rfl⟩|⟨g,h⟩
    .exact absurd a (t b g)
    .rw[(iL d).2 ⟨f,g,a,q⟩]at hv;cases hv
  |some v =>
   have⟨f,j,a,q⟩:=(iL d).1 hv;exact(iL n).2 ⟨f,(gA d e f).2 (.inr ⟨j,λc p=>by grind⟩),a,q⟩
def Jh:¬on (List.replicate n false) p:=by
 unfold on;rw[List.getElem?_replicate];split<;>simp
def vN(n o):Hg (List.replicate n false) o:=by
 cases o with
 |none=>trivial
 |some x=>exact λc b a=>absurd a Jh
def Ap {r d o o'}(h:bQ fs r o)(b:bQ fs d o')(c:fs.safe.length<=u.length)(a:Hg u o):Hg (marks u (cR o')) o:=by
 cases o' with
 |none=>exact a
 |some x' =>
  cases o with
  |none=>trivial
  |some x=>exact Shut.after h.2.2 b.2.2 c a
def dD(os:List (Option (Nat×T))):List Bool:=marks (List.replicate 4096 false) (os.flatMap cR)
def tV(a):(dD a).length=4096:=by unfold dD;rw[gP,DP]
def Dg(a o):dD (a++[o])=marks (dD a) (cR o):=by
 unfold dD;rw[BV,jI,AK,List.flatMap_nil,FD]
def Tq (e:fs.safe.length<=4096):∀(a:List (Option (Nat×T))),(∀o∈a,bQ fs (rootOf o) o)->∀o,bQ fs (rootOf o) o->Hg (dD a) o:=by
 intro a;induction a using Dp with
 |c=>intro _ o _;exact vN 4096 o
 |d a x ih =>
  intro b o c;rw[Dg];exact Ap c (b x (by simp)) (by rw[tV];exact e) (ih (λq d=>b q (by simp[d])) o c)
def Nl {c}:on (dD c) p↔p∈c.flatMap cR/\p<4096:=by
 unfold dD;rw[xH];constructor
 .rintro(d|⟨a,b⟩)
  .exact absurd d Jh
  grind
 grind
def Af (h:Tr K fs o):∀p∈cR o,p<fs.safe.length:=by
 cases o with
 |none=>simp[cR]
 |some x=>exact Ol h.rooted.2.2
def qFg {a}(j:fs.safe.length=n)(k:n<=4096)(g:∀o'∈a,Tr K fs o')(f:o∈a)(m:cF cs)(h:∀c∈cs,c.good)(l:(aU o).length+cs.length<=1000000):
  sE K n fs o cs (eP n (dD a))/\∀o'∈a,∀p∈cR o',p ∉ eP n (dD a):=by
 have e:∀o'∈a,∀p∈cR o',p ∉ eP n (dD a):=λo' d p b i=>by
  have q:=Af (g o' d) p b;exact(zL i).2.2 (Nl.2 ⟨AX.2 ⟨o',d,b⟩,by omega⟩)
 exact⟨⟨g o f,m,h,λp b=>⟨(zL b).1,(zL b).2.1⟩,k,j,Qu _ _,e o f,l⟩,e⟩
def qFp:∀(a:List (Option (Nat×T))),(∀o∈a,Tr K fs o)->(a.flatMap cR).length<=tot (λo=>2 * (aU o).length+ovs (aU o)) a
 |[],_=>by simp
 |o :: a,h=>by
  have c:=Us (h o (by simp)).rooted;have d:=qFp a (λq b=>h q (by simp[b]));rw[AK,jK,cK];omega
def qAx {a}(e:n<=4096)(h:∀o'∈a,Tr K fs o')(g:Tr K fs o)(i:cF cs)(b:∀c∈cs,c.good)(f:(eP n (dD a)).length<(bM o cs (eP n (dD a))).2.length):
  n<2+(2 * (bF (aU o) cs).length+ovs (bF (aU o) cs))+tot (λo=>2 * (aU o).length+ovs (aU o)) a:=by
 have j:=Wi (n:=n) (u:=dD a) (ps:=a.flatMap cR) (by rw[tV];exact e) (λp d=>(Nl.1 d).1);have k:=qFp a h;have l:=Vj (Fw g.rooted i b) (eP n (dD a));unfold bM at f;omega
def Ya(K fs):Tr K fs none:=⟨rfl,trivial,trivial,.inl rfl⟩
def Iq(K n)(d:2<=n):fA K n ⟨List.replicate n (fH 256),[],-1,-1,0⟩ 0 none none:=by
 have a:∀p,p<n->(⟨List.replicate n (fH 256),[],-1,-1,0⟩:Fs).at p=fH 256:=λp b=>by
  simp[Fs.at,qM,List.getElem?_replicate,b]
 exact⟨rfl,by simp,.inl ⟨a _ (by omega),rfl,rfl⟩,⟨0,.inl ⟨a _ (by omega),rfl,rfl⟩,.inr ⟨rfl,rfl⟩⟩,Ya _ _,Ya _ _,λs c=>by rw[List.eq_of_mem_replicate c];exact pA 256⟩
def qEp{P:Program}(w T b E a zero z bytes)(h:P.underlying T=some (.slice a))(g:P.underlying b=some (.int .i64))(hi:(P.info? a).map (λi=>(i.zero,i.size,i.bytes))=some (some zero,z,bytes))(D:zero.cells.size=z)(H:0<z)(m)(p:0<m)(G:m<=140737488355328)(k:m * bytes<=140737488355328):
  ∃c w',(Builtin.append_ #[T,b] E #[.n,.i m]).run P w=.ok (.q w.heap.size m c) w'/\m<=c/\w'.ownsRow 0 a z (.q w.heap.size 0 c) 0 []/\Fr Bl.none w w':=by
 obtain⟨I,o,A,B,C⟩:=EX hi;have x:IntKind.i64.wrap (m:Int)=(m:Int):=by simp[IntKind.wrap,IntKind.bits,IntKind.signed];omega
 have q:¬((m:Int)<0):=by omega
 have r:¬((281474976710656:Int)<(m:Int) * (bytes:Int)):=by
  have:((m * bytes:Nat):Int)=(m:Int) * (bytes:Int):=by simp
  omega
 have j:∀d:World,Sem.run P (asIntOf (Value.int IntKind.i64 (m:Int))) d=.ok (.i64,(m:Int)) d:=λ_=>rfl;have u:¬m=0:=by omega
 have v:¬(m * z=0):=by rw[Nat.mul_eq_zero];omega
 have y:¬z=0:=by omega
 have s:¬((m:Int)<=0):=by omega
 have t:max (m:Int) 0=(m:Int):=by omega
 have f:¬(9223372036854775807<(m:Int)):=by omega
 have F:=JO (need:=m) (old:=0) (bytes:=bytes) p k;have e:¬(281474976710656<Builtin.nextslicecap m 0 * bytes):=by omega
 have n:=MF w m 0 a;have l:=LO w m 0 a (by unfold maxLen;omega);refine⟨grownCap w m 0 a,w.drew.alloc (.cells (Builtin.zeroCells zero.cells m++Builtin.zeroCells zero.cells (grownCap w m 0 a-m)) a),?_,n,?_,?_⟩
 .simp[Builtin.append_,CZ h,CZ g,sizeOf,typeInfo,o,A,B,C,asInt,j,x,q,r,zeroValue,u,v,y,s,t,f,e,Question.forced,newRow,grownCap,Builtin.firstCells]
 .refine⟨by simp,.inr ⟨w.heap.size,_,_,rfl,AG _,heap_alloc_new w.drew _,AG _,l,?_,by simp⟩⟩
  simp[Builtin.zeroCells,D];rw[<-Nat.add_mul];congr 1;omega
 .exact(AE _ w).drew.alloc _
def Xu{P ops e o a Q}(w)(r:o.guard=none)(f x T d b zero z bytes)(u:o.op=.call {callee:=.builtin .append,args:=#[f,x],argTypes:=#[T,d]})(p:P.underlying T=some (.slice b))(l:P.underlying d=some (.int .i64))(hi:(P.info? b).map (λi=>(i.zero,i.size,i.bytes))=some (some zero,z,bytes))(C:zero.cells.size=z)(A:0<z)(m:Nat)(y:a.eval f=.n)(B:a.eval x=.i m)(t:0<m)(s:m<=140737488355328)(q:m * bytes<=140737488355328)(h:∀c w',m<=c->w'.ownsRow 0 b z (.q w.heap.size 0 c) 0 []->Fr Bl.none w w'->wpList P ops Q e (a.put o.dst (.q w.heap.size m c)) w'):
  wpList P ops Q (o :: e) a w:=by
 refine EU r λK n=>?_;have⟨c,w',v,g,j,k⟩:=qEp (P:=P) w T d o.type b zero z bytes p l hi C A m t s q;unfold Oper.wp execOp;simp only[u,resolve,invoke,builtin,EG,DZ,DJ,DM,BH,DB,y,B,v];exact n _ _ (h c w' g j k)
def qCk(m:Nat)(w)(g:m<=4000000):
  cL 222 #[.n,.i m] w λe w'=>∃v,e=.r v/\w'.ownsRow 0 69 4 v 0 []/\bW w w'/\∀k,v.ownBlock=some k->w.heap.size<=k:=by
 go_enter Tryz.func222,Tryz.ntmps222;by_cases hm:0<m
 .have f:(0:Int)<(m:Int):=by omega
  go_wp2_with (at_builtin;apply Xu w rfl (.tmp 20) (.tmp 21) 67 3 69 _ 4 48 rfl Tryz.underlying67 Tryz.underlying3 Fq rfl (by decide) m rfl rfl hm (by omega) (by omega);intro c h d b a);go_ret;exact⟨_,rfl,b,a.below0,by simp[Value.ownBlock]⟩
 .obtain rfl:m=0:=by omega
  go_wp2;go_ret;exact⟨_,rfl,AL _ _ _ _,AC _ _,by simp[Value.ownBlock]⟩
def Nw{P}(w T p a zero z bytes)(d:P.underlying T=some (.slice a))(hi:(P.info? a).map (λi=>(i.zero,i.size,i.bytes))=some (some zero,z,bytes))(v n xs)(m:w.ownsRow 0 a z v n xs)(b o):
  (Builtin.append_ #[T,T] p #[v,.s b 0 o]).run P w=.ok v w:=by
 have⟨s,e,f,h,j⟩:=EX hi;have⟨_,k⟩:=m;rcases k with⟨rfl,rfl⟩|⟨g,c,q,rfl,_,r,l,_⟩
 .cases b<;>simp[Builtin.append_,CZ d,sizeOf,typeInfo,e,f,h,j,Builtin.lenOf,Builtin.firstCells,loadCells,loadCellsFrom]
 .cases b<;>simp[Builtin.append_,CZ d,sizeOf,typeInfo,e,f,h,j,Builtin.lenOf,Builtin.firstCells,loadCells,loadCellsFrom,l,storeCells]
def Xv{P ops e o a Q}(w)(k:o.guard=none)(f x T b zero z bytes)(l:o.op=.call {callee:=.builtin .append,args:=#[f,x],argTypes:=#[T,T]})(j:P.underlying T=some (.slice b))(hi:(P.info? b).map (λi=>(i.zero,i.size,i.bytes))=some (some zero,z,bytes))(v n xs)(p:a.eval f=v)(q:w.ownsRow 0 b z v n xs)(c d)(r:a.eval x=.s c 0 d)(h:wpList P ops Q e (a.put o.dst v) w):
  wpList P ops Q (o :: e) a w:=by
 refine EU k λK g=>?_;unfold Oper.wp execOp;simp only[l,resolve,invoke,builtin,EG,DZ,DJ,DM,BH,DB,p,r,Nw (P:=P) w T o.type b zero z bytes j hi v n xs q c d];exact g _ _ h
def aH.val{w S a e j u}(h:aH w S a e)(d:e[j]?=some u):∃b c,a=some (aD b c)/\S b/\w.c b (c+j)=some u:=by
 rcases h with h|⟨b,c,f,g,i⟩
 .subst h;simp at d
 .exact⟨b,c,f,g,i j u d⟩
def lens{α:Type}(qs:List (Pc α)):Nat:=(qs.map (·.l.length)).sum
def rK (qs:List (Pc a))(j)(h:j<qs.length):lens (qs.take (j+1))=lens (qs.take j)+qs[j].l.length:=by
 unfold lens;rw[AN h,BM,List.sum_append];simp only[BH,DB,List.sum_cons,List.sum_nil,DW]
def Cq (qs:List (Pc a))(j):lens (qs.take j)<=lens qs:=by
 have:qs.map (·.l.length)=(qs.take j).map (·.l.length)++(qs.drop j).map (·.l.length):=by rw[<-BM,CD]
 unfold lens;rw[this,List.sum_append];exact JY _ _
def Hy(a b):aT (a++b)=aT a++aT b:=by simp[aT]
def oT(a):(aT a).length=a.length * 4:=by rw[tP];exact Gf a (Rq a)
def Gj(a):∀u∈aT a,u.oneCell'=true:=by
 intro u c;simp[aT,Ent.cells]at c;obtain⟨d,_,b|b|b|b⟩:=c<;>subst b<;>rfl
def oM(a):∀u∈aM a,u.oneCell'=true:=by
 intro u c;simp[aM,MN.cells]at c;obtain⟨d,_,b|b|b|b|b⟩:=c<;>subst b<;>rfl
def Sc(qs ga gc S w)(hR:aH w S ga (qs.map Pc.val))(hq:∀q∈qs,q.l.length<=q.c/\aH w S q.a (aT q.l))(hS:lW S w)(hn:lens qs<=1000000)(hql:qs.length<=1000000)(hgc:qs.length<=gc):
  cL 220 #[.s ga qs.length gc] w λe w'=>∃v,e=.r v/\w'.ownsRow 0 69 4 v (lens qs) (aT (qs.flatMap (·.l)))/\bW w w'/\nW v w:=by
 have hG:=qCk (lens qs) w (by omega);go_enter Tryz.func220,Tryz.ntmps220;go_wp2;go_loopw [3,11] (λa b wr=>∃j:Nat,a=.i (lens (qs.take j))/\b=.i j/\j<=qs.length/\wr=w) (λ_ b _=>qs.length-(intOf b).toNat)
 case atStart=>exact⟨0,by simp[lens],rfl,AG _,rfl⟩
 case round =>
  obtain⟨j,rfl,rfl,hj,ae⟩:=hrel;subst wr;by_cases hlt:j<qs.length
  .obtain⟨Q,O⟩:=nM (qs[j])
   obtain⟨gb,go,W,a7,I⟩:=hR.val (j:=j) (u:=.s Q.a Q.l.length Q.c) (by rw[BN,jQ hlt,O];rfl);subst W;have K:=Cq qs (j+1);have F:=rK qs j hlt;rw[O]at F;obtain⟨n,J⟩:=nM (lens (qs.take j));rw[J]at F;obtain⟨m,a1⟩:=nM (Q.l.length);rw[a1]at F I;have ag:n+m<=1000000:=by omega
   have L:Hid (lens (qs.take (j+1))=n+m):=F;simp only[J];clear F K J a1 O hG hR hq;have af:¬((n:Int)+(m:Int)<0):=by omega
   go_wp2;go_roundw
   case rel=>exact⟨j+1,by rw[L.o];congr 1,by go_num,by omega,by first|trivial|rfl⟩
   case measure=>simp[intOf];omega
  .obtain rfl:j=qs.length:=by omega
   have a9:Hid (qs.take qs.length=qs):=BK;simp only[BK];obtain⟨N,hN⟩:=nM (lens qs);have HN:Hid (lens qs=N):=hN;rw[hN]at hG hn;simp only[hN];clear hN;go_wp2_with (go_at_call 222;refine hG.m ?_;clear hG;rintro e w1 ⟨v,rfl,a3,a4,a6⟩);go_loopw [6,27] (λa b wr=>∃j:Nat,b=.i j/\j<=qs.length/\wr.ownsRow 0 69 4 a (lens (qs.take j)) (aT ((qs.take j).flatMap (·.l)))/\bW w wr/\nW a w) (λ_ b _=>qs.length-(intOf b).toNat)
   case atStart=>exact⟨0,rfl,AG _,by simpa[lens,aT] using a3,a4,a6⟩
   case round =>
    obtain⟨j,rfl,a8,X,U,hk⟩:=hrel;obtain⟨aa,ac,rfl⟩:=aG X;by_cases hlt2:j<qs.length
    .obtain⟨Q,O⟩:=nM (qs[j])
     have a5:Q∈qs:=O▸AA hlt2;obtain⟨gb,go,W,a7,I⟩:=(hR.on (vV U hS)).val (j:=j) (u:=.s Q.a Q.l.length Q.c) (by rw[BN,jQ hlt2,O];rfl);subst W;have K:=Cq qs (j+1);have F:=rK qs j hlt2;rw[O]at F;have R:(qs.take (j+1)).flatMap (·.l)=(qs.take j).flatMap (·.l)++Q.l:=by rw[AN hlt2,O];simp
     obtain⟨n,J⟩:=nM (lens (qs.take j));rw[J]at F X;simp only[J]at hk;have a2:n+Q.l.length<=1000000:=by have:=HN.o;omega
     have L:Hid (lens (qs.take (j+1))=n+Q.l.length):=F;have M:Hid (aT ((qs.take (j+1)).flatMap (·.l))=aT ((qs.take j).flatMap (·.l))++aT Q.l):=by show _=_;rw[R,Hy]
     simp only[J];have V:=(hq Q a5).2.on (vV U hS);clear F R K J O;obtain⟨Qa,Qc,Y⟩:=Q;simp only at I a2 V L M;by_cases hl0:0<Y.length
     .obtain⟨rb,ro,rfl,ad⟩:=V.addr (zN hl0)
      have Z:∀i u,(aT Y)[i]?=some u->wr.cell? (((aD rb ro):Addr).add i)=some u:=by
       intro i u hu;obtain⟨b,ab,a0,_,hc⟩:=V.val hu;simp only[BB,CC,DD]at a0;obtain⟨rfl,rfl⟩:=a0;have e:((aD rb ro):Addr).add i=(aD rb (ro+i)):=by unfold Addr.add;split<;>simp_all
       rw[e];exact hc
      go_wp2_with (at_builtin;refine yK wr rfl (.tmp 31) (.tmp 32) 67 69 _ 4 48 rfl Tryz.underlying67 Fq rfl (by decide) (.s aa n ac) n (aT ((qs.take j).flatMap (·.l))) rfl X (aD rb ro) Y.length Qc (aT Y) rfl (oT Y) Z (Gj Y) (by omega) (by omega) ?_;intro v3 w3 A3;obtain⟨g3,k3,rfl⟩:=A3.shape hl0);go_roundw
      case rel =>
       refine⟨j+1,by go_num,by omega,by rw[L.o,M.o];exact A3.row,U.t (A3.fr.below U.size hk),?_⟩;intro k h;rcases A3.lies k h with h|h
       .exact hk k h
       .exact vJ U.size h
      case measure=>simp[intOf];omega
     .obtain rfl:=AH (by omega:Y.length=0)
      simp only[jN]at I;go_wp2_with (at_builtin;refine Xv wr rfl (.tmp 31) (.tmp 32) 67 69 _ 4 48 rfl Tryz.underlying67 Fq (.s aa n ac) n (aT ((qs.take j).flatMap (·.l))) rfl X Qa Qc rfl ?_);go_roundw
      case rel=>exact⟨j+1,by go_num,by omega,by rw[L.o,M.o];simpa[aT] using X,U,hk⟩
      case measure=>simp[intOf];omega
    .obtain rfl:j=qs.length:=by omega
     simp only[BK]at X hk⊢;go_wp2;go_ret;exact⟨_,rfl,X,U,hk⟩
def qCj(m:Nat)(w)(g:m<=4000000):
  cL 223 #[.n,.i m] w λe w'=>∃v,e=.r v/\w'.ownsRow 0 242 5 v 0 []/\bW w w'/\∀k,v.ownBlock=some k->w.heap.size<=k:=by
 go_enter Tryz.func223,Tryz.ntmps223;by_cases hm:0<m
 .have f:(0:Int)<(m:Int):=by omega
  go_wp2_with (at_builtin;apply Xu w rfl (.tmp 20) (.tmp 21) 239 3 242 _ 5 88 rfl Tryz.underlying239 Tryz.underlying3 iT rfl (by decide) m rfl rfl hm (by omega) (by omega);intro c h d b a);go_ret;exact⟨_,rfl,b,a.below0,by simp[Value.ownBlock]⟩
 .obtain rfl:m=0:=by omega
  go_wp2;go_ret;exact⟨_,rfl,AL _ _ _ _,AC _ _,by simp[Value.ownBlock]⟩
def Sb(qs ga gc S w)(hR:aH w S ga (qs.map Pc.val))(hq:∀q∈qs,q.l.length<=q.c/\aH w S q.a (aM q.l))(hS:lW S w)(hn:lens qs<=1000000)(hql:qs.length<=1000000)(hgc:qs.length<=gc):
  cL 221 #[.s ga qs.length gc] w λe w'=>∃v,e=.r v/\w'.ownsRow 0 242 5 v (lens qs) (aM (qs.flatMap (·.l)))/\bW w w'/\nW v w:=by
 have hG:=qCj (lens qs) w (by omega);go_enter Tryz.func221,Tryz.ntmps221;go_wp2;go_loopw [3,11] (λa b wr=>∃j:Nat,a=.i (lens (qs.take j))/\b=.i j/\j<=qs.length/\wr=w) (λ_ b _=>qs.length-(intOf b).toNat)
 case atStart=>exact⟨0,by simp[lens],rfl,AG _,rfl⟩
 case round =>
  obtain⟨j,rfl,rfl,hj,ab⟩:=hrel;subst wr;by_cases hlt:j<qs.length
  .obtain⟨Q,A⟩:=nM (qs[j])
   obtain⟨gb,go,F,a5,o⟩:=hR.val (j:=j) (u:=.s Q.a Q.l.length Q.c) (by rw[BN,jQ hlt,A];rfl);subst F;have t:=Cq qs (j+1);have f:=rK qs j hlt;rw[A]at f;obtain⟨n,p⟩:=nM (lens (qs.take j));rw[p]at f;obtain⟨m,V⟩:=nM (Q.l.length);rw[V]at f o;have ae:n+m<=1000000:=by omega
   have y:Hid (lens (qs.take (j+1))=n+m):=f;simp only[p];clear f t p V A hG hR hq;have ad:¬((n:Int)+(m:Int)<0):=by omega
   go_wp2;go_roundw
   case rel=>exact⟨j+1,by rw[y.o];congr 1,by go_num,by omega,by first|trivial|rfl⟩
   case measure=>simp[intOf];omega
  .obtain rfl:j=qs.length:=by omega
   have a7:Hid (qs.take qs.length=qs):=BK;simp only[BK];obtain⟨N,hN⟩:=nM (lens qs);have HN:Hid (lens qs=N):=hN;rw[hN]at hG hn;simp only[hN];clear hN;go_wp2_with (go_at_call 223;refine hG.m ?_;clear hG;rintro e w1 ⟨v,rfl,a1,a2,a4⟩);go_loopw [6,27] (λa b wr=>∃j:Nat,b=.i j/\j<=qs.length/\wr.ownsRow 0 242 5 a (lens (qs.take j)) (aM ((qs.take j).flatMap (·.l)))/\bW w wr/\nW a w) (λ_ b _=>qs.length-(intOf b).toNat)
   case atStart=>exact⟨0,rfl,AG _,by simpa[lens,aM] using a1,a2,a4⟩
   case round =>
    obtain⟨j,rfl,a6,G,D,L⟩:=hrel;obtain⟨aa,ac,rfl⟩:=aG G;by_cases hlt2:j<qs.length
    .obtain⟨Q,A⟩:=nM (qs[j])
     have a3:Q∈qs:=A▸AA hlt2;obtain⟨gb,go,F,a5,o⟩:=(hR.on (vV D hS)).val (j:=j) (u:=.s Q.a Q.l.length Q.c) (by rw[BN,jQ hlt2,A];rfl);subst F;have t:=Cq qs (j+1);have f:=rK qs j hlt2;rw[A]at f;have C:(qs.take (j+1)).flatMap (·.l)=(qs.take j).flatMap (·.l)++Q.l:=by rw[AN hlt2,A];simp
     obtain⟨n,p⟩:=nM (lens (qs.take j));rw[p]at f G;simp only[p]at L;have X:n+Q.l.length<=1000000:=by have:=HN.o;omega
     have y:Hid (lens (qs.take (j+1))=n+Q.l.length):=f;have z:Hid (aM ((qs.take (j+1)).flatMap (·.l))=aM ((qs.take j).flatMap (·.l))++aM Q.l):=by show _=_;rw[C,iC]
     simp only[p];have E:=(hq Q a3).2.on (vV D hS);clear f C t p A;obtain⟨Qa,Qc,H⟩:=Q;simp only at o X E y z;by_cases hl0:0<H.length
     .obtain⟨rb,ro,rfl,a9⟩:=E.addr (zB hl0)
      have I:∀i u,(aM H)[i]?=some u->wr.cell? (((aD rb ro):Addr).add i)=some u:=by
       intro i u hu;obtain⟨b,a8,U,_,hc⟩:=E.val hu;simp only[BB,CC,DD]at U;obtain⟨rfl,rfl⟩:=U;have e:((aD rb ro):Addr).add i=(aD rb (ro+i)):=by unfold Addr.add;split<;>simp_all
       rw[e];exact hc
      go_wp2_with (at_builtin;refine yK wr rfl (.tmp 31) (.tmp 32) 239 242 _ 5 88 rfl Tryz.underlying239 iT rfl (by decide) (.s aa n ac) n (aM ((qs.take j).flatMap (·.l))) rfl G (aD rb ro) H.length Qc (aM H) rfl (iQ H) I (oM H) (by omega) (by omega) ?_;intro v3 w3 Y;obtain⟨g3,k3,rfl⟩:=Y.shape hl0);go_roundw
      case rel =>
       refine⟨j+1,by go_num,by omega,by rw[y.o,z.o];exact Y.row,D.t (Y.fr.below D.size L),?_⟩;intro k h;rcases Y.lies k h with h|h
       .exact L k h
       .exact vJ D.size h
      case measure=>simp[intOf];omega
     .obtain rfl:=AH (by omega:H.length=0)
      simp only[jN]at o;go_wp2_with (at_builtin;refine Xv wr rfl (.tmp 31) (.tmp 32) 239 242 _ 5 88 rfl Tryz.underlying239 iT (.s aa n ac) n (aM ((qs.take j).flatMap (·.l))) rfl G Qa Qc rfl ?_);go_roundw
      case rel=>exact⟨j+1,by go_num,by omega,by rw[y.o,z.o];simpa[aM] using G,D,L⟩
      case measure=>simp[intOf];omega
    .obtain rfl:j=qs.length:=by omega
     simp only[BK]at G L⊢;go_wp2;go_ret;exact⟨_,rfl,G,D,L⟩
def cP{B W a c}(b:Below B W a)(d:B<=W.heap.size)(e:bW a c):Below B W c:=b.t (e.m (vJ d b.size))
def mX(m:MN)(es ms S w)(M:m.en=es.length)(R:m.kn=ms.length)(N:es.length<=m.ec)(T:ms.length<=m.kc)(K:aH w S m.ea (aT es))(J:aH w S m.ka (aM ms))(r:lW S w)(Z:es.length<=1000000)(a0:ms.length<=1000000)(O:∀x∈es,x.fits)(P:∀x∈ms,x.fits):
  cL 215 #[m.val] w λe w'=>e=.r (.bool (m.place==0&&decide (tot esz es+tot ksz ms<62)))/\bW w w':=by
 have⟨Y,Q,h,t,a5,u,v,a7,y⟩:=m;simp only at M R N T K J;subst M R;obtain⟨d,L,G,o,-⟩:=al1 w (.cells #[.t Y,.t Q,.i h,.s t es.length u,.s v ms.length y] 242);have⟨a8,a9,aa,ab,ac⟩:=cV o;have a2:tot esz es<=427000000:=by have:=pN esz es 427 (λx F=>qS (O x F));omega
 have a3:tot ksz ms<=27000000:=by have:=pN ksz ms 27 (λx F=>qN (P x F));omega
 have a6:lW S d:=λb g=>jY (r b g) G.size;have l:∀W,bW w W->cL 212 #[.s t es.length u,.func (.func 203) #[] #[]] W λe w'=>e=.r (.i (tot esz es))/\bW W w':=λW s=>Dk t u es S W (K.on (vV s r)) (λb g=>jY (r b g) s.size) Z N O;have n:∀W,bW w W->cL 217 #[.s v ms.length y,.func (.func 208) #[] #[]] W λe w'=>e=.r (.i (tot ksz ms))/\bW W w':=λW s=>Dj v y ms S W (J.on (vV s r)) (λb g=>jY (r b g) s.size) a0 T P;have⟨i,V⟩:=nM (tot esz es);have⟨j,X⟩:=nM (tot ksz ms);simp only[V,X]at a2 a3 l n⊢;clear V X;have H:=l;have I:=n;clear l n;have q:∀W,Below (w.heap.size+1) d W->bW w W:=λW g=>G.t (g.m (DO _));have l:=λW g=>H W (q W g);have n:=λW g=>I W (q W g);clear H I;have f:w.heap.size+1<=d.heap.size:=(gL o);have a:Below (w.heap.size+1) d d:=AC _ _;go_enter Tryz.func215,Tryz.ntmps215;by_cases hp:h=0
 .have a1:((h:Int)==0)=true:=by simp[hp]
  have U:(h==0)=true:=by simp[hp]
  clear hp;by_cases hlt:i+j<62
  .have z:Hid (decide (IntKind.i64.wrap ((i:Int)+(j:Int))<62)=true):=by show _=_;rw[CS,JK];· omega
   have p:Hid ((h==0&&decide (i+j<62))=true):=by show _=_;simp[U,hlt]
   go_wp2;go_region_with (first|(go_at_call 212;apply(l _ (by first|exact a|exact a.drew|exact a.drew.drew)).m;rintro e k ⟨rfl,c⟩;have a:Below (w.heap.size+1) d k:=(by first|exact cP a f c|exact cP a.drew f c|exact cP a.drew.drew f c);have⟨A,B,C,D,E⟩:=cV ((a.block w.heap.size (DH _)).t o))|(go_at_call 217;apply(n _ (by first|exact a|exact a.drew|exact a.drew.drew)).m;rintro e k ⟨rfl,c⟩;have a:Below (w.heap.size+1) d k:=(by first|exact cP a f c|exact cP a.drew f c|exact cP a.drew.drew f c);have⟨A,B,C,D,E⟩:=cV ((a.block w.heap.size (DH _)).t o)))
   all_goals go_wp2
   all_goals go_ret
   all_goals exact⟨by rw[p.o];exact CI (λb=>Ending.returned (Value.bool b)) z,q _ (by first|exact a|exact a.drew|exact a.drew.drew)⟩
  .have z:Hid (decide (IntKind.i64.wrap ((i:Int)+(j:Int))<62)=false):=by show _=_;rw[CS,FL];· omega
   have p:Hid ((h==0&&decide (i+j<62))=false):=by show _=_;simp[U,hlt]
   go_wp2;go_region_with (first|(go_at_call 212;apply(l _ (by first|exact a|exact a.drew|exact a.drew.drew)).m;rintro e k ⟨rfl,c⟩;have a:Below (w.heap.size+1) d k:=(by first|exact cP a f c|exact cP a.drew f c|exact cP a.drew.drew f c);have⟨A,B,C,D,E⟩:=cV ((a.block w.heap.size (DH _)).t o))|(go_at_call 217;apply(n _ (by first|exact a|exact a.drew|exact a.drew.drew)).m;rintro e k ⟨rfl,c⟩;have a:Below (w.heap.size+1) d k:=(by first|exact cP a f c|exact cP a.drew f c|exact cP a.drew.drew f c);have⟨A,B,C,D,E⟩:=cV ((a.block w.heap.size (DH _)).t o)))
   all_goals go_wp2
   all_goals go_ret
   all_goals exact⟨by rw[p.o];exact CI (λb=>Ending.returned (Value.bool b)) z,q _ (by first|exact a|exact a.drew|exact a.drew.drew)⟩
 .have a1:((h:Int)==0)=false:=by simp[hp]
  have p:Hid ((h==0&&decide (i+j<62))=false):=by show _=_;simp[hp]
  go_wp2;go_region
  all_goals go_wp2
  all_goals go_ret
  all_goals exact⟨by rw[p.o];rfl,q _ (by first|exact a|exact a.drew|exact a.drew.drew)⟩
