import Derived.Test.YtdhgdcjmhofhaaaGreatD26
set_option linter.all false
namespace Go.Proofs.YtdhgdcjmhofhaaaGreat.Tree
open Go.RowKit Pages
variable {P fr:List Nat} {a:Type} {cs:List Ch} {fs:Fs} {h p root:Nat} {o:Option (Nat×T)} {s:Sp} {t:T}
def NT.kidsN:NT->List NT
 |.kept (.leaf _ _) _=>[]
 |.kept (.branch _ ks kids) s=>(parts s ks kids).map λx=>.kept x.1 x.2
 |.leaf _ _=>[]
 |.bran _ ks=>ks
def oY:Nat->NT->NT->List NT
 |0,a,b=>qGo a b
 |h+1,a,b=>eC (pZ (oY h) (a.kidsN++b.kidsN))
theorem gM (H:OkH fs h (.kept t s)):aU fs h t s/\s.lo.size<=24/\bH (t.place:Nat)=true:=by cases h<;>exact H
theorem iK(h t s):(NT.kept t s).entsH h=T.ents h t:=by cases h<;>rfl
theorem qHp (H:aU fs h t s)(a:s.lo.size<=24)(b:bH (t.place:Nat)=true):OkH fs h (.kept t s):=by cases h<;>exact⟨H,a,b⟩
theorem tL {ks a}(f:aU fs (h+1) (.branch p ks a) s)(i:s.lo.size<=24):∀x∈parts s ks a,OkH fs h (.kept x.1 x.2):=by
 have⟨u,v,r,n,j⟩:=dG f;have⟨g,k,o,t,l,_⟩:=f;intro x b;refine qHp (j x b) ?_ ?_
 ·obtain⟨c,e,rfl⟩:=AU b
  have m:c<a.length:=by rwa[cI]at e
  have d:=fH s ks a c m;rw[jQ e,AX]at d;rw[d];show(kV s ks c).size<=24
  unfold kV;grind
 ·have:=Pj k o (x.1.place:Int) (by rw[l];exact AY.2 ⟨x.1,pT (fs:=fs) b,rfl⟩)
  exact this
theorem tP {n}(H:OkH fs (h+1) n):dX fs h n.kidsN/\bK h n.kidsN=n.entsH (h+1)/\n.kidsN≠[]/\∀k∈n.kidsN,le n.sp.lo k.sp.lo=true:=by
 cases n with
 |leaf=>exact H.elim
 |bran s ks =>
  have⟨x,y,E,F,j,A⟩:=H;have i:dX fs h ks:=⟨λn b=>(j n b).1,λn b=>(j n b).2,A⟩;refine⟨i,rfl,x,λk e=>?_⟩;show le s.lo k.sp.lo=true
  rw[y];exact i.first k e
 |kept t s =>
  have⟨f,z,_⟩:=gM H;cases t with
  |leaf=>simp[aU]at f
  |branch p ks kids =>
   have⟨o,q,m,_,l⟩:=dG f;refine⟨⟨?_,?_,?_⟩,?_,?_,?_⟩
   ·intro n b
    obtain⟨a,c,rfl⟩:=AY.1 b;exact (tL f z) a c
   ·intro n b u g
    obtain⟨a,c,rfl⟩:=AY.1 b;rw[iK]at g;exact sR (gG (l a c) u g)
   ·show((parts s ks kids).map _).Pairwise _
    rw[EI];refine JK ?_ (nP s ks kids o q m);intro a u c g ⟨v,w⟩ D r;rw[iK]at r;have:=fW.1 (uY (gG (l a c) D r));exact bT (this.elim (λd=>absurd d v) id) w
   ·show bK h ((parts s ks kids).map _)=kids.flatMap (T.ents h)
    rw[<-iQ s ks kids,bK,JM,JM];have:∀a∈parts s ((parts s ks kids).map (·.1) |> λ_=>ks) kids,(NT.kept a.1 a.2).entsH h=T.ents h a.1:=λa _=>iK h a.1 a.2;rw[JN,JN,iQ];exact BZ List.flatten (DX this)
   ·intro d
    have:(parts s ks kids).length=0:=by
     have:=BZ List.length d;simpa[NT.kidsN] using this
    rw[cI]at this;omega
   ·intro k e
    obtain⟨a,c,rfl⟩:=AY.1 e;exact(sB s ks kids o q m a c).1
theorem xQ {n}(H:OkH fs 0 n):n.entsH 0=n.ents0:=by
 cases n with
 |leaf=>rfl
 |bran=>rfl
 |kept t s=>cases t with
  |leaf=>rfl
  |branch=>rfl
theorem zV{b}{J:List NT->Prop}(i:∀f l n B,J (f++l :: n :: B)->J (f++(b l n++B))/\gT (b l n)):∀(acc next B:List NT),(∀m∈acc,dE m=false)->gT next->J (acc.reverse++(next++B))->gT (pY b acc next)
 |[],next,B,_,ht,_=>ht
 |l :: acc,next,B,ha,ht,h=>by
  match next,ht,h with
  |[],_,h =>
   show gT ((l :: acc).reverse++[])
   rw[EV];exact .inr (λm a=>ha m (JO.1 a))
  |[m],_,h =>
   by_cases hs:dE l=true\/dE m=true
   ·have e:pY b (l :: acc) [m]=pY b acc (b l m):=AW hs
    rw[e];have g:=i _ _ _ _ (show J (acc.reverse++l :: m :: B) by grind);exact zV i acc (b l m) B (λm a=>ha m (by simp[a])) g.2 g.1
   ·have e:pY b (l :: acc) [m]=(l :: acc).reverse++[m]:=AQ hs
    rw[e];refine .inr (λd c=>?_);grind
  |d :: y :: r,ht,h =>
   show gT ((l :: acc).reverse++d :: y :: r)
   refine .inr (λm a=>?_);rcases AO.1 a with a|a
   ·grind
   ·exact(ht.resolve_left (by simp)) m a
theorem Eg{a}{J:List NT->Prop}(d:∀c l n B,J (c++l :: n :: B)->J (c++(a l n++B))/\gT (a l n)):∀{ns acc:List NT},gT acc->J (acc++ns)->gT (ns.foldl (wH a) acc)
 |[],acc,ht,_=>ht
 |n :: ns,acc,ht,b=>by
  refine Eg d (ns:=ns) (acc:=wH a acc n) ?_ (zU (λc l n B b=>(d c l n B b).1) b);by_cases ha:∀f∈acc,dE f=false
  ·exact zV d acc.reverse [n] ns (λf e=>ha f (JO.1 e)) (.inl rfl) (by grind)
  ·obtain⟨l,rfl⟩:=EL.1 (ht.resolve_right ha)
   have h:dE l=true:=by
    grind
   have g:wH a [l] n=a l n:=AW (.inl h);rw[g];exact(d [] l n ns (by grind)).2
theorem tE:gT []:=.inr (by simp)
structure qGj (fs:Fs) (h:Nat) (l n:NT) (M:List NT):Prop where
 lst:dX fs h M
 ents:bK h M=l.entsH h++n.entsH h
 ne:M≠[]
 tight:gT M
 lo:∀m∈M,le l.sp.lo m.sp.lo=true
theorem dX.two {a B l n}(L:dX fs h (a++l :: n :: B)):dX fs h [l,n]:=
 L.sub ((List.Sublist.cons_cons l (List.Sublist.cons_cons n (List.nil_sublist B))).trans (LZ a _))
theorem Uh (i:∀{l n:NT},dX fs h [l,n]->qGj fs h l n (oY h l n))(e c):∀b l n B,(dX fs h (b++l :: n :: B)/\bK h (b++l :: n :: B)=e/\∀m∈b++l :: n :: B,le c m.sp.lo=true)->(dX fs h (b++(oY h l n++B))/\bK h (b++(oY h l n++B))=e/\∀m∈b++(oY h l n++B),le c m.sp.lo=true)/\gT (oY h l n):=by
 intro b l n B ⟨f,g,d⟩;have T:=i f.two;have⟨j,k⟩:=f.swap T.lst T.ents T.lo;refine⟨⟨j,k.trans g,λm a=>?_⟩,T.tight⟩;simp only[AO]at a;rcases a with a|a|a
 ·grind
 ·exact bF (d l (by simp)) (T.lo m a)
 grind
structure qIs (fs:Fs) (h:Nat) (E:List En) (c:ByteArray) (M:List NT):Prop where
 lst:dX fs h M
 ents:bK h M=E
 lo:∀m∈M,le c m.sp.lo=true
 tight:gT M
theorem Ox (j:∀{l n:NT},dX fs h [l,n]->qGj fs h l n (oY h l n)){ns c}(L:dX fs h ns)(a:∀m∈ns,le c m.sp.lo=true):qIs fs h (bK h ns) c (pZ (oY h) ns):=by
 have b:=Uh j (bK h ns) c;have⟨e,f,g⟩:=sP (J:=λM=>dX fs h M/\bK h M=bK h ns/\∀m∈M,le c m.sp.lo=true) (λd l n B i=>(b d l n B i).1) (ns:=ns) ⟨L,rfl,a⟩;exact⟨e,f,g,Eg (J:=λM=>dX fs h M/\bK h M=bK h ns/\∀m∈M,le c m.sp.lo=true) (acc:=[]) b tE ⟨L,rfl,a⟩⟩
theorem Ju:∀(h:Nat) {l n:NT},dX fs h [l,n]->qGj fs h l n (oY h l n)
 |0,l,n,d=>by
  have w:=d.ok l (by simp);have on:=d.ok n (by simp);have⟨k,p,s⟩:=iX w;have⟨q,t,u⟩:=iX on;have O:cM (l.entsH 0++n.entsH 0):=by have:=d.rise;simpa[bK] using this
  have g:oY 0 l n=cT (l.entsH 0++n.entsH 0):=by rw[xQ w,xQ on];rfl
  rw[g];have⟨z,A,B,C,D⟩:=Ks (fs:=fs) O (λj i=>(AO.1 i).elim (s j) (u j)) (λg=>k (EK.1 g).1);refine⟨z,A,B,C,λe f=>?_⟩;have⟨j,i,g⟩:=D e f;rw[g];rcases AO.1 i with i|i
  ·exact d.lo l (by simp) j i
  ·have⟨x,r⟩:=FT _ k
   exact bF (d.lo l (by simp) x r) (bF (gN ((BC.1 d.sep).1 n (by simp) x r)) (d.lo n (by simp) j i))
 |h+1,l,n,d=>by
  have⟨k,p,s,R⟩:=tP (d.ok l (by simp));have⟨q,t,u,v⟩:=tP (d.ok n (by simp));have y:dX fs h (l.kidsN++n.kidsN):=by
   refine⟨λe f=>(AO.1 f).elim (k.ok e) (q.ok e),λe f=>(AO.1 f).elim (k.lo e) (q.lo e),CI.2 ⟨k.sep,q.sep,λa J b K j i=>?_⟩⟩;have:j∈l.entsH (h+1):=by rw[<-p];exact AV.2 ⟨a,J,i⟩
   exact bT (((BC.1 d.sep).1 n (by simp)) j this) (v b K)
  have m:=Ox (λ{l n} d=>Ju h d) (c:=l.sp.lo) y (λe f=>(AO.1 f).elim (R e) (λf=>bF (gN ((BC.1 d.los).1 n (by simp))) (v e f)));have N:pZ (oY h) (l.kidsN++n.kidsN)≠[]:=λg=>by
   have o:=m.ents;rw[g,eL,p]at o;exact(iX (d.ok l (by simp))).1 (EK.1 o.symm).1
  have⟨E,F,G,H,I⟩:=Ln m.lst m.tight N;refine⟨E,?_,G,H,λe f=>?_⟩
  ·show bK (h+1) (eC _)=_
   rw[F,m.ents,eL,p,t]
  ·have⟨Q,L,g⟩:=I e f
   rw[g];exact m.lo Q L
theorem qEr {ns c}(L:dX fs h ns)(a:∀m∈ns,le c m.sp.lo=true):qIs fs h (bK h ns) c (pZ (oY h) ns):=Ox (λ{b n} L=>Ju h L) L a
def chP:Nat->T->Sp->List Ch->List NT
 |_,.leaf _ es,_,cs=>cT (bD es cs)
 |0,.branch _ _ _,_,_=>[]
 |h+1,.branch _ ks kids,s,cs=>eC (pZ (oY h) ((parts s ks kids).flatMap λx=>if (dB cs x.2).length=0 then [.kept x.1 x.2] else chP h x.1 x.2 (dB cs x.2)))
structure Bu (fs:Fs) (h:Nat) (s:Sp) (E:List En) (ns:List NT):Prop where
 lst:dX fs h ns
 ents:bK h ns=E
 keys:∀y∈E,s.has y.e.key=true
 los:∀n∈ns,le s.lo n.sp.lo=true
 tight:gT ns
theorem qFd (f e):∀(l:List (T×Sp)),(∀x∈l,Bu fs h x.2 (e x) (f x))->l.Pairwise (λx d=>x.2.hi≠⟨#[]⟩/\le x.2.hi d.2.lo=true)->dX fs h (l.flatMap f)/\bK h (l.flatMap f)=l.flatMap e
 |[],_,_=>⟨⟨by simp,by simp,by simp⟩,rfl⟩
 |x :: l,H,hp=>by
  have⟨t,u⟩:=BC.1 hp;have⟨k,s⟩:=qFd f e l (λd j=>H d (by simp[j])) u;have c:=H x (by simp);rw[AJ,AJ];refine⟨⟨by intro n i;exact(AO.1 i).elim (c.lst.ok n) (k.ok n),by intro n i;exact(AO.1 i).elim (c.lst.lo n) (k.lo n),?_⟩,by rw[eL,s,c.ents]⟩
  ·refine CI.2 ⟨c.lst.sep,k.sep,λa r b g d j=>?_⟩
   have⟨o,m,g⟩:=AV.1 g;have⟨v,w⟩:=t o m;have q:=(fW.1 (uY (c.keys d (by rw[<-c.ents];exact AV.2 ⟨a,r,j⟩)))).elim (λh=>absurd h v) id;exact bT (bT q w) ((H o (by simp[m])).los b g)
theorem De {ks f}(n:aU fs (h+1) (.branch p ks f) s)(e:cJ cs)(t:∀c∈cs,s.has c.key=true)(r:cM ((parts s ks f).flatMap (λx=>bD (T.ents h x.1) (dB cs x.2)))):(parts s ks f).flatMap (λx=>bD (T.ents h x.1) (dB cs x.2))=bD (T.ents (h+1) (.branch p ks f)) cs:=by
 have l:=dV n;have⟨v,A,z,_,g⟩:=dG n;apply vO r (mT l e);intro q;rw[fT l e];simp only[AV,T.ents];constructor
 ·intro⟨x,d,j⟩
  rcases(fT (dV (g x d)) (kK e x.2) q).1 j with⟨c,a,b,rfl⟩|⟨a,b⟩
  ·exact .inl ⟨c,(lT.1 a).1,b,rfl⟩
  ·refine .inr ⟨⟨x.1,pT (fs:=fs) d,a⟩,λc i k=>b c (lT.2 ⟨i,?_⟩) k⟩
   rw[k];exact gG (g x d) q a
 ·rintro(⟨c,a,b,rfl⟩|⟨⟨y,u,j⟩,b⟩)
  ·have⟨x,d,w⟩:=zA s ks f v c.key (t c a)
   exact⟨x,d,(fT (dV (g x d)) (kK e x.2) _).2 (.inl ⟨c,lT.2 ⟨a,w⟩,b,rfl⟩)⟩
  ·have⟨o,m⟩:=lX (s:=s) (ks:=ks) u
   exact⟨(y,o),m,(fT (dV (g _ m)) (kK e o) _).2 (.inr ⟨j,λc i=>b c (lT.1 i).1⟩)⟩
theorem Ww {es}(f:cM es)(g:cJ cs)(d:∀x∈es,s.has x.e.key=true)(e:∀c∈cs,s.has c.key=true):∀a∈bD es cs,s.has a.e.key=true:=by
 intro a h;rcases(fT f g a).1 h with⟨c,b,_,rfl⟩|⟨b,_⟩
 ·exact e c b
 grind
theorem Vn:∀(h:Nat) {t:T}{s:Sp}{cs:List Ch},aU fs h t s->s.lo.size<=24->cJ cs->(∀c∈cs,c.good)->(∀c∈cs,s.has c.key=true)->Bu fs h s (bD (T.ents h t) cs) (chP h t s cs)
 |0,.leaf p es,s,cs,ht,h24,hr,hc,hcs=>by
  have l:=dV (h:=0) ht;have g:=Ww l hr (gG (h:=0) ht) hcs;by_cases h0:bD es cs=[]
  ·have f:chP 0 (.leaf p es) s cs=[]:=by simp[chP,h0,cT,iR esz [] (by simp[tot])]
   rw[f];exact⟨⟨by simp,by simp,by simp⟩,h0.symm,g,by simp,tE⟩
  ·have⟨y,z,Q,A,B⟩:=Ks (fs:=fs) (mT l hr) (jW (fs:=fs) l hr (jL ht) hc) h0
   refine⟨y,z,g,λn b=>?_,A⟩;have⟨a,d,f⟩:=B n b;rw[f];exact sR (g a d)
 |0,.branch _ _ _,s,cs,ht,_,_,_,_=>ht.elim
 |h+1,.leaf _ _,s,cs,ht,_,_,_,_=>by simp[aU]at ht
 |h+1,.branch p ks kids,s,cs,ht,h24,hr,hc,hcs=>by
  have v:=tL ht h24;have⟨u,w,q,_,H⟩:=dG ht;have r:∀a∈parts s ks kids,Bu fs h a.2 (bD (T.ents h a.1) (dB cs a.2)) (if (dB cs a.2).length=0 then [.kept a.1 a.2] else chP h a.1 a.2 (dB cs a.2)):=by
   intro a d;have k:=H a d;split
   ·rename_i h0
    rw[AG h0,mU (dV k)];refine⟨⟨by grind,?_,by simp⟩,by simp[bK,iK],gG k,by intro n b;rw[AS]at b;subst b;exact bI _,.inl rfl⟩
    ·intro n b P x;rw[AS]at b;subst b
     rw[iK]at x;exact sR (gG k P x)
   ·exact Vn h k (gM (v a d)).2.1 (kK hr a.2) (λc h=>hc c (lT.1 h).1) (λc h=>(lT.1 h).2)
  have⟨m,o⟩:=qFd (fs:=fs) (h:=h) (λa=>if (dB cs a.2).length=0 then [.kept a.1 a.2] else chP h a.1 a.2 (dB cs a.2)) (λa=>bD (T.ents h a.1) (dB cs a.2)) (parts s ks kids) r (nP s ks kids u w q);have K:∀j∈(parts s ks kids).flatMap (λa=>if (dB cs a.2).length=0 then [.kept a.1 a.2] else chP h a.1 a.2 (dB cs a.2)),le s.lo j.sp.lo=true:=by
   intro j i;have⟨a,d,i⟩:=AV.1 i;exact bF (sB s ks kids u w q a d).1 ((r a d).los j i)
  have e:=qEr m K;rw[o,De ht hr hcs (by rw[<-o];exact m.rise)]at e;have g:=Ww (dV ht) hr (gG ht) hcs;generalize hM:pZ (oY h) ((parts s ks kids).flatMap λa=>if (dB cs a.2).length=0 then [.kept a.1 a.2] else chP h a.1 a.2 (dB cs a.2))=M at e;have f:chP (h+1) (.branch p ks kids) s cs=eC M:=by rw[<-hM];rfl
  rw[f];by_cases h0:M=[]
  ·subst h0
   have G:eC []=[]:=by rfl
   rw[G];exact⟨⟨by simp,by simp,by simp⟩,e.ents,g,by simp,tE⟩
  ·have⟨C,D,R,E,F⟩:=Ln e.lst e.tight h0
   refine⟨C,D.trans e.ents,g,λj i=>?_,E⟩;have⟨n,b,f⟩:=F j i;rw[f];exact e.lo n b
def StH(fs:Fs):Nat->NT->Prop
 |0,n=>OkH fs 0 n
 |h+1,.kept t s=>OkH fs (h+1) (.kept t s)
 |h+1,.bran s ks=>OkH fs (h+1) (.bran s ks)/\2<=ks.length/\∀k∈ks,StH fs h k
 |_+1,.leaf _ _=>False
theorem StH.ok:∀{h:Nat}{n:NT},StH fs h n->OkH fs h n
 |0,n,H=>H
 |h+1,.kept t s,H=>H
 |h+1,.bran s ks,H=>H.1
 |_+1,.leaf _ _,H=>H.elim
theorem Xj {n}(H:OkH fs h n):fY n<=27:=by have:=qR H;unfold fY;omega
theorem qCj:∀{h:Nat}{n:NT},OkH fs h n->dE n=false->StH fs h n
 |0,n,H,_=>H
 |h+1,.kept t s,H,_=>H
 |h+1,.leaf _ _,H,_=>H.elim
 |h+1,.bran s ks,H,hs=>by
  have⟨i,j,k,e,c,l⟩:=H;have o:=oW fY ks 27 (λb a=>Xj (c b a).1);have m:62<=tot fY ks:=by
   simp only[dE,FD]at hs;omega
  have f:2<=ks.length:=by omega
  exact⟨H,f,λb a=>qCj (c b a).1 ((e.resolve_left (by omega)) b a)⟩
def kG:Nat->NT->Nat×NT
 |h+1,.bran _ [k]=>kG h k
 |h,n=>(h,n)
theorem yH(h s k):kG (h+1) (.bran s [k])=kG h k:=by rfl
theorem Qi:∀{h:Nat}{n:NT},OkH fs h n->StH fs (kG h n).1 (kG h n).2/\(kG h n).2.entsH (kG h n).1=n.entsH h
 |0,n,H=>by
  have d:kG 0 n=(0,n):=by cases n<;>rfl
  rw[d];exact⟨H,rfl⟩
 |h+1,.kept t s,H=>⟨H,rfl⟩
 |h+1,.leaf _ _,H=>H.elim
 |h+1,.bran s ks,H=>by
  have c:=H;have⟨k,m,o,e,a,p⟩:=H;match ks,k,e,a,c with
  |[b],_,_,a,_ =>
   rw[yH];have⟨i,j⟩:=Qi (a b (by simp)).1;refine⟨i,j.trans ?_⟩;simp[NT.entsH]
  |b :: k' :: r,_,e,a,c =>
   have d:kG (h+1) (.bran s (b :: k' :: r))=(h+1,.bran s (b :: k' :: r)):=by rfl
   rw[d];exact⟨⟨c,by simp,λg f=>qCj (a g f).1 ((e.resolve_left (by simp)) g f)⟩,rfl⟩
def upP:Nat->Nat->List NT->Option (Nat×NT)
 |_,_,[]=>none
 |_,h,[n]=>some (kG h n)
 |0,_,_ :: _ :: _=>none
 |k+1,h,a :: b :: r=>upP k (h+1) (eC (a :: b :: r))
theorem zZ{b:Type}:∀(ps:List (List b)),(∀p∈ps,2<=p.length)->2 * ps.length<=ps.flatten.length
 |[],_=>by simp
 |p :: ps,h=>by
  have:=zZ ps (λq a=>h q (by simp[a]));grind
theorem Fp {ns}(L:dX fs h ns)(e:2<=ns.length):(eC ns).length<ns.length:=by
 have b:∀n∈ns,fY n<=27:=λn a=>Xj (L.ok n a);rw[eC,AE];by_cases hb:250<tot fY ns
 ·have c:=lP fY ns (λn a=>by grind)
  have:=zZ (dP fY ns) (λp d=>by
   have f:=wO fY 27 (by decide) ns.length ns (jU _) b hb p d;have e:=oW fY p 27 (λn a=>b n (by rw[<-c];exact FS.2 ⟨p,d,a⟩));omega)
  grind
 ·rw[iR fY ns (by omega),AQ (by omega),AM];omega
def Yc(fs:Fs)(E:List En):Option (Nat×NT)->Prop
 |none=>E=[]
 |some x=>StH fs x.1 x.2/\x.2.entsH x.1=E
theorem qBw:∀(k:Nat) {h:Nat}{ns:List NT},ns.length<=k+1->dX fs h ns->gT ns->Yc fs (bK h ns) (upP k h ns)
 |k,h,[],_,L,_=>by
  have c:upP k h []=none:=by cases k<;>rfl
  rw[c];rfl
 |k,h,[n],_,L,_=>by
  have c:upP k h [n]=some (kG h n):=by cases k<;>rfl
  rw[c];have⟨d,e⟩:=Qi (L.ok n (by simp));exact⟨d,e.trans (by simp[bK])⟩
 |0,h,a :: b :: r,hk,L,_=>by simp at hk
 |k+1,h,a :: b :: r,hk,L,ht=>by
  have c:upP (k+1) h (a :: b :: r)=upP k (h+1) (eC (a :: b :: r)):=rfl;rw[c];have m:=Fp L (by simp);have⟨f,g,j,i,l⟩:=Ln L ht (by simp);have:=qBw k (h:=h+1) (ns:=eC (a :: b :: r)) (by omega) f i;grind
def fU(o:Option (Nat×T))(cs:List Ch):Nat×List NT:=match o with
 |none=>(0,cT (bD [] cs))
 |some x=>(x.1,chP x.1 x.2 ⟨⟨#[]⟩,⟨#[]⟩⟩ cs)
def iG(o:Option (Nat×T))(cs:List Ch):Option (Nat×NT):=upP (fU o cs).2.length (fU o cs).1 (fU o cs).2
theorem Nq (j:bJ fs root o)(a:cJ cs)(b:∀c∈cs,c.good):dX fs (fU o cs).1 (fU o cs).2/\bK (fU o cs).1 (fU o cs).2=bD (aX o) cs/\gT (fU o cs).2:=by
 cases o with
 |none =>
  by_cases h0:bD [] cs=[]
  ·have g:(fU none cs).2=[]:=by simp[fU,h0,cT,iR esz [] (by simp[tot])]
   rw[g];exact⟨⟨by simp,by simp,by simp⟩,h0.symm,tE⟩
  ·have⟨d,e,l,f,m⟩:=Ks (mT (es:=[]) .nil a) (jW (fs:=fs) (es:=[]) .nil a (by simp) b) h0
   exact⟨d,e,f⟩
 |some x =>
  have⟨h,n⟩:=x;have:=Vn h (cs:=cs) j.2.2 (by decide) a b (λc _=>Jw c.key);exact⟨this.lst,this.ents,this.tight⟩
theorem El (d:bJ fs root o)(b:cJ cs)(a:∀c∈cs,c.good):Yc fs (bD (aX o) cs) (iG o cs):=by
 have⟨e,f,g⟩:=Nq d b a;have:=qBw (fU o cs).2.length (by omega) e g;rw[f]at this;exact this
theorem Wo{b}[DecidableEq b](f):∀{l m:List b},l.Nodup->(∀x∈l,x∈m)->tot f l<=tot f m
 |[],m,_,_=>AH _
 |x :: l,m,hn,hs=>by
  have⟨e,g⟩:=LM.1 hn;have j:=List.perm_cons_erase (hs x (by simp));have a:tot f m=f x+tot f (m.erase x):=by
   have:=(j.map f).sum_nat;simpa[tot] using this
  have k:=Wo f (l:=l) (m:=m.erase x) g (λd c=>by
   grind)
  rw[cG,a];omega
theorem Wr (l:List a):tot (λ_=>1) l=l.length:=by
 induction l with
 |nil=>rfl
 |cons x l ih=>rw[cG,ih,jB];omega
theorem Kq [DecidableEq a]{l m:List a}(b:l.Nodup)(c:∀x∈l,x∈m):l.length<=m.length:=by
 have:=Wo (λ_=>1) b c;rwa[Wr,Wr]at this
theorem Sw{l:List ByteArray}(h:l.Pairwise (λa b=>lt a b=true)):l.Nodup:=List.Pairwise.imp (λh=>Np h) h
theorem Aa{a β:Type}(f:a->List β):∀(l:List a),(∀x∈l,f x≠[])->l.length<=(l.flatMap f).length
 |[],_=>by simp
 |x :: l,h=>by
  have d:=BR.2 (h x (by simp));have:=Aa f l (λc b=>h c (by simp[b]));grind
def iV:List (Nat×Pg)->Nat
 |[]=>0
 |x :: _=>x.1
def gV:Nat->ByteArray->List Nat->List (Nat×Pg)
 |0,_,_=>[]
 |k+1,v,fr=>if v.size=0 then [] else
   (fr.getD (gV k (v.extract (min v.size 240) v.size) fr).length 0,iC (iV (gV k (v.extract (min v.size 240) v.size) fr)) (v.extract 0 (min v.size 240))):: gV k (v.extract (min v.size 240) v.size) fr
theorem kA(k v fr)(h:v.size=0):gV k v fr=[]:=by
 cases k with
 |zero=>rfl
 |succ k=>simp[gV,h]
theorem kC(k v fr)(h:v.size≠0):gV (k+1) v fr=(fr.getD (gV k (v.extract (min v.size 240) v.size) fr).length 0,iC (iV (gV k (v.extract (min v.size 240) v.size) fr)) (v.extract 0 (min v.size 240))):: gV k (v.extract (min v.size 240) v.size) fr:=by
 rw[gV,AQ h]
theorem sM:∀(k:Nat) (v:ByteArray) (fr:List Nat),(gV k v fr).length<=fr.length->(gV k v fr).reverse.map (·.1)=fr.take (gV k v fr).length
 |0,_,_,_=>by simp[gV]
 |k+1,v,fr,hl=>by
  by_cases h:v.size=0
  ·rw[kA _ _ _ h];simp
  ·rw[kC _ _ _ h]at hl⊢
   rw[jB]at hl⊢;rw[GJ,BM,sM k (v.extract (min v.size 240) v.size) fr (by omega),AK (by omega)];grind
theorem sN {k v}(b:(gV k v fr).length<=fr.length):∀x∈gV k v fr,x.1∈fr:=by
 intro x c;have a:x.1∈(gV k v fr).reverse.map (·.1):=AY.2 ⟨x,by grind,rfl⟩;rw[sM k v fr b]at a;grind
theorem gQ(v:ByteArray)(a b)(c:b<=v.size):(v.extract a b).size=b-a:=by
 simp_all
theorem Dz:∀(k:Nat) (v:ByteArray) (fr:List Nat),v.size<=240 * k->(∀x∈gV k v fr,fs.has x.1 x.2/\x.1≠0)->fA fs (iV (gV k v fr)) v.size (gV k v fr)
 |0,v,fr,hv,_=>by
  have:v.size=0:=by omega
  simp[gV,fA,this]
 |k+1,v,fr,hv,hx=>by
  by_cases h:v.size=0
  ·rw[kA _ _ _ h];exact h
  ·rw[kC _ _ _ h]at hx⊢
   have d:(v.extract (min v.size 240) v.size).size=v.size-min v.size 240:=gQ _ _ _ (jU _);have b:(v.extract 0 (min v.size 240)).size=min v.size 240:=by simp
   have c:=Dz k (v.extract (min v.size 240) v.size) fr (by omega) (λx e=>hx x (by simp[e]));refine⟨rfl,by omega,(hx _ (by simp)).1,rfl,b,_,rfl,?_,?_⟩
   ·show _↔v.size-(v.extract 0 (min v.size 240)).size=0
    rw[b];constructor
    ·intro a
     cases hc:gV k (v.extract (min v.size 240) v.size) fr with
     |nil =>
      rw[hc]at c;have:(v.extract (min v.size 240) v.size).size=0:=c;omega
     |cons y l =>
      rw[hc]at a;exact absurd a (hx y (by rw[hc];simp)).2
    ·intro a
     rw[kA _ _ _ (by omega)];rfl
   ·show fA fs _ (v.size-(v.extract 0 (min v.size 240)).size) _
    grind
theorem Nz:∀(k:Nat) (v:ByteArray) (fr:List Nat),(gV k v fr).length<=fr.length->(∀p∈fr,bH (p:Nat)=true)->∀x∈gV k v fr,x.2.encE=0
 |0,_,_,_,_,x,a=>by simp[gV]at a
 |k+1,v,fr,hl,hp,x,a=>by
  by_cases h:v.size=0
  ·rw[kA _ _ _ h]at a;simp at a
  ·rw[kC _ _ _ h]at hl a
   rw[jB]at hl;rcases AR.1 a with rfl|a
   ·have b:(v.extract 0 (min v.size 240)).size=min v.size 240:=by simp
    refine Qd _ _ ?_ (by rw[b];omega) (by rw[b];omega);cases hc:gV k (v.extract (min v.size 240) v.size) fr with
    |nil=>exact .inl rfl
    |cons y l =>
     refine .inr (hp _ (sN (k:=k) (v:=v.extract (min v.size 240) v.size) (by omega) y (by rw[hc];simp)))
   ·exact Nz k _ fr (by omega) hp x a
def eT(ch:List (Nat×Pg)):List UInt8:=ch.flatMap (λx=>x.2.data.data.toList)
theorem Ik:∀(k:Nat) (v:ByteArray) (fr:List Nat),v.size<=240 * k->eT (gV k v fr)=v.data.toList
 |0,v,fr,hv=>by
  have b:v.size=0:=by omega
  rw[tJ b];rfl
 |k+1,v,fr,hv=>by
  by_cases h:v.size=0
  ·rw[kA _ _ _ h,tJ h];rfl
  ·rw[kC _ _ _ h]
   have e:(v.extract (min v.size 240) v.size).size=v.size-min v.size 240:=gQ _ _ _ (jU _);have a:=Ik k (v.extract (min v.size 240) v.size) fr (by omega);rw[eT,AJ];rw[eT]at a;rw[a];show(v.extract 0 (min v.size 240)).data.toList++(v.extract (min v.size 240) v.size).data.toList=_
   rw[ByteArray.data_extract,ByteArray.data_extract,<-Array.toList_append,Array.extract_append_extract];congr 1;have c:min 0 (min v.size 240)=0:=by omega
   have d:max (min v.size 240) v.size=v.size:=by omega
   simp_all
def En.value(x:En):List UInt8:=if x.e.over=0 then x.e.val.data.toList else eT x.ch
def En.newB(x:En):Bool:=x.e.over==0&&decide (60<x.e.size)
def dN(x:En)(fr:List Nat):List (Nat×Pg):=if x.newB=true then gV 2 x.e.val fr else []
def oF(x:En)(fr:List Nat):En:=if x.newB=true then ⟨⟨x.e.key,⟨#[]⟩,x.e.size,iV (dN x fr)⟩,dN x fr⟩ else x
def aV:List En->List Nat->List En×List (Nat×Pg)
 |[],_=>([],[])
 |x :: es,fr=>(oF x fr :: (aV es (fr.drop (dN x fr).length)).1,(dN x fr).reverse++(aV es (fr.drop (dN x fr).length)).2)
theorem wD(x fr):(oF x fr).e.key=x.e.key:=by unfold oF;split<;>rfl
theorem qV:∀(es:List En) (fr:List Nat),(aV es fr).1.map (λx=>x.e.key)=es.map (λx=>x.e.key)
 |[],_=>rfl
 |x :: es,fr=>by simp only[aV,BD,wD,qV es]
theorem qU(es fr):(aV es fr).1.length=es.length:=by
 have:=BZ List.length (qV es fr);grind
theorem wF:∀(es:List En) (fr:List Nat),(aV es fr).2.length<=fr.length->(aV es fr).2.map (·.1)=fr.take (aV es fr).2.length
 |[],_,_=>by simp[aV]
 |x :: es,fr,hl=>by
  simp only[aV,jK,DQ]at hl⊢;have a:(dN x fr).reverse.map (·.1)=fr.take (dN x fr).length:=by
   unfold dN at hl⊢;split
   ·rename_i h;rw[AW h]at hl;exact sM 2 _ fr (by omega)
   ·simp
  have b:=wF es (fr.drop (dN x fr).length) (by grind);rw[BM,a,b,List.take_add]
theorem qCb {l:List (Nat×Pg)}(h:l.map (·.1)=fr.take l.length):∀x∈l,x.1∈fr:=by
 intro x b;have a:x.1∈l.map (·.1):=AY.2 ⟨x,b,rfl⟩;grind
theorem qW{P:En->List Nat->Prop}:∀(es:List En) (fr:List Nat),(aV es fr).2.length<=fr.length->∀b∈(aV es fr).1,∃x∈es,∃f,(∀p∈f,p∈fr)/\(dN x f).length<=f.length/\b=oF x f/\∀z∈dN x f,z∈(aV es fr).2
 |[],_,_,b,a=>by simp[aV]at a
 |x :: es,fr,hl,b,a=>by
  simp only[aV,jK,DQ,AR]at hl a;rcases a with rfl|a
  ·exact⟨x,by simp,fr,λp c=>c,by omega,rfl,λz d=>by simp[aV,d]⟩
  ·have⟨k,e,f,g,h,i,j⟩:=qW (P:=P) es (fr.drop (dN x fr).length) (by grind) b a
   exact⟨k,by simp[e],f,λp c=>BO (g p c),h,i,λz d=>by simp[aV,j z d]⟩
theorem Ip:∀(es:List En) (fr:List Nat),(aV es fr).2.length<=fr.length->(∀p∈fr,bH (p:Nat)=true)->∀x∈(aV es fr).2,x.2.encE=0
 |[],_,_,_,x,hx=>by simp[aV]at hx
 |x :: es,fr,hl,hp,y,a=>by
  simp only[aV,jK,DQ,AO,JO]at hl a;rcases a with a|a
  ·unfold dN at a hl
   split at a
   ·rename_i b;rw[AW b]at hl;exact Nz 2 _ fr (by omega) hp y a
   ·simp at a
  ·exact Ip es (fr.drop (dN x fr).length) (by grind) (λp b=>hp p (BO b)) y a
theorem nA {x:En}(h:x.good fs)(b:x.newB=true):x.e.size=(x.e.val.size:Int)/\x.e.val.size<=400/\60<x.e.val.size/\x.ch=[]:=by
 simp only[En.newB,AN,CP,BQ]at b;obtain⟨_,_,h|⟨_,a,e,d,_,c,_⟩⟩:=h
 ·grind
 ·rw[b.1]at a;simp[bH]at a
theorem qEm(x fr):esz (oF x fr)=esz x:=by
 unfold oF;split
 ·rename_i h
  simp only[En.newB,AN,CP,BQ]at h;unfold esz;simp only;rw[AW h.2,AW h.2]
 ·rfl
theorem Dl {x}(h:x.good fs)(a:x.newB=true)(fr):dN x fr≠[]:=by
 have⟨_,_,b,_⟩:=nA h a;rw[dN,AW a,kC _ _ _ (by omega)];simp
theorem uX{a}(h:a≠[]):∃b∈a,iV a=b.1:=by
 cases a with
 |nil=>grind
 |cons b l=>exact⟨b,by simp,rfl⟩
theorem fO (h:bH (p:Nat)=true):2<=p/\p<4096:=by
 simp only[bH,AN,BQ]at h;omega
theorem Ty {x}(h:x.good fs)(fr)(d:(dN x fr).length<=fr.length)(k:∀p∈fr,bH (p:Nat)=true):pI (oF x fr).e.val (oF x fr).e.size (oF x fr).e.over=true:=by
 unfold oF;by_cases hn:x.newB=true
 ·rw[AW hn]
  have⟨a,b,c,_⟩:=nA h hn;have⟨f,e,g⟩:=uX (Dl h hn fr);have j:f.1∈fr:=by
   rw[dN,AW hn]at e d;exact sN d f e
  simp only[pI,DN,AN,CP,BQ];refine .inr ⟨⟨⟨?_,lN.2 rfl⟩,by omega⟩,by omega⟩;grind
 ·rw[AQ hn]
  simp only[En.newB,AN,CP,BQ,not_and,Int.not_lt]at hn;simp only[pI,DN,AN,CP,BQ];obtain⟨_,_,⟨a,b,c,i⟩|⟨a,b,o,n,c,i,l,m,_⟩⟩:=h
  ·omega
  ·exact .inr ⟨⟨⟨b,lN.2 a⟩,by omega⟩,by omega⟩
theorem sY{fs c}:∀{l:List (Nat×Pg)}{p r:Nat},fA fs p r l->(∀x∈l,∀g,fs.has x.1 g->c.has x.1 g)->fA c p r l
 |[],_,_,h,_=>h
 |x :: l,p,r,h,hs=>by
  have⟨a,d,b,e,f,n,i,j,k⟩:=h;refine⟨a,d,?_,e,f,n,i,j,sY k (λo m=>hs o (by simp[m]))⟩;grind
theorem qHn{fs i x}(h:x.good fs)(fr)(k:(dN x fr).length<=fr.length)(q:∀p∈fr,bH (p:Nat)=true)(l:∀a∈dN x fr,i.has a.1 a.2)(r:∀p∈x.pages,∀g,fs.has p g->i.has p g):(oF x fr).ok i:=by
 unfold oF;by_cases hn:x.newB=true
 ·rw[AW hn]
  have⟨d,c,e,_⟩:=nA h hn;have j:∀a∈dN x fr,a.1≠0:=λa b=>by
   rw[dN,AW hn]at b k;have:=fO (q _ (sN k a b));omega
  have⟨a,b,m⟩:=uX (Dl h hn fr);refine⟨x.e.val.size,iV (dN x fr),d,rfl,c,.inr ⟨by grind,?_⟩⟩;rw[dN,AW hn]at l j⊢;exact Dz 2 x.e.val fr (by omega) (λa b=>⟨l a b,j a b⟩)
 ·rw[AQ hn]
  obtain⟨_,_,⟨d,c,e,f⟩|⟨d,c,t,s,e,f,u,n,o⟩⟩:=h
  ·exact⟨x.e.val.size,0,e,d,f,.inl ⟨rfl,c⟩⟩
  ·refine⟨t,s,e,f,n,.inr ⟨?_,sY o (λa b=>r a.1 (AY.2 ⟨a,b,rfl⟩))⟩⟩
   rw[f]at c;have:=fO c;omega
theorem Tw {x}(h:x.good fs)(fr)(a:(dN x fr).length<=fr.length)(f:∀p∈fr,bH (p:Nat)=true):(oF x fr).value=x.value:=by
 unfold oF;by_cases hn:x.newB=true
 ·rw[AW hn]
  have⟨g,i,j,_⟩:=nA h hn;have⟨c,b,d⟩:=uX (Dl h hn fr);have k:2<=c.1:=by
   rw[dN,AW hn]at b a;exact(fO (f _ (sN a c b))).1
  have e:x.e.over=0:=by
   simp only[En.newB,AN,CP]at hn;exact hn.1
  unfold En.value;rw[AW e];simp only;rw[AQ (by rw[d];omega),dN,AW hn];exact Ik 2 _ fr (by omega)
 grind
def kW:NT->List Nat->T×List (Nat×Pg)
 |.kept t _,_=>(t,[])
 |.leaf _ es,fr=>(.leaf (fr.getD (aV es fr).2.length 0) (aV es fr).1,(aV es fr).2++[(fr.getD (aV es fr).2.length 0,eJ (aV es fr).1)])
 |.bran _ _,_=>(.leaf 0 [],[])
theorem zL(n fr)(a:(kW n fr).2.length<=fr.length):(kW n fr).2.map (·.1)=fr.take (kW n fr).2.length:=by
 cases n with
 |kept=>simp[kW]
 |bran=>simp[kW]
 |leaf s es =>
  simp only[kW,jK,AM]at a⊢;rw[BM,wF es fr (by omega),AK (by omega)];grind
structure Laid (fs fs':Fs) (Z:List Nat) (ws:List (Nat×Pg)):Prop where
 has:∀y∈ws,fs'.has y.1 y.2
 keep:∀p g,p ∉ Z->fs.has p g->fs'.has p g
theorem Yu{l m}(h:l.map (λx=>x.e.key)=m.map (λx=>x.e.key))(d:cM m):cM l:=by
 have c:(m.map (λx=>x.e.key)).Pairwise (λa b=>lt a b=true):=by rw[EI];exact d
 rw[<-h,EI]at c;exact c
theorem qEp{l m:List En}(h:l.map (λx=>x.e.key)=m.map (λx=>x.e.key)){a}(d:a∈l):∃x∈m,x.e.key=a.e.key:=by
 have:a.e.key∈m.map (λx=>x.e.key):=by grind
 grind
theorem Io:∀(es:List En) (fr:List Nat),tot esz (aV es fr).1=tot esz es
 |[],_=>rfl
 |x :: es,fr=>by simp only[aV,cG,qEm,Io es]
theorem Oc {n}(h:Ok0 fs n)(fr)(q:(kW n fr).2.length<=fr.length)(e:∀p∈fr,bH (p:Nat)=true):∀b∈(kW n fr).2,b.2.encE=0:=by
 cases n with
 |kept=>simp[kW]
 |bran=>exact h.elim
 |leaf s es =>
  have⟨i,u,j,k,l⟩:=h;simp only[kW,jK,AM]at q⊢;intro b a;rcases AO.1 a with a|a
  ·exact Ip es fr (by omega) e b a
  ·rw[AS]at a
   subst a;have d:=qV es fr;refine qFh _ ?_ (Yu d j) ?_ (by rw[Io];exact k)
   ·intro f
    simp_all
   ·intro b a
    obtain⟨t,r,g,m,o,rfl,_⟩:=qW (P:=λ_ _=>True) es fr (by omega) b a;have c:=l t r;rw[wD];exact⟨c.1,c.2.1,Ty c g o (λp h=>e p (m p h))⟩
theorem aU.in0 {s a}(h:aU fs 0 t s)(i:∀x∈T.ents 0 t,a.has x.e.key=true):aU fs 0 t a:=by
 cases t with
 |branch=>exact h.elim
 |leaf p es =>
  have⟨g,b,c,d,e,_,f⟩:=h;exact⟨g,b,c,d,e,i,f⟩
theorem qCi {fs a}(h:aU fs 0 t s)(b:∀p∈T.pages 0 t,∀g,fs.has p g->a.has p g):aU a 0 t s:=by
 cases t with
 |branch=>exact h.elim
 |leaf p es =>
  have⟨g,f,i,j,k,l,m⟩:=h;refine⟨g,b p (by simp[T.pages]) g f,i,j,k,l,λd c=>?_⟩;have⟨y,x,n,o,q,r⟩:=m d c;refine⟨y,x,n,o,q,r.imp id (λ⟨u,v⟩=>⟨u,sY v (λe w=>b e.1 ?_)⟩)⟩;simp only[T.pages,AR,AV];exact .inr ⟨d,c,AY.2 ⟨e,w,rfl⟩⟩
def NT.pages0:NT->List Nat
 |.kept t _=>T.pages 0 t
 |.leaf _ es=>es.flatMap En.pages
 |.bran _ _=>[]
theorem Ob{fs e n}{Z fr f:List Nat}{u}(L:Laid fs e Z u)(h:Ok0 fs n)(m:∀p∈f,p∈fr)(C:(kW n f).2.length<=f.length)(o:∀p∈fr,bH (p:Nat)=true)(j:∀c∈(kW n f).2,c∈u)(l:∀p∈n.pages0,p ∉ Z)(s)(r:∀x∈n.ents0,s.has x.e.key=true):
  aU e 0 (kW n f).1 s/\bH ((kW n f).1.place:Nat)=true\/aU e 0 (kW n f).1 s/\∃t b,n=.kept t b:=by
 cases n with
 |bran=>exact h.elim
 |kept t b =>
  refine .inr ⟨?_,t,b,rfl⟩;cases t with
  |branch=>exact h.elim
  |leaf p es =>
   exact(qCi h (λq F g i=>L.keep q g (l q F) i)).in0 r
 |leaf b es =>
  have⟨y,J,K,M,z⟩:=h;simp only[kW,jK,AM]at C j⊢;have D:f.getD (aV es f).2.length 0∈f:=by
   grind
  refine .inl ⟨⟨eJ (aV es f).1,L.has (f.getD (aV es f).2.length 0,eJ (aV es f).1) (j _ (GM _ (AS.2 rfl))),rfl,rfl,?_,?_,?_⟩,o _ (m _ D)⟩
  ·intro d
   have:=qU es f;grind
  ·intro c k
   have⟨x,a,d⟩:=qEp (qV es f) k;rw[<-d];exact r x a
  ·intro c k
   obtain⟨x,a,v,A,B,rfl,G⟩:=qW (P:=λ_ _=>True) es f (by omega) c k;apply qHn (z x a) v B (λp h=>o p (m p (A p h))) (λI H=>L.has _ (j _ (by simp[G I H])));intro p E g i;exact L.keep p g (l p (AV.2 ⟨x,a,E⟩)) i
theorem Ua {n}(h:Ok0 fs n)(b:∀t a,n=.kept t a->bH (t.place:Nat)=true)(f)(c:(kW n f).2.length<=f.length)(e:∀p∈f,bH (p:Nat)=true):bH ((kW n f).1.place:Nat)=true:=by
 cases n with
 |bran=>exact h.elim
 |kept t a=>exact b t a rfl
 |leaf a es =>
  simp only[kW,jK,AM]at c⊢;have d:f.getD (aV es f).2.length 0∈f:=by
   grind
  exact e _ d
theorem qGn(ns):2 * ns.length+tot (λk:ByteArray=>k.size+1) (ns.map (λn=>n.sp.lo))=tot fY ns:=by
 induction ns with
 |nil=>rfl
 |cons n ns ih=>rw[BD,cG,cG,jB];unfold fY at *;omega
def cA(f:NT->List Nat->T×List (Nat×Pg)):List NT->List Nat->List T×List (Nat×Pg)
 |[],_=>([],[])
 |n :: ns,fr=>((f n fr).1 :: (cA f ns (fr.drop (f n fr).2.length)).1,(f n fr).2++(cA f ns (fr.drop (f n fr).2.length)).2)
def eB:Nat->NT->List Nat->T×List (Nat×Pg)
 |h+1,.bran _ ks,fr=>(.branch (fr.getD (cA (eB h) ks fr).2.length 0) (ks.tail.map (λn=>n.sp.lo)) (cA (eB h) ks fr).1,
   (cA (eB h) ks fr).2++[(fr.getD (cA (eB h) ks fr).2.length 0,eU (ks.tail.map (λn=>n.sp.lo)) ((cA (eB h) ks fr).1.map T.place))])
 |_,n,fr=>kW n fr
theorem pU(n fr):eB 0 n fr=kW n fr:=by cases n<;>rfl
theorem kD(h t s fr):eB h (.kept t s) fr=(t,[]):=by cases h<;>rfl
theorem qEy {k}(h:k<fr.length):fr.getD k 0∈fr:=by
 grind
theorem zM{f}(a:∀n fr,(f n fr).2.length<=fr.length->(f n fr).2.map (·.1)=fr.take (f n fr).2.length):∀(ns:List NT) (fr:List Nat),(cA f ns fr).2.length<=fr.length->(cA f ns fr).2.map (·.1)=fr.take (cA f ns fr).2.length
 |[],_,_=>by simp[cA]
 |n :: ns,fr,hl=>by
  simp only[cA,jK]at hl⊢;rw[BM,a n fr (by omega),zM a ns (fr.drop (f n fr).2.length) (by grind),List.take_add]
theorem zQ:∀(h:Nat) (n:NT) (fr:List Nat),(eB h n fr).2.length<=fr.length->(eB h n fr).2.map (·.1)=fr.take (eB h n fr).2.length
 |0,n,fr,hl=>by rw[pU]at hl⊢;exact zL n fr hl
 |h+1,.kept t s,fr,hl=>by rfl
 |h+1,.leaf s es,fr,hl=>zL (.leaf s es) fr hl
 |h+1,.bran s ks,fr,hl=>by
  simp only[eB,jK,AM]at hl⊢;rw[BM,zM (zQ h) ks fr (by omega),AK (by omega)];grind
theorem fN(f):∀(ns:List NT) (fr:List Nat),(cA f ns fr).1.length=ns.length
 |[],_=>rfl
 |n :: ns,fr=>by simp[cA,fN f ns]
theorem Kt(f):∀(ns:List NT) (fr:List Nat) (j:Nat) (b:j<ns.length),(cA f ns fr).2.length<=fr.length->∃q,(∀p∈q,p∈fr)/\(f ns[j] q).2.length<=q.length/\(cA f ns fr).1[j]?=some (f ns[j] q).1/\∀c∈(f ns[j] q).2,c∈(cA f ns fr).2
 |[],_,j,b,_=>by simp at b
 |n :: ns,fr,j,b,hl=>by
  simp only[cA,jK]at hl⊢;cases j with
  |zero=>grind
  |succ j =>
   have⟨q,e,g,h,i⟩:=Kt f ns (fr.drop (f n fr).2.length) j (by grind) (by grind);grind
theorem Il{f}{P:Nat×Pg->Prop}:∀(ns:List NT) (fr:List Nat),(cA f ns fr).2.length<=fr.length->(∀n∈ns,∀q,(∀p∈q,p∈fr)->(f n q).2.length<=q.length->∀a∈(f n q).2,P a)->∀a∈(cA f ns fr).2,P a
 |[],_,_,_=>by simp[cA]
 |n :: ns,fr,hl,H=>by
  simp only[cA,jK]at hl⊢;intro a b;rcases AO.1 b with b|b
  ·grind
  ·exact Il ns (fr.drop (f n fr).2.length) (by grind) (λg d q e=>H g (by simp[d]) q (λp c=>BO (e p c))) a b
theorem qQ {n}(H:OkH fs 0 n):Ok0 fs n:=by
 cases n with
 |leaf=>exact H
 |bran=>exact H.elim
 |kept t s=>cases t with
  |leaf=>exact(gM H).1
  |branch=>exact(gM H).1.elim
theorem Eb {n}(H:StH fs h n)(q)(a:(eB h n q).2.length<=q.length)(b:∀p∈q,bH (p:Nat)=true):bH ((eB h n q).1.place:Nat)=true:=by
 cases n with
 |kept t s=>rw[kD];exact(gM H.ok).2.2
 |leaf s es =>
  cases h with
  |zero=>rw[pU]at a⊢;exact Ua (qQ H.ok) (by simp) q a b
  |succ h=>exact H.elim
 |bran s ks =>
  cases h with
  |zero=>exact H.elim
  |succ h =>
   simp only[eB,jK,AM]at a⊢;exact b _ (qEy (by omega))
theorem dX.tail_los {ns}(L:dX fs h ns):(ns.tail.map (λn=>n.sp.lo)).Pairwise (λa b=>lt a b=true)/\∀k∈ns.tail.map (λn=>n.sp.lo),lt (jD ns) k=true:=by
 cases ns with
 |nil=>simp
 |cons n ns =>
  have⟨c,d⟩:=BC.1 L.los;refine⟨by grind,λk e=>?_⟩;obtain⟨g,f,rfl⟩:=AY.1 e;exact c g f
theorem StH.kids {ks}(H:StH fs (h+1) (.bran s ks)):dX fs h ks/\2<=ks.length/\(∀k∈ks,StH fs h k)/\tot fY ks<=250/\s.lo=jD ks:=by
 have⟨⟨i,c,d,j,b,e⟩,f,g⟩:=H;exact⟨⟨λn a=>(b n a).1,λn a=>(b n a).2,e⟩,f,g,d,c⟩
theorem Ec:∀(h:Nat) {n:NT} (fr:List Nat),StH fs h n->(eB h n fr).2.length<=fr.length->(∀p∈fr,bH (p:Nat)=true)->∀c∈(eB h n fr).2,c.2.encE=0
 |0,n,fr,H,hl,hp=>by rw[pU]at hl⊢;exact Oc (qQ H) fr hl hp
 |h+1,.kept C s,fr,H,hl,hp=>by simp[kD]
 |h+1,.leaf _ _,fr,H,_,_=>H.elim
 |h+1,.bran s ks,fr,H,hl,hp=>by
  have⟨d,l,e,F,_⟩:=H.kids;simp only[eB,jK,AM]at hl⊢;intro c a;rcases AO.1 a with a|a
  ·exact Il (f:=eB h) ks fr (by omega) (λn o q t u=>Ec h q (e n o) u (λp h=>hp p (t p h))) c a
  ·rw[AS]at a
   subst a;have⟨D,E⟩:=d.tail_los;refine qFi _ _ ?_ ?_ D ?_ ?_ ?_
   ·intro j
    have:=BZ List.length j;grind
   ·simp[fN];omega
   ·intro i g
    refine⟨dS (xS _) (E i g),?_⟩;obtain⟨x,m,rfl⟩:=AY.1 g;exact qR (d.ok x (List.mem_of_mem_tail m))
   ·intro p r
    obtain⟨C,v,rfl⟩:=AY.1 r;obtain⟨w,b,rfl⟩:=AU v;rw[fN]at b;have⟨q,y,z,A,_⟩:=Kt (eB h) ks fr w b (by omega);have⟨_,B⟩:=AD.1 A;rw[B];exact Eb (e _ (AB b)) q z (λp h=>hp p (y p h))
   ·rw[AE,fN]
    have k:=qGn ks;cases ks with
    |nil=>simp at l
    |cons i ks =>
     rw[BD,cG]at k;grind
theorem Sj{fs a}:∀{h:Nat}{t:T}{s:Sp},aU fs h t s->(∀p∈T.pages h t,∀g,fs.has p g->a.has p g)->aU a h t s
 |0,t,s,H,hk=>qCi H hk
 |h+1,.leaf _ _,s,H,_=>by simp[aU]at H
 |h+1,.branch p ks kids,s,H,hk=>by
  have⟨g,d,e,f,i,j,k,l⟩:=H;refine⟨g,hk p (by simp[T.pages]) g d,e,f,i,j,k,λc b=>Sj (l c b) (λq m=>hk q ?_)⟩;simp only[T.pages,AR,AV];exact .inr ⟨c.1,pT (fs:=fs) b,m⟩
theorem aU.into:∀{h:Nat}{t:T}{s a:Sp},aU fs h t s->le a.lo s.lo=true->(∀x∈T.ents h t,a.has x.e.key=true)->aU fs h t a
 |0,t,s,a,H,_,hs=>H.in0 hs
 |h+1,.leaf _ _,s,a,H,_,_=>by simp[aU]at H
 |h+1,.branch p ks kids,s,a,H,hlo,hs=>by
  have⟨K,L,J,_,k⟩:=dG H;have⟨g,v,w,y,z,A,⟨E,B,C⟩,I⟩:=H;have G:a.has (ks[ks.length-1])=true:=by
   have f:ks.length<kids.length:=by omega
   have n:=BL (fH s ks kids ks.length f);have⟨x,i⟩:=FT _ (nB (k _ n)).1;have d:=sR (gG (k _ n) x i);have j:kV s ks ks.length=ks[ks.length-1]:=by
    unfold kV;grind
   rw[j]at d;have e:=hs x (by simp only[T.ents,AV];grind);simp only[Sp.has,AN];exact⟨bF hlo (sR C),below_le d (uY e)⟩
  refine⟨g,v,w,y,z,A,⟨E,dS hlo B,G⟩,λx i=>?_⟩;have⟨b,f,j⟩:=AU i;have m:b<kids.length:=by rwa[cI]at f
  have⟨_,D⟩:=AD.1 (fH a ks kids b m);rw[<-j,D];have o:=k _ (BL (fH s ks kids b m));refine o.into ?_ ?_
  ·show le (kV a ks b) (kV s ks b)=true
   unfold kV;split
   ·exact hlo
   ·rw[jQ (by omega)];exact bI _
  ·intro r q
   have d:=gG o r q;have e:=hs r (by simp only[T.ents,AV];grind);simp only[Sp.has,AN];refine⟨?_,?_⟩
   ·show le (kV a ks b) _=true
    have c:=sR d;unfold kV at c⊢;split
    ·exact sR e
    grind
   ·show Sp.below (pF a ks b) _=true
    have c:=uY d;unfold pF at c⊢;by_cases hjl:b<ks.length
    ·grind
    ·rw[CU (by omega)];exact uY e
def NT.pagesH:Nat->NT->List Nat
 |h,.kept t _=>T.pages h t
 |_,.leaf _ es=>es.flatMap En.pages
 |0,.bran _ _=>[]
 |h+1,.bran _ ks=>ks.flatMap (NT.pagesH h)
variable {f:NT->List Nat->T×List (Nat×Pg)} {ns:List NT}
theorem dX.has (L:dX fs h ns)(s)(e:le s.lo (jD ns)=true)(f:∀x∈bK h ns,s.has x.e.key=true)(j)(a:j<ns.length):
  le (kV s (ns.tail.map (λn=>n.sp.lo)) j) (ns[j]).sp.lo=true/\∀x∈(ns[j]).entsH h,(⟨kV s (ns.tail.map (λn=>n.sp.lo)) j,pF s (ns.tail.map (λn=>n.sp.lo)) j⟩:Sp).has x.e.key=true:=by
 have c:le (kV s (ns.tail.map (λn=>n.sp.lo)) j) (ns[j]).sp.lo=true:=by
  unfold kV;split
  ·exact bF e (L.first _ (AB a))
  ·rename_i h0
   have d:(ns.tail.map (λn=>n.sp.lo))[j-1]?=some (ns[j]).sp.lo:=by
    grind
   rw[d];exact bI _
 refine⟨c,λx b=>?_⟩;simp only[Sp.has,AN];refine⟨bF c (L.lo ns[j] (AB _) x b),?_⟩;unfold pF;rw[BN,List.getElem?_tail];by_cases h1:j+1<ns.length
 ·rw[jQ h1]
  refine fW.2 (.inr ?_);exact(BB.1 L.sep j (j+1) a h1 (by omega)) x b
 ·rw[CU (by omega)]
  exact uY (f x (AV.2 ⟨ns[j],AB a,b⟩))
theorem zN{fs k}{Z fr:List Nat}{r}(W:Laid fs k Z r)(m:∀p∈fr,bH (p:Nat)=true):∀(h:Nat) {n:NT}{f:List Nat},StH fs h n->(∀p∈f,p∈fr)->(eB h n f).2.length<=f.length->(∀e∈(eB h n f).2,e∈r)->(∀p∈n.pagesH h,p ∉ Z)->∀(s:Sp),le s.lo n.sp.lo=true->(∀x∈n.entsH h,s.has x.e.key=true)->aU k h (eB h n f).1 s
 |0,n,f,H,hf,hl,hw,ha,s,hlo,hs=>by
  rw[pU]at hl hw⊢;have c:n.pagesH 0=n.pages0:=by cases n<;>rfl
  rw[c]at ha;rw[xQ H.ok]at hs;rcases Ob W (qQ H.ok) hf hl m hw ha s hs with h|h
  ·exact h.1
  ·exact h.1
 |h+1,.leaf _ _,f,H,_,_,_,_,_,_,_=>H.elim
 |h+1,.kept t sp,f,H,hf,hl,hw,ha,s,hlo,hs=>by
  rw[kD];exact(Sj (gM H.ok).1 (λq D g z=>W.keep q g (ha q D) z)).into hlo hs
 |h+1,.bran sp ks,f,H,hf,hl,hw,ha,s,hlo,hs=>by
  have⟨b,P,B,Q,E⟩:=H.kids;have i:le s.lo (jD ks)=true:=by rw[<-E];exact hlo
  have o:=hs;have⟨R,O⟩:=b.tail_los;simp only[eB,jK,AM]at hl hw⊢;have l:(ks.tail.map (λn=>n.sp.lo)).length=ks.length-1:=by simp
  refine⟨_,W.has _ (hw _ (GM _ (AS.2 rfl))),rfl,rfl,by simp[eU],by rw[fN,l];omega,⟨by omega,dS i (O _ (AB _)),?_⟩,?_⟩
  ·have a:ks.length-1<ks.length:=by omega
   have c:(ks.tail.map (λn=>n.sp.lo))[(ks.tail.map (λn=>n.sp.lo)).length-1]'(by omega)=(ks[ks.length-1]).sp.lo:=by
    grind
   rw[c];have⟨x,d⟩:=FT _ (iX (b.ok _ (AB a))).1;simp only[Sp.has,AN];exact⟨bF i (b.first _ (AB a)),below_le (b.lo _ (AB a) x d) (uY (o x (AV.2 ⟨_,AB a,d⟩)))⟩
  ·intro x d
   have⟨j,a,c⟩:=AU d;rw[cI,fN]at a;have⟨_,u⟩:=AD.1 (fH s (ks.tail.map (λn=>n.sp.lo)) (cA (eB h) ks f).1 j (by rw[fN];exact a));have⟨q,G,I,J,K⟩:=Kt (eB h) ks f j a (by omega);have⟨_,L⟩:=AD.1 J;rw[<-c,u,L];have⟨M,N⟩:=b.has s i o j a;refine zN W m h (B _ (AB a)) (λp h=>hf p (G p h)) I (λe F=>hw e (List.mem_append_left _ (K e F))) (λp C=>ha p ?_) _ M N;show p∈ks.flatMap (NT.pagesH h)
   grind
def En.kv(x:En):ByteArray×List UInt8:=(x.e.key,x.value)
theorem Oj:∀(es:List En) (fr:List Nat),(∀x∈es,x.good fs)->(aV es fr).2.length<=fr.length->(∀p∈fr,bH (p:Nat)=true)->(aV es fr).1.map En.kv=es.map En.kv
 |[],_,_,_,_=>rfl
 |x :: es,fr,hg,hl,hp=>by
  simp only[aV,jK,DQ]at hl;have c:=Oj es (fr.drop (dN x fr).length) (λe d=>hg e (by simp[d])) (by grind) (λp a=>hp p (BO a));simp only[aV,BD,c,GC,DA,En.kv,Tw (hg x (by simp)) fr (by omega) hp,wD]
theorem Xe {g e}:∀(ns:List NT) (fr:List Nat),(cA f ns fr).2.length<=fr.length->(∀n∈ns,∀q,(∀p∈q,p∈fr)->(f n q).2.length<=q.length->(g (f n q).1).map En.kv=(e n).map En.kv)->((cA f ns fr).1.flatMap g).map En.kv=(ns.flatMap e).map En.kv
 |[],_,_,_=>rfl
 |n :: ns,fr,hl,H=>by
  simp only[cA,jK]at hl;have c:=Xe ns (fr.drop (f n fr).2.length) (by grind) (λi d q h=>H i (by simp[d]) q (λp a=>BO (h p a)));simp only[cA,AJ,BM,H n (by simp) fr (λp a=>a) (by omega),c]
theorem Xi:∀(h:Nat) {n:NT} (fr:List Nat),StH fs h n->(eB h n fr).2.length<=fr.length->(∀p∈fr,bH (p:Nat)=true)->(T.ents h (eB h n fr).1).map En.kv=(n.entsH h).map En.kv
 |h,.kept t s,fr,H,hl,hp=>by rw[kD,iK]
 |0,.leaf s es,fr,H,hl,hp=>by
  simp only[eB,kW,jK,AM]at hl;exact Oj es fr H.2.2.2.2 (by omega) hp
 |0,.bran _ _,_,H,_,_=>H.elim
 |h+1,.leaf _ _,_,H,_,_=>H.elim
 |h+1,.bran s ks,fr,H,hl,hp=>by
  have⟨i,j,a,_,_⟩:=H.kids;simp only[eB,jK,AM]at hl;exact Xe (f:=eB h) (g:=T.ents h) (e:=NT.entsH h) ks fr (by omega) (λn b q c d=>Xi h q (a n b) d (λp h=>hp p (c p h)))
theorem Ny:∀(k:Nat) (v:ByteArray) (fr:List Nat),∀b∈gV k v fr,b.2.ver=0
 |0,_,_,b,a=>by simp[gV]at a
 |k+1,v,fr,b,a=>by
  by_cases h:v.size=0
  ·rw[kA _ _ _ h]at a;simp at a
  ·rw[kC _ _ _ h]at a
   rcases AR.1 a with rfl|a
   ·rfl
   ·exact Ny k _ _ b a
theorem Im:∀(es:List En) (fr:List Nat),∀b∈(aV es fr).2,b.2.ver=0
 |[],_,b,a=>by simp[aV]at a
 |x :: es,fr,b,a=>by
  simp only[aV,AO,JO]at a;rcases a with a|a
  ·unfold dN at a
   split at a
   ·exact Ny _ _ _ b a
   ·simp at a
  ·exact Im es _ b a
theorem Oe {P:Nat×Pg->Prop}(H:∀n q,∀a∈(f n q).2,P a):∀(ns:List NT) (fr:List Nat),∀a∈(cA f ns fr).2,P a
 |[],_=>by simp[cA]
 |n :: ns,fr=>by
  intro a b;simp only[cA,AO]at b;exact b.elim (H n fr a) (Oe H ns _ a)
theorem Og:∀(h:Nat) (n:NT) (fr:List Nat),∀b∈(eB h n fr).2,b.2.ver=0
 |h,.kept t s,fr=>by simp[kD]
 |h,.leaf s es,fr=>by
  have c:eB h (.leaf s es) fr=kW (.leaf s es) fr:=by cases h<;>rfl
  rw[c];intro b a;simp only[kW,AO,AS]at a;rcases a with a|rfl
  ·exact Im es fr b a
  ·rfl
 |0,.bran _ _,_=>by simp[eB,kW]
 |h+1,.bran s ks,fr=>by
  intro b a;simp only[eB,AO,AS]at a;rcases a with a|rfl
  ·exact Oe (Og h) ks fr b a
  ·rfl
def En.ov(x:En):Nat:=if 60<x.e.size then (x.e.size.toNat+239) / 240 else 0
def ovs(es:List En):Nat:=tot En.ov es
theorem Dd(a b):ovs (a++b)=ovs a+ovs b:=qJ _ a b
theorem Oa:∀(k:Nat) (v:ByteArray) (fr:List Nat),(gV k v fr).length<=(v.size+239) / 240
 |0,_,_=>AH _
 |k+1,v,fr=>by
  by_cases h:v.size=0
  ·rw[kA _ _ _ h];simp
  ·rw[kC _ _ _ h,jB]
   have a:=Oa k (v.extract (min v.size 240) v.size) fr;have b:=gQ v (min v.size 240) v.size (jU _);omega
theorem Zt {x}(h:x.good fs)(fr):(dN x fr).length<=x.ov:=by
 unfold dN;split
 ·rename_i hn
  have⟨a,b,c,_⟩:=nA h hn;have:=Oa 2 x.e.val fr;unfold En.ov;grind
 simp
theorem Iq:∀(es:List En) (fr:List Nat),(∀x∈es,x.good fs)->(aV es fr).2.length<=ovs es
 |[],_,_=>AH _
 |x :: es,fr,hg=>by
  simp only[aV,jK,DQ,ovs,cG];have d:=Zt (hg x (by simp)) fr;have a:=Iq es (fr.drop (dN x fr).length) (λc b=>hg c (by simp[b]));unfold ovs at a;omega
theorem Od {e}:∀(ns:List NT) (fr:List Nat),(∀n∈ns,∀q,(f n q).2.length+1<=2 * (e n).length+ovs (e n))->(cA f ns fr).2.length+ns.length<=2 * (ns.flatMap e).length+ovs (ns.flatMap e)
 |[],_,_=>by simp[cA]
 |n :: ns,fr,H=>by
  have c:=H n (by simp) fr;have d:=Od ns (fr.drop (f n fr).2.length) (λb a=>H b (by simp[a]));simp only[cA,jK,AJ,Dd,jB];omega
theorem Oh:∀(h:Nat) {n:NT} (fr:List Nat),StH fs h n->(eB h n fr).2.length+1<=2 * (n.entsH h).length+ovs (n.entsH h)
 |h,.kept t s,fr,H=>by
  rw[kD];have:=BR.2 (iX H.ok).1;grind
 |0,.leaf s es,fr,H=>by
  have g:=Iq es fr H.2.2.2.2;have a:=BR.2 H.1;simp only[eB,kW,jK,AM,NT.entsH];omega
 |0,.bran _ _,_,H=>H.elim
 |h+1,.leaf _ _,_,H=>H.elim
 |h+1,.bran s ks,fr,H=>by
  have⟨d,a,b,_,_⟩:=H.kids;have:=Od (f:=eB h) (e:=NT.entsH h) ks fr (λn c q=>Oh h q (b n c));simp only[eB,jK,AM,NT.entsH];omega
theorem Ji:∀{l:List (Nat×Pg)}{p r k:Nat},fA fs p r l->r<=240 * k->l.length<=k
 |[],_,_,_,_,_=>AH _
 |x :: l,p,r,k,h,hk=>by
  have⟨c,d,e,f,a,j,g,i,b⟩:=h;cases k with
  |zero=>omega
  |succ k =>
   have:=Ji (k:=k) b (by rw[a];omega);grind
theorem Lb {x:En}(h:x.ok fs)(c:x.good fs):x.pages.length<=x.ov:=by
 obtain⟨l,j,a,d,e,h|⟨f,h⟩⟩:=h
 ·simp[En.pages,h.2]
 ·simp only[En.pages,AE]
  have b:60<x.e.size:=by
   obtain⟨_,_,h|⟨_,_,k,_,g,_,i,_⟩⟩:=c
   ·omega
   ·omega
  unfold En.ov;rw[AW b,a,Int.toNat_natCast];exact Ji h (by omega)
theorem Pn{f:En->List Nat}:∀(es:List En),(∀x∈es,(f x).length<=x.ov)->(es.flatMap f).length<=ovs es
 |[],_=>by simp
 |x :: es,h=>by
  have d:=h x (by simp);have a:=Pn es (λc b=>h c (by simp[b]));simp only[AJ,jK,ovs,cG];unfold ovs at a;omega
theorem Oo{f:T->List Nat}{e}:∀(a:List T),(∀t∈a,(f t).length+1<=2 * (e t).length+ovs (e t))->(a.flatMap f).length+a.length<=2 * (a.flatMap e).length+ovs (a.flatMap e)
 |[],_=>by simp
 |t :: a,h=>by
  have d:=h t (by simp);have g:=Oo a (λc b=>h c (by simp[b]));simp only[AJ,jK,jB,Dd];omega
theorem Ht:∀{h:Nat}{t:T}{s:Sp},aU fs h t s->(T.pages h t).length+1<=2 * (T.ents h t).length+ovs (T.ents h t)
 |0,.leaf p es,s,H=>by
  have⟨g,_,_,_,i,_,j⟩:=H;have n:=Pn (f:=En.pages) es (λb a=>Lb (j b a) ((jL H) b a));have o:=BR.2 i;simp only[T.pages,T.ents,jB];omega
 |0,.branch _ _ _,s,H=>H.elim
 |h+1,.leaf _ _,s,H=>by simp[aU]at H
 |h+1,.branch p ks kids,s,H=>by
  have⟨q,_,_,_,c⟩:=dG H;have⟨_,_,_,_,_,_,⟨m,_⟩,_⟩:=H;have:=Oo (f:=T.pages h) (e:=T.ents h) kids (λt l=>by
   have⟨r,k⟩:=lX (s:=s) (ks:=ks) l;exact Ht (c _ k))
  simp only[T.pages,T.ents,jB];omega
def kZ(P:List Nat)(h:Nat)(n:NT):Prop:=∀p∈n.pagesH h,p∈P
theorem Iz {n}(b:kZ P 0 n):∀x∈n.ents0,∀p∈x.pages,p∈P:=by
 intro x a p c;cases n with
 |kept t s=>cases t with
  |leaf q es=>exact b p (by simp only[NT.pagesH,T.pages,AR,AV];exact .inr ⟨x,a,c⟩)
  |branch=>simp[NT.ents0]at a
 |leaf s es=>exact b p (AV.2 ⟨x,a,c⟩)
 |bran=>simp[NT.ents0]at a
theorem Fc{c}(b):∀(k:Nat) (l:List c),∀p∈kY b k l,∀x∈p,x∈l
 |0,l,p,a,x,hx=>by simp[kY]at a
 |k+1,l,p,a,x,hx=>by
  simp only[kY]at a;split at a
  ·grind
  ·rcases AR.1 a with rfl|a
   ·grind
   ·exact BO (Fc b k _ p a x hx)
theorem pC {es}(b:∀x∈es,∀p∈x.pages,p∈P):∀n∈cT es,kZ P 0 n:=by
 intro n c p a;obtain⟨q,d,rfl⟩:=AY.1 c;have⟨x,e,a⟩:=AV.1 (show p∈q.flatMap En.pages from a);exact b x (Fc esz _ es q d x e) p a
theorem rE (c:∀n∈ns,kZ P h n):∀m∈eC ns,kZ P (h+1) m:=by
 intro m d p a;obtain⟨q,e,rfl⟩:=AY.1 d;have⟨b,f,a⟩:=AV.1 (show p∈q.flatMap (NT.pagesH h) from a);exact c b (Fc fY _ ns q e b f) p a
theorem sC(h t s):(NT.kept t s).pagesH h=T.pages h t:=by cases h<;>rfl
theorem Ef {n}(d:kZ P (h+1) n):∀k∈n.kidsN,kZ P h k:=by
 intro k a p b;cases n with
 |kept t s=>cases t with
  |leaf=>simp[NT.kidsN]at a
  |branch q ks kids =>
   obtain⟨c,e,rfl⟩:=AY.1 a;rw[sC]at b;apply d p;rw[sC];simp only[T.pages,AR,AV];refine .inr ⟨c.1,?_,b⟩;have:c.1∈(parts s ks kids).map (·.1):=AY.2 ⟨c,e,rfl⟩;rwa[iQ]at this
 |leaf=>simp[NT.kidsN]at a
 |bran s ks=>exact d p (AV.2 ⟨k,a,b⟩)
theorem He:∀(h:Nat) {l n:NT},kZ P h l->kZ P h n->∀m∈oY h l n,kZ P h m
 |0,l,n,hl,hn=>pC (λd f=>(AO.1 f).elim (Iz hl d) (Iz hn d))
 |h+1,l,n,hl,hn=>rE (sP (J:=λe=>∀m∈e,kZ P h m) (λg a b B H=>λm c=>by
   simp only[AO]at c;rcases c with c|c|c
   ·grind
   ·exact He h (H a (by simp)) (H b (by simp)) m c
   grind) (λm c=>(AO.1 c).elim (Ef hl m) (Ef hn m)))
theorem Ui (H:∀m∈ns,kZ P h m):∀m∈pZ (oY h) ns,kZ P h m :=
 sP (J:=λd=>∀m∈d,kZ P h m) (λe a b B H=>λm c=>by
  simp only[AO]at c;rcases c with c|c|c
  ·grind
  ·exact He h (H a (by simp)) (H b (by simp)) m c
  grind) H
theorem Df {es}(e:cM es)(f:cJ cs)(d:∀x∈es,∀p∈x.pages,p∈P):∀x∈bD es cs,∀p∈x.pages,p∈P:=by
 intro x g p b;rcases(fT e f x).1 g with⟨c,a,_,rfl⟩|⟨a,_⟩
 ·simp[En.pages,chE]at b
 grind
theorem Rh:∀(h:Nat) {t:T}{s:Sp}{cs:List Ch},aU fs h t s->cJ cs->(∀p∈T.pages h t,p∈P)->∀m∈chP h t s cs,kZ P h m
 |0,.leaf q es,s,cs,ht,hr,hP=>pC (Df (dV (h:=0) ht) hr (λc d p b=>hP p (by simp only[T.pages,AR,AV];grind)))
 |0,.branch _ _ _,s,cs,ht,_,_=>ht.elim
 |h+1,.leaf _ _,s,cs,ht,_,_=>by simp[aU]at ht
 |h+1,.branch q ks kids,s,cs,ht,hr,hP=>by
  have⟨g,_,_,_,f⟩:=dG ht;refine rE (Ui (λm a=>?_));have⟨c,d,a⟩:=AV.1 a;have e:∀p∈T.pages h c.1,p∈P:=λp b=>hP p (by
   simp only[T.pages,AR,AV];exact .inr ⟨c.1,pT (fs:=fs) d,b⟩)
  split at a
  ·rw[AS]at a;subst a
   intro p b;rw[sC]at b;exact e p b
  ·exact Rh h (f c d) (kK hr c.2) e m a
theorem Ez:∀(h:Nat) {n:NT},kZ P h n->kZ P (kG h n).1 (kG h n).2
 |0,n,H=>by
  have a:kG 0 n=(0,n):=by cases n<;>rfl
  grind
 |h+1,.kept t s,H=>H
 |h+1,.leaf _ _,H=>H
 |h+1,.bran s ks,H=>by
  match ks,H with
  |[],H=>exact H
  |[k],H =>
   rw[yH];exact Ez h (λp b=>H p (AV.2 ⟨k,by simp,b⟩))
  |k :: k' :: r,H=>exact H
theorem Mc:∀(k:Nat) {h:Nat}{ns:List NT},(∀n∈ns,kZ P h n)->∀x∈upP k h ns,kZ P x.1 x.2
 |k,h,[],H,x,hx=>by cases k<;>simp[upP]at hx
 |k,h,[n],H,x,hx=>by
  have c:upP k h [n]=some (kG h n):=by cases k<;>rfl
  rw[c]at hx;cases hx
  exact Ez h (H n (by simp))
 |0,h,a :: b :: r,H,x,hx=>by simp[upP]at hx
 |k+1,h,a :: b :: r,H,x,hx=>Mc k (rE H) x hx
theorem Up (c:bJ fs root o)(a:cJ cs):∀x∈iG o cs,kZ (eA o) x.1 x.2:=by
 apply Mc _;cases o with
 |none=>exact pC (Df (es:=[]) .nil a (by simp))
 |some y=>exact Rh y.1 c.2.2 a (λp b=>b)
def oV(_:Option (Nat×T)):Prop:=True
def qKt(_:List ByteArray)(_:Option (Nat×T)):Prop:=True
def bO(x:Option (Nat×NT))(fr:List Nat):Option (Nat×T)×List (Nat×Pg):=match x with
 |none=>(none,[])
 |some y=>(some (y.1,(eB y.1 y.2 fr).1),(eB y.1 y.2 fr).2)
def rootOf:Option (Nat×T)->Nat
 |none=>0
 |some (_,t)=>t.place
structure qIg (fs:Fs) (E:List En) (fr Z:List Nat) (r:Option (Nat×T)×List (Nat×Pg)):Prop where
 enc:∀y∈r.2,y.2.encE=0
 places:r.2.map (·.1)=fr.take r.2.length
 kv:(aX r.1).map En.kv=E.map En.kv
 ver:∀y∈r.2,y.2.ver=0
 stands:∀fs',Laid fs fs' Z r.2->bJ fs' (rootOf r.1) r.1/\(rootOf r.1=0\/bH (rootOf r.1:Nat)=true)
theorem qAd {d x}(H:Yc fs d x)(fr)(b:(bO x fr).2.length<=fr.length)(f:∀p∈fr,bH (p:Nat)=true)(Z)(k:∀c∈x,∀p∈c.2.pagesH c.1,p ∉ Z):qIg fs d fr Z (bO x fr):=by
 cases x with
 |none =>
  refine⟨by simp[bO],by simp[bO],?_,by simp[bO],λi _=>⟨rfl,.inl rfl⟩⟩;have:d=[]:=H;rw[this];rfl
 |some c =>
  have⟨a,n⟩:=c;obtain⟨e,j⟩:StH fs a n/\n.entsH a=d:=H;have g:=Eb e fr b f;refine⟨Ec a fr e b f,zQ a n fr b,by rw[<-j];exact Xi a fr e b f,Og a n fr,λi h=>⟨⟨?_,rfl,zN h f a e (λp a=>a) b (λc l=>l) (k _ rfl) _ (xS _) (λx _=>Jw _)⟩,.inr g⟩⟩
  ·have:=fO g
   show 0<(eB a n fr).1.place
   omega
theorem Tz {a x}(H:Yc fs a x)(fr):(bO x fr).2.length<=2 * a.length+ovs a:=by
 cases x with
 |none=>exact AH _
 |some y =>
  have⟨b,n⟩:=y;obtain⟨c,d⟩:StH fs b n/\n.entsH b=a:=H;have:=Oh b fr c;show(eB b n fr).2.length<=_
  grind
theorem Ti (a:bJ fs root o):(eA o).length<=2 * (aX o).length+ovs (aX o):=by
 cases o with
 |none=>exact AH _
 |some x =>
  have:=Ht a.2.2;show(T.pages x.1 x.2).length<=2 * (T.ents x.1 x.2).length+ovs (T.ents x.1 x.2)
  omega
