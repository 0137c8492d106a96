import Derived.Test.YtdhgdcjmhofhaaaGreatD43
set_option linter.all false
set_option maxRecDepth 100000
set_option maxHeartbeats 8000000
namespace Go.Proofs.YtdhgdcjmhofhaaaGreat.Tree
open Go.RowKit Pages Tryz
theorem qHy{a:Type}{p}:∀(l:List a),(∀x∈l,p x=true)->l.takeWhile p=l
 |[],_=>rfl
 |x :: l,h=>by rw[JW,AU (h x σ),qHy l (λc b=>h c (by simp[b]))]
theorem qEf(l m)(h:l.length<=m):tJ l ⟨#[]⟩ ⟨#[]⟩ m=l:=by
 have b:rat l ⟨#[]⟩=0:=by
  cases l with
  |nil=>rfl
  |cons a l =>
   have:lt a.1 ⟨#[]⟩=false:=by
    unfold lt;cases h:a.1.toList<;>simp[Op.bytesLess]
   simp[rat,this]
 have c:∀a∈l,Sp.below ⟨#[]⟩ a.1=true:=λa _=>by unfold Sp.below;rw[mN.2 rfl];rfl
 unfold tJ;rw[b,FJ,qHy l c,CN h]
section
variable {n B:Nat}{w:World}{q:Nat}{K:Bl}{D:Db}{v:Nat}{o ao:Option (Nat×T)}{M0:RM}
def IsQ(n B:Nat)(w:World)(D:Db)(v:Nat)(o ao:Option (Nat×T))(L:KV)(X:World):Prop:=Fr (fpD D) w X/\∃D' M',D'.d=D.d/\D'.fs=D.fs/\aI w (fpD D) (fpD D')/\Lk n B X D' v o ao [] M'/\M'.ts=[]/\M'.now=L
theorem qKw(h:Lk n B w D v o ao [] M0)(ab:B<=400000)(M:M0.ts=[])(al:(D.fs.life==0)=false)(N L)(u:Int)(A:fD w K N L)(hu:u=v->L=M0.now)(p:∀k,K k->k<w/\¬fpD D k):
  cL 52 #[.p q 0,.p D.d 0,.agg #[N,.i u]] w λe w'=>e=.r (.bool (decide (u=v)))/\IsQ n (B+2) w D v o ao M0.now w':=by
 obtain⟨j,l,rfl,ac⟩:=id A;obtain⟨c,F,g,O,-⟩:=al1 w (.cells #[.s j L l,.i u] 32);have m:=h.more (h.db.bl g) (jU _);have ag:=(gL O);have s:Hid (M0.now.length<=400000):=by have:=h.bounds.1;show _<=_;omega
 obtain⟨hd,hdE⟩:=nM (M0.last+1)
 have a4:cL 18 #[.p D.d 0] c λe w'=>e=.r (.i v)/\Hid (Lk n B w' D v o ao [] M0/\Fr (fpD D) c w'):=by
  apply(tO D c m.db).m;rintro e w' ⟨rfl,t,d⟩;exact⟨by rw[m.ver],m.more t (jU _),d.m (λk b=>b.elim)⟩
 have V:Hid (∀X,Lk n B X D v o ao [] M0/\Fr (fpD D) c X->cL 12 #[.p D.d 0,.bool false] X λe w'=>e=.r (.tuple #[.i hd,.i 0])/\∃I,I.d=D.d/\Hid (I.fs=D.fs/\Lk n (B+1) w' I v o ao [o] {M0 with last:=hd,ov:=.bool false,ts:=[M0.begun hd false (.bool false)]}/\Fr (fpD D) c w'/\aI c (fpD D) (fpD I))):=λX a=>by
  apply(Jh a.1 ω false (by rw[M];simp)).m;rintro e w' ⟨rfl,I,⟨i,_,ad,_⟩,d,a2,a3⟩;have C:=a3 (.bool false) (.bool false);rw[hdE,M]at C;have ar:=a.2.size;exact⟨by rw[hdE],I,i,ad,C,a.2.t d,λk b=>(a2 k b).imp id (λa9=>ω)⟩
 have H:cI [M0.begun hd false (.bool false)] hd (some (0,M0.begun hd false (.bool false))):=⟨rfl,Rn σ (by simp[RM.begun]) (λm b e=>ω)⟩;have a0:Hid (∀X I,I.fs=D.fs/\Lk n (B+1) X I v o ao [o] {M0 with last:=hd,ov:=.bool false,ts:=[M0.begun hd false (.bool false)]}/\Fr (fpD D) c X/\aI c (fpD D) (fpD I)->cL 61 #[.p I.d 0,.i hd,.e,.e,.i 1099511627776] X λe w'=>∃vl,e=.r (.tuple #[vl,.i 0])/\w'.ownsRow 0 71 2 vl M0.now (aJ M0.now)/\Hid ((∀k,vl.ownBlock=some k->¬fpD I k)/\I.fs=D.fs/\Lk n (B+1) w' I v o ao [o] {M0 with last:=hd,ov:=.bool false,ts:=[M0.begun hd false (.bool false)]}/\Fr (fpD D) c w'/\aI c (fpD D) (fpD I))):=λX I ⟨a,a1,a2,a3⟩=>by
  have y:cU (some (0,M0.begun hd false (.bool false))) ⟨#[]⟩ ⟨#[]⟩ 1099511627776=(M0.now,0):=by
   simp only[cU];rw[AU ⟨δ,δ,δ⟩];have:tJ M0.now ⟨#[]⟩ ⟨#[]⟩ 1099511627776=M0.now:=qEf _ _ (η s.o);exact Prod.ext this rfl
  obtain⟨G,g1,g2⟩:=Oc a1 ω hd ⟨#[]⟩ ⟨#[]⟩ 1099511627776 δ _ H;obtain rfl:=g1.resolve_right (λe=>by rw[a]at e;simp[e.2.1]at al);apply(g2 X a1.db).m;rintro e w' ⟨vl,rfl,t,d,L,a6⟩;rw[y]at L;refine⟨vl,by rw[y],L,λk b i=>by have m:=a6 k b;have aa:=a1.db.lies k i;omega,a,a1.more t (jU _),a2.grow d (λk b=>?_),a3⟩;simp only[Bl.one]at b;exact a3 k (.inl b)
 have bS:Hid (∀X Y,IsQ n (B+2) c D v o ao M0.now X->bW X Y->IsQ n (B+2) c D v o ao M0.now Y):=λX Y ⟨a,I,M',b,d,e,f,t⟩ r=>⟨a.t (AB r),I,M',b,d,e,f.more (f.db.bl r) (jU _),t⟩;have U:Hid (∀X I vl,X.ownsRow 0 71 2 vl M0.now (aJ M0.now)->I.d=D.d->(∀k,vl.ownBlock=some k->¬fpD I k)/\I.fs=D.fs/\Lk n (B+1) X I v o ao [o] {M0 with last:=hd,ov:=.bool false,ts:=[M0.begun hd false (.bool false)]}/\Fr (fpD D) c X/\aI c (fpD D) (fpD I)->cL 27 #[.p I.d 0,.i hd] X λe w'=>e=.r (.i 0)/\Hid (IsQ n (B+2) c D v o ao M0.now w'/\w'.ownsRow 0 71 2 vl M0.now (aJ M0.now))):=λX I vl f z ⟨a,a1,a2,a3,a5⟩=>by
  apply(Ws a2 hd 0 _ H).m;rintro e w' ⟨rfl,a8,⟨y1,_,y2,_⟩,d,y3,y4⟩;exact⟨rfl,⟨a3.grow d a5,a8,_,y1.t z,y2.t a1,aI.t a5 a3.size y3,y4 (.bool false),rfl,rfl⟩,aS (Y:=λk=>vl.ownBlock=some k) f (d.on (λk b=>⟨aL f b,a k b⟩)) (λk b=>b)⟩
 have x:Hid (∀X,IsQ n (B+2) c D v o ao M0.now X->cW X w #[.s j L l,.i u] 32/\fD X K (.s j L l) L):=λX ⟨a,_⟩=>by
  refine⟨a.heap O (λi=>by have:=h.db.lies _ i;omega),(A.on (vV g (λk b=>(p k b).1))).on (a.on (λk b=>⟨jY (p k b).1 g.size,(p k b).2⟩))⟩
 have W:Hid (∀X,IsQ n (B+2) c D v o ao M0.now X->IsQ n (B+2) w D v o ao M0.now X):=λX ⟨a,I,M',b,d,e,f⟩=>⟨(AB g).t a,I,M',b,d,λk r=>(e k r).imp id (λt=>by have:=g.size;omega),f⟩
 have x1:Hid (lW K c):=λk b=>by have:=(p k b).1;have:=g.size;omega
 by_cases huv:u=v
 .obtain rfl:=hu huv
  subst huv;have Z:Hid (∀X vl,IsQ n (B+2) c D v o ao M0.now X/\X.ownsRow 0 71 2 vl M0.now (aJ M0.now)->cL 102 #[.agg #[.s j M0.now l,.i v]] X λe w'=>∃v',e=.r v'/\w'.ownsRow 0 71 2 v' M0.now (aJ M0.now)/\Hid (IsQ n (B+2) c D v o ao M0.now w'/\w'.ownsRow 0 71 2 vl M0.now (aJ M0.now))):=λX vl a=>by
   refine(Xu _ v M0.now K X (x.o X a.1).2 (λk b=>by have:=x1.o k b;have:=a.1.1.size;omega) (η s.o)).m ?_;rintro e w' ⟨v',rfl,f,r,_⟩;exact⟨v',rfl,f,bS.o _ _ a.1 r,aS (Y:=λk=>vl.ownBlock=some k) a.2 (vV r (λk b=>aL a.2 b)) (λk b=>b)⟩
  have a1:Hid (∀X vl v',X.ownsRow 0 71 2 v' M0.now (aJ M0.now)->IsQ n (B+2) c D v o ao M0.now X/\X.ownsRow 0 71 2 vl M0.now (aJ M0.now)->cL 63 #[vl,v'] X λe w'=>e=.r (.bool true)/\Hid (IsQ n (B+2) c D v o ao M0.now w')):=λX vl v' f a=>by
   apply(Lf vl v' M0.now _ _ X (KN a.2) (KN f) (η s.o)).m;rintro e w' ⟨rfl,r⟩;exact⟨rfl,bS.o _ _ a.1 r⟩
  rw[CR rfl];clear h m A p hu;go_enter func52,ntmps52;go_wp2_with (first
   |(apply Calls.m a4;rintro e ai ⟨rfl,P⟩)
   |(apply Calls.m (V.o _ P.o);rintro e aj ⟨rfl,I,G,Q⟩;have E:=a0.o _ I Q.o;rw[G]at E)
   |(apply Calls.m E;rintro e ak ⟨vl,rfl,J,R⟩;obtain⟨ae,af,rfl⟩:=aG J;have z:=U.o _ I _ J G R.o;rw[G]at z)
   |(apply Calls.m z;rintro e al ⟨rfl,u⟩;have⟨ap,aq⟩:=cM (x.o _ u.o.1).1)
   |(apply Calls.m (Z.o _ _ u.o);rintro e am ⟨ah,rfl,a7,S⟩)
   |(apply Calls.m (a1.o _ _ _ a7 S.o);rintro e an ⟨rfl,T⟩))
  go_ret;exact⟨rfl,W.o _ T.o⟩
 .have hb:((v:Int) != u)=true:=χ
  rw[EM huv];clear h m A p hu;go_enter func52,ntmps52
  go_wp2_with (first
   |(apply Calls.m a4;rintro e ai ⟨rfl,P⟩)
   |(apply Calls.m (V.o _ P.o);rintro e aj ⟨rfl,I,G,Q⟩;have E:=a0.o _ I Q.o;rw[G]at E)
   |(apply Calls.m E;rintro e ak ⟨vl,rfl,J,R⟩;obtain⟨ae,af,rfl⟩:=aG J;have z:=U.o _ I _ J G R.o;rw[G]at z)
   |(apply Calls.m z;rintro e al ⟨rfl,T⟩;have⟨ap,aq⟩:=cM (x.o _ T.o.1).1))
  go_ret;exact⟨rfl,W.o _ T.o.1⟩
end
def qSg(n:Nat)(fs:Fs)(v:Nat)(o:Option (Nat×T))(M:RM):Prop:=∃q v0 o0 C,fN n q fs.safe fs.late v0 o0 C/\(∀v' t,C v' t->(v'=v/\t=o)\/(v'=v0/\t=o0))/\v0+1=v/\kvB (aT o0)=M.ah/\M.av=v0/\M.p4=.bool true/\M.p5=.bool true/\M.p2=.bool false
def Md(n:Nat)(fs:Fs)(v:Nat)(o:Option (Nat×T))(M:RM):Prop:=(M.p4=.bool false->M.p2=.bool false->∃ao,dN [] n fs v o ao)/\(Safe n fs v o M\/(M.p4=.bool true/\M.p5=.bool false/\Jl n fs v o)\/qSg n fs v o M)
structure Wc (n B:Nat) (w:World) (q:Nat) (Bk K:Bl) (β:Nat) (sv lv:Value) (fs:Fs) (v:Nat) (o:Option (Nat×T)) (M:RM):Prop where
 ref:aV w K q M
 f:M.f=.p β 0
 file:aA w β sv lv fs
 well:fs.dy
 len:fs.safe.length=n
 sz:(∀s∈fs.safe,s.size=256)/\(∀x∈fs.late,x.2.size=256)/\fs.fits
 safe:40<=n->Md n fs v o M
 nv:M.nv=v
 vB:v<=B
 now:kvB (aT o)=M.now
 few:M.now.length<=B/\M.ah.length<=B
 tw:∃b,M.p2=.bool b
 fl:Fl B fs M
 p1:∃u:Int,M.p1=.i u
 br:∃b,M.p3=.bool b
 excl:M.p5=.bool false\/(M.p5=.bool true/\M.p2=.bool false)
 spoiled:∃b,M.p4=.bool b
 meta':M.p6=.slice none 0 0/\M.p7=.slice none 0 0/\M.p8=.slice none 0 0
 apart:∀k,fpF β sv lv k->¬Bl.or K (fpR q M) k/\¬Bk k
 book:∀k,Bk k->k<w.1.size/\¬Bl.or K (fpR q M) k
theorem Wd.wc{n B w q Bk K D v o ao ots M}(h:Wd n B w q Bk K D v o ao ots M):Wc n B w q Bk K D.β D.sv D.lv D.fs v o M :=
 ⟨h.ref,h.f,h.lk.db.file,h.lk.well,h.lk.store.len,(by have⟨_,_,a,_⟩:=h.safe;exact⟨a.size,a.lsize,a.fits⟩),λ_=>⟨λ_ c=>⟨ao,h.lk.failed (by rw[h.twice]at c;grind)⟩,.inl h.safe⟩,h.lk.nv,h.lk.vB,h.lk.now,⟨h.lk.bounds.1,h.lk.bounds.2.1⟩,⟨_,h.twice⟩,h.fl,(by have⟨_,_,_,⟨u,a,_⟩,_⟩:=h.safe;grind),⟨_,h.broken⟩,.inl h.meta'.1,h.spoiled,h.meta'.2,λb a=>h.apart b (.inr (.inl a)),h.book⟩
def Lc(n B:Nat)(w:World)(q:Nat)(Bk:Bl)(vp:Value):Prop:=∃K β sv lv fs v o M,Wc n B w q Bk K β sv lv fs v o M/\M.x=.pointer none/\M.p9=vp
section
variable {n B:Nat}{w:World}{q:Nat}{Bk K:Bl}{β:Nat}{sv lv:Value}{fs:Fs}{v:Nat}{o:Option (Nat×T)}{M:RM}
structure OpS (n B:Nat) (w X:World) (q:Nat) (Bk K:Bl) (β:Nat) (sv lv:Value) (fs:Fs) (v:Nat) (o:Option (Nat×T)) (M:RM):Prop where
 wc:Wc n B X q Bk K β sv lv fs v o {M with f:=.p β 0,x:=.pointer none}
 on:On Bk w X
 new:∀k,fpF β sv lv k->w.1.size<=k
theorem qMc(h:Wc n B w q Bk K β sv lv fs v o M):cL 15 #[.p β 0] w λe d=>∃c m l,e=.r (.p c 0)/\(∃D y,d.c q 0=some D/\d.c q 1=some y/\(d.setCell (aD q 0) (.p c 0)).c q 1=some y)/\(∀i,d.frozen? (aD q i)=false)/\(∀i,(d.setCell (aD q 0) (.p c 0)).frozen? (aD q i)=false)/\Hid (OpS n B w ((d.setCell (aD q 0) (.p c 0)).setCell (aD q 1) (.pointer none)) q Bk K c m l fs v o M):=by
 apply(Iu β sv lv fs w h.file).m;rintro e d ⟨c,m,l,rfl,z,k,p⟩;have g:=h.ref.below k;have⟨E,C,_⟩:=dC g.box;have u:=aC g.box 0 (.p c 0);have H:=aC u 1 (.pointer none);have j:Fr (Bl.one q) d ((d.setCell (aD q 0) (.p c 0)).setCell (aD q 1) (.pointer none)):=((AE (Bl.one q) d).s q 0).s q 1;have I:=(gL h.ref.box);have F:¬fpF c m l q:=λa=>ζ
 have⟨A,J⟩:=g.keep j;exact⟨c,m,l,rfl,⟨_,_,E,C,by simp[World.cell?,u]⟩,aF g.box,aF u,⟨g.reobj (M':={M with f:=.p c 0,x:=.pointer none}) j ζ (λb a=>a) J (g.now.on A) (g.ah.on A) (.inl ⟨rfl,rfl⟩),rfl,z.on (j.on (λb a=>⟨z.lies b a,λe=>by simp only[Bl.one]at e;grind⟩)),h.well,h.len,h.sz,h.safe,h.nv,h.vB,h.now,h.few,h.tw,h.fl,h.p1,h.br,h.excl,h.spoiled,h.meta',λb a=>⟨λt=>by have r:=p b a;have s:=h.ref.lies b t;omega,λt=>by have r:=p b a;have s:=(h.book b t).1;omega⟩,λb a=>⟨by have r:=(h.book b a).1;have s:=k.size;have G:=j.size;omega,(h.book b a).2⟩⟩,(vV k (λb a=>(h.book b a).1)).t (j.on (λb a=>⟨by have r:=(h.book b a).1;have s:=k.size;omega,λe=>(by cases e;exact(h.book _ a).2 (.inr (.inl rfl)))⟩)),p⟩
theorem OpS.trouble{X:World}(h:OpS n B w X q Bk K β sv lv fs v o M)(z):cL 51 #[.p q 0,.i z] X λe w'=>e=.r (.bool (decide (z<fs.failed)||fs.life==0))/\w'=X:=tP q β sv lv fs X h.wc.file (dC h.wc.ref.box).1 z
theorem OpS.pages{X:World}(h:OpS n B w X q Bk K β sv lv fs v o M):cL 31 #[.p β 0] X λe w'=>e=.r (.i n)/\w'=X:=by
 have i:=mI β sv lv fs X h.wc.file;rw[h.wc.len]at i;exact i
theorem qFe(h:Wc n B w q Bk K β sv lv fs v o M)(z:n<40):
  cL 20 #[.p q 0] w λe w'=>e=.r (.bool true)/\On Bk w w'/\Lc n B w' q Bk M.p9:=by
 have A:=(dC h.ref.box).1;rw[h.f]at A;have G:(n:Int)<40:=ω
 have p:Hid (∀X a c b,OpS n B w X q Bk K a c b fs v o M->X.c q 0=some (.p a 0)/\(cL 49 #[.p a 0] X λe w'=>e=.r (.bool (fs.life==0))/\w'=X)/\(cL 50 #[.p a 0] X λe w'=>e=.r (.i fs.failed)/\w'=X)/\(cL 11 #[.p a 0] X λe w'=>e=.r (.tuple #[.pointer none,.i 1])/\w'=X)):=λX a c b d=>⟨(dC d.wc.ref.box).1,fH a c b fs X d.wc.file,pF a c b fs X d.wc.file,qJw a c b fs X d.wc.file (by rw[h.len];exact z)⟩;have s:Hid (∀X a c b,OpS n B w X q Bk K a c b fs v o M->(cL 51 #[.p q 0,.i fs.failed] X λe w'=>(∃m,e=.r (.bool m))/\w'=X)/\(cL 31 #[.p a 0] X λe w'=>e=.r (.i n)/\w'=X)):=λX a c b d=>⟨(d.trouble _).m (λe w' l=>⟨⟨_,l.1⟩,l.2⟩),d.pages⟩;generalize (fs.life==0)=gn at p;go_enter func20,ntmps20;go_wp2_with (first
  |(apply Calls.m (qMc h);rintro e r ⟨a,c,b,rfl,⟨C,D,I,J,L⟩,E,F,f⟩;have⟨k,y⟩:=nM ((r.setCell (aD q 0) (.p a 0)).setCell (aD q 1) (.pointer none));rw[y]at f;have⟨H,g,t,u⟩:=p k _ _ _ f;have⟨x,i⟩:=s k _ _ _ f)
  |(apply Calls.w g)
  |(apply Calls.w t)
  |(apply Calls.w u)
  |(apply Calls.m x;rintro e w' ⟨⟨m,rfl⟩,j⟩;subst w')
  |(apply Calls.w i))
 go_ret;exact⟨rfl,f.on,K,a,c,b,fs,v,o,_,f.wc,rfl,rfl⟩
end
structure OqS (w X:World) (q:Nat) (Bk K:Bl) (D:Db) (M:RM):Prop where
 ref:aV X K q {M with f:=.pointer (some (aD D.β 0)),x:=.pointer none}
 db:aO X 0 D
 on:On Bk w X
 new:∀k,fpD D k->w.1.size<=k
structure OpP (n:Nat) (fs:Fs) (D:Db) (v:Nat) (o ao:Option (Nat×T)):Prop where
 ver:D.ver=v
 root:D.root=rootOf o
 aroot:D.aroot=rootOf ao
 failed:D.failed=false
 last:D.last=0
 ts:D.ts=[]
 dy:D.fs.dy
 al:(D.fs.life==0)=false
 fl:D.fs.failed=fs.failed
 st:dN [] n D.fs v o ao
def Fnd(D:Db)(v:Nat)(o:Option (Nat×T))(M:RM)(U:Nat)(I N:Option (Nat×T)):Prop:=(U=v/\I=o/\(kvB (aT N)=M.ah\/N=o)/\(∀v',jS (D.fs.safe.getD (1-v % 2) ⟨#[]⟩) v' (rootOf N)->v'+1=v->kvB (aT N)=M.ah/\M.av=v')/\(M.p2=.bool true->M.p1=.i (v+1:Nat))/\(M.av=v->M.ah=M.now\/(M.p4=.bool true/\M.p5=.bool false)))\/(M.p2=.bool true/\U=v+1/\N=o/\M.p1=.i (v+1:Nat)/\kvB (aT I)=M.oth)\/(M.p5=.bool true/\M.p4=.bool true/\U+1=v/\N=I/\M.av=U/\kvB (aT I)=M.ah/\∀v',jS (D.fs.safe.getD (1-U % 2) ⟨#[]⟩) v' (rootOf N)->v'=U)
def qPw(n β:Nat)(sv lv:Value)(fs:Fs)(v:Nat)(o:Option (Nat×T))(M:RM)(w:World)(e:Ending)(w':World):Prop:=Fr (fpF β sv lv) w w'/\((∃z fs' lv',e=.r (.tuple #[.pointer none,.i z])/\aA w' β sv lv' fs'/\aI w (fpF β sv lv) (fpF β sv lv')/\fs'.dy/\fs'.safe.length=n/\((∀s∈fs'.safe,s.size=256)/\(∀x∈fs'.late,x.2.size=256)/\fs'.fits)/\Md n fs' v o M/\((z=9/\((fs'.life=0/\fs'.failed=fs.failed)\/fs'.failed=wrap64 (fs.failed+1)))\/(z=10/\fs'.failed=fs.failed/\M.p4=.bool true/\M.p5=.bool false)))\/(∃(D:Db) (U:Nat) (I N:Option (Nat×T)),e=.r (.tuple #[.p D.d 0,.i 0])/\D.β=β/\(fs.life==0)=false/\aO w' 0 D/\OpP n fs D U I N/\Fnd D v o M U I N/\aI w (fpF β sv lv) (fpD D)))
theorem qNx{n v:Nat}{fs:Fs}{o:Option (Nat×T)}{M:RM}(h:Md n fs v o M)(ag:40<=n)(hv:v+1<524288)(K:fs.dy)(β:Nat)(sv lv:Value)(w:World)(k:aA w β sv lv fs):cL 11 #[.p β 0] w (qPw n β sv lv fs v o M w):=by
 obtain⟨hc,hm⟩:=h;have G:∀{q v0 o0 C},fN n q fs.safe fs.late v0 o0 C->v0+1<524288->(∀fs' C',fN n q fs'.safe fs'.late v0 o0 C'->(∀v' t,C' v' t->C v' t\/(v'=v0/\t=o0))->(∀ao,dN [] n fs v0 o0 ao->dN [] n fs' v0 o0 ao)->Md n fs' v o M)->(∀D U I N,(∀v1 v2,bT D.fs ((v0+1) % 2) v1 (rootOf N)->jS (D.fs.safe.getD (1-v0 % 2) ⟨#[]⟩) v2 (rootOf N)->v1=v2)->((U=v0/\I=o0/\∃v',bT D.fs ((v0+1) % 2) v' (rootOf N)/\((v'=v0/\N=o0)\/(v'≠v0+1/\C v' N)))\/(U=v0+1/\N=o0/\C (v0+1) I))->Fnd D v o M U I N)->cL 11 #[.p β 0] w (qPw n β sv lv fs v o M w):=λ{q v0 o0 C} H hv0 g1 g2=>by
  apply(Rz H ag hv0 K β sv lv w k).m;rintro e w' ⟨hF,⟨rfl,ax,b0,C',q1,q2,q3,_,q4,q5,q6,q7⟩|⟨D,U,I,N,rfl,hD,hb,_,a1,a2,a3,a4,a5,a6,a7,a8,a9,a10,bx,cc,bs⟩⟩
  .exact⟨hF,.inl ⟨9,ax,b0,rfl,q1,q2,q3,q5.len,⟨q5.size,q5.lsize,q5.fits⟩,g1 ax C' q5 q6 q7,.inl ⟨rfl,q4⟩⟩⟩
  .refine⟨hF,.inr ⟨D,U,I,N,rfl,hb,?_,hD,⟨a1,a2,a3,a4,a5,a6,a7,a8,a9,bx⟩,g2 D U I N (λv1 v2 m1 m2=>?_) cc,bs⟩⟩
   .replace a10:=a10.1;unfold Fs.chOk at a10;simp at a10;simpa using a10.1
   .unfold bT Fs.at at m1;rw[bx.late,show(v0+1) % 2=1-v0 % 2 by omega]at m1;exact(rG m1 m2).1
 rcases hm with⟨q,C,H,h1,h2,hC⟩|⟨h4,h5,S⟩|⟨q,v0,o0,C,H,hC,hv0,hk,ha,h4,h5,h6⟩
 .refine G H hv (λfs' C' q5 q6 q7=>⟨λx y=>(hc x y).imp q7,.inl ⟨q,C',q5,h1,h2,λv' t a=>(q6 v' t a).elim (hC v' t) (λe=>⟨λi=>ω,λ_=>.inr e.2,λi=>ω⟩)⟩⟩) (λD U I N hm cc=>?_);rcases cc with⟨rfl,rfl,v',m,c⟩|⟨rfl,rfl,c⟩
  .refine .inl ⟨rfl,rfl,?_,λv2 m2 e2=>?_,λe=>?_,h2⟩
   .rcases c with⟨_,c⟩|⟨c1,c2⟩
    .exact .inr c
    .exact(hC v' N c2).2.1 c1
   .obtain rfl:=hm _ _ m m2;rcases c with⟨c,_⟩|⟨_,c⟩
    .omega
    .exact(hC _ N c).2.2 e2
   .have⟨u,e3,e4⟩:=h1;rw[e3,e4 e];rfl
  .have⟨e1,e2⟩:=(hC _ _ c).1 rfl;have⟨u,e3,e4⟩:=h1;exact .inr (.inl ⟨e1,rfl,rfl,by rw[e3,e4 e1];rfl,e2⟩)
 .apply(qFg S ag K β sv lv w k).m;rintro e w' ⟨hF,z,fs',lv',rfl,q1,q2,q3,q4,q5,q6⟩;have S':=S.eq q4 q5;exact⟨hF,.inl ⟨z,fs',lv',rfl,q1,q2,q3,S'.len,⟨S'.size,by simp[q5],by unfold Fs.fits;simp[q5]⟩,⟨λe=>by rw[h4]at e;simp at e,.inr (.inl ⟨h4,h5,S'⟩)⟩,q6.imp (λh=>⟨h.1,h.2.2⟩) (λh=>⟨h.1,h.2.1,h4,h5⟩)⟩⟩
 .refine G H ω (λfs' C' q5 q6 _=>⟨λe=>by rw[h4]at e;simp at e,.inr (.inr ⟨q,v0,o0,C',q5,λv' t a=>(q6 v' t a).elim (hC v' t) .inr,hv0,hk,ha,h4,h5,h6⟩)⟩) (λD U I N hm cc=>?_);rcases cc with⟨rfl,rfl,v',m,c⟩|⟨rfl,rfl,c⟩
  .have hN:v'=U/\N=I:=by
    rcases c with c|⟨c1,c2⟩
    .exact c
    .rcases hC _ _ c2 with c|c
     .omega
     .exact c
   exact .inr (.inr ⟨h5,h4,hv0,hN.2,ha,hk,λv2 m2=>(hm _ _ m m2).symm.trans hN.1⟩)
  .rcases hC _ _ c with c|c
   .exact .inl ⟨hv0,c.2,.inl hk,λv2 _ e=>⟨hk,ω⟩,λe=>(by rw[h6]at e;simp at e),λe=>ω⟩
   .omega
def qPf(n B:Nat)(w:World)(q:Nat)(Bk:Bl)(M:RM)(D:Db)(l:World):Prop:=((∃c,l.c q 1=some c)/\(∀m,l.frozen? (aD q m)=false))/\∀g G H,l.setCell (aD q 1) (.p D.d 0)=g->g.setCell (aD q 10) (.bool false)=G->G.setCell (aD q 11) (.bool false)=H->((∃c,g.c q 10=some c)/\(∀m,g.frozen? (aD q m)=false)/\(∃c,G.c q 11=some c)/\(∀m,G.frozen? (aD q m)=false)/\(∃c,H.c q 13=some c)/\(∀m,H.frozen? (aD q m)=false))/\∀W,H.setCell (aD q 13) (.bool false)=W->On Bk w W/\Lw n (B+1) W q Bk M.p9
section
variable {n B:Nat}{w X:World}{q:Nat}{Bk K:Bl}{β:Nat}{sv lv:Value}{fs:Fs}{v v1:Nat}{o o1 ao1:Option (Nat×T)}{M:RM}{D:Db}
theorem OqS.on'{Y:World}(h:OqS w X q Bk K D M)(g:Wc n B w q Bk K β sv lv fs v o M){Z:Bl}(f:Fr Z X Y)(i:∀k,Z k->w<=k/\¬fpD D k):OqS w Y q Bk K D M:=by
 have s:=h.on.size;exact⟨h.ref.aside f (λk a b=>by have c:=(i k a).1;have d:=g.ref.lies k b;omega),h.db.aside f (λk a=>(i k a).2),h.on.t (f.on (λk a=>⟨by have:=(g.book k a).1;omega,λb=>by have c:=(i k b).1;have d:=(g.book k a).1;omega⟩)),h.new⟩
theorem OqS.fin{l:World}{C E:Value}{A p:KV}{O:Int}(d:OqS w X q Bk K D M)(c:Wc n B w q Bk K β sv lv fs v o M)(P:OpP n fs D v1 o1 ao1)(a3:v1<=B+1)(j:kvB (aT o1)=A)(k:kvB (aT ao1)=p\/ao1=o1)(k2:∀v',jS (D.fs.safe.getD (1-v1 % 2) ⟨#[]⟩) v' (rootOf ao1)->v'+1=v1->kvB (aT ao1)=p/\O=v')(k3:O=v1->p=A\/M.p4=.bool true)(a8:A<=B)(a9:p<=B)(a6:∀x∈p,x.2.size<=400)(a4:fD X K C A)(a5:fD X K E p)(a0:(((((X.setCell (aD q 2) C).setCell (aD q 3) (.i v1)).setCell (aD q 4) E).setCell (aD q 5) (.i O)).setCell (aD q 6) .n).setCell (aD q 7) (.i 0)=l):
  qPf n B w q Bk M D l:=by
 have I:=aC (aC (aC (aC (aC (aC d.ref.box 2 C) 3 (.i v1)) 4 E) 5 (.i O)) 6 .n) 7 (.i 0);rw[a0]at I;refine⟨⟨⟨.pointer none,by simp[World.cell?,I]⟩,aF I⟩,?_⟩;rintro g G H U V Y;have J:=aC I 1 (.p D.d 0);rw[U]at J;have L:=aC J 10 (.bool false);rw[V]at L;have N:=aC L 11 (.bool false);rw[Y]at N;refine⟨⟨⟨M.p2,by simp[World.cell?,J]⟩,aF J,⟨M.p3,by simp[World.cell?,L]⟩,aF L,⟨M.p5,by simp[World.cell?,N]⟩,aF N⟩,λW Z=>?_⟩;have a1:=aC N 13 (.bool false);rw[Z]at a1;have F:Fr (Bl.one q) X W:=by
  rw[<-Z,<-Y,<-V,<-U,<-a0];exact((((((((((AE (Bl.one q) X).s q 2).s q 3).s q 4).s q 5).s q 6).s q 7).s q 1).s q 10).s q 11).s q 13
 have⟨S,m2⟩:=d.ref.keep F;have R:=d.ref.reobj (M':={M with f:=.p D.β 0,x:=.p D.d 0,vn:=C,nv:=v1,now:=A,va:=E,av:=O,ah:=p,ov:=.n,ts:=[],last:=0,p2:=.bool false,p3:=.bool false,p5:=.bool false}) F (by simpa using a1) (λb a=>a) m2 (a4.on S) ⟨a5.on S,d.ref.ah.2.on S⟩ (.inr ⟨rfl,rfl⟩);have t:=(gL c.ref.box);have l:=d.db.aside F (λa b r=>by cases b;have:=d.new _ r;omega);have i:∀a,Bl.or K (fpR q ({M with f:=.p D.β 0,x:=.p D.d 0,vn:=C,nv:=v1,now:=A,va:=E,av:=O,ah:=p,ov:=.n,ts:=[],last:=0,p2:=.bool false,p3:=.bool false,p5:=.bool false}:RM)) a->Bl.or K (fpR q M) a:=by
  rintro a (b|rfl|b|⟨u,s,_⟩)
  .exact .inl b
  .exact .inr (.inl rfl)
  .simp[Value.ownBlock]at b
  .cases s
 have y:=d.on.size;have z:=F.size;obtain⟨aa,a7,b1,a2⟩:=P.st.hold;obtain⟨u,T⟩:=c.p1;have Q:=c.fl;exact⟨d.on.t (F.on (λa b=>⟨by have:=(c.book a b).1;omega,λh=>by cases h;exact(c.book _ b).2 (.inr (.inl rfl))⟩)),K,D,v1,o1,ao1,[],_,⟨R,Lk.opened l P.dy P.st P.ver P.root P.aroot P.last P.ts rfl rfl rfl j k a3 (by show A.length<=_;omega) (by show p.length<=_;omega),rfl,rfl,by rw[P.failed],by rw[P.failed],⟨_,_,a2,⟨u,T,λe=>by simp at e⟩,λe=>(k3 e).imp id (λe=>⟨e,rfl⟩),λv' t a=>⟨λe=>(η a.1),λ_=>by rw[a.2];exact k,λi=>by obtain⟨rfl,rfl⟩:=a;exact k2 _ b1 i⟩⟩,⟨P.fl▸Q.1,by rw[P.fl];have:=Q.2.1;omega,by have:=Q.2.2.1;show M.oth.length<=_;omega,a6⟩,c.spoiled,⟨rfl,c.meta'⟩,λa b=>⟨λe=>by have j:=d.new a b;have k:=c.ref.lies a (i a e);omega,λe=>by have j:=d.new a b;have k:=(c.book a e).1;omega⟩,λa b=>⟨by have:=(c.book a b).1;omega,λe=>(c.book a b).2 (i a e)⟩⟩,rfl⟩
end
section
variable {n B:Nat}{w:World}{q:Nat}{Bk K:Bl}{β:Nat}{sv lv:Value}{fs:Fs}{v:Nat}{o:Option (Nat×T)}{M:RM}
theorem qFf(h:Wc n B w q Bk K β sv lv fs v o M)(bz:B<=390000)(ag:40<=n):
  cL 20 #[.p q 0] w λe w'=>e=.r (.bool true)/\On Bk w w'/\(Lc n (B+1) w' q Bk M.p9\/Lw n (B+1) w' q Bk M.p9):=by
 have c0:=qMc h
 have bw:=(dC h.ref.box).1
 rw[h.f]at bw
 obtain⟨u,ai⟩:=h.p1
 obtain⟨tb,ad⟩:=h.tw
 obtain⟨mt,am,ex⟩:∃mt,M.p5=.bool mt/\(mt=true->tb=false):=h.excl.elim (λe=>⟨false,e,nofun⟩) (λe=>⟨true,e.1,λ_=>by have:=ad.symm.t e.2;simpa using this⟩)
 obtain⟨sp,a0s⟩:=h.spoiled
 have vB:=h.vB
 have fl:=h.fl
 obtain⟨x0,y0,e0,_⟩:=h.ref.now
 obtain⟨x1,y1,e1,_⟩:=h.ref.ah.1
 obtain⟨x2,y2,e2,_⟩:=h.ref.ah.2
 have J:Hid (∀X D,OqS w X q Bk K D M->X.c q 0=some (.p D.β 0)/\X.c q 2=some (.s x0 M.now y0)/\X.c q 3=some (.i v)/\X.c q 4=some (.s x1 M.ah y1)/\X.c q 5=some (.i M.av)/\X.c q 8=some (.s x2 M.oth y2)/\X.c q 9=some (.i u)/\X.c q 10=some (.bool tb)/\X.c q 13=some (.bool mt)):=λX D b=>by
  obtain⟨b0,_,b2,b3,b4,b5,_,_,b8,b9,b10,_,_,b13⟩:=dC b.ref.box
  exact⟨b0,by rw[b2];exact BR some e0,by rw[b3];exact BR (λz=>some (Value.i z)) h.nv,by rw[b4];exact BR some e1,b5,by rw[b8];exact BR some e2,by rw[b9];exact BR some ai,by rw[b10];exact BR some ad,by rw[b13];exact BR some am⟩
 have W:Hid (∀X D,OqS w X q Bk K D M->X.1[q]?=some ({M with f:=.p D.β 0,x:=.pointer none}:RM).obj/\X.c q 6=some M.ov/\X.c q 7=some (.i M.last)):=λX D b=>by
  obtain⟨_,_,_,_,_,_,b6,b7,_⟩:=dC b.ref.box
  exact⟨b.ref.box,b6,b7⟩
 have bo:Hid (∀X r G F,OpS n B w X q Bk K r G F fs v o M->X.c q 0=some (.p r 0)/\(cL 49 #[.p r 0] X λe w'=>e=.r (.bool (fs.life==0))/\w'=X)/\(cL 50 #[.p r 0] X λe w'=>e=.r (.i fs.failed)/\w'=X)/\(cL 11 #[.p r 0] X λe w'=>(∃z bm,e=.r (.tuple #[.pointer none,.i z])/\((z=9/\bm=true)\/(z=10/\sp=true/\mt=false))/\Hid (w'.c q 0=some (.p r 0)/\w'.c q 12=some (.bool sp)/\w'.c q 13=some (.bool mt)/\(cL 51 #[.p q 0,.i fs.failed] w' λe X=>e=.r (.bool bm)/\X=w')/\(cL 31 #[.p r 0] w' λe X=>e=.r (.i n)/\X=w')/\On Bk w w'/\Lc n (B+1) w' q Bk M.p9))\/(∃(D:Db) (U:Nat) (I N:Option (Nat×T)),e=.r (.tuple #[.p D.d 0,.i 0])/\D.β=r/\(fs.life==0)=false/\Hid (OpP n fs D U I N)/\Hid (Fnd D v o M U I N)/\Hid (OqS w w' q Bk K D M)))):=λX r G F b=>by
  have bg:=b.on.size
  refine⟨(dC b.wc.ref.box).1,fH r G F fs X b.wc.file,pF r G F fs X b.wc.file,(qNx (h.safe ag) ag ω h.well r G F X b.wc.file).m ?_⟩
  rintro e w' ⟨hF,⟨z,ax,b0,rfl,q1,q2,q3,q4,q5,q6,q7⟩|⟨D,U,I,N,rfl,rfl,hl,hD,hP,hN,bs⟩⟩
  .have hw:wrap64 (fs.failed+1)=fs.failed+1:=rY (η fl.1) (η fl.2.1)
   rw[hw]at q7
   have nw:∀k,fpF r G b0 k->w<=k:=λk a=>(q2 k a).elim (b.new k) (λe=>ω)
   have oX:=b.on.t (hF.on (λa d=>⟨by have:=(h.book a d).1;omega,λaf=>by have m:=b.new a af;have b1:=(h.book a d).1;omega⟩))
   have S:OpS n (B+1) w w' q Bk K r G b0 ax v o M:=⟨⟨b.wc.ref.aside hF (λa d af=>(b.wc.apart a d).1 af),rfl,q1,q3,q4,q5,λ_=>q6,h.nv,ω,h.now,⟨by have:=h.few.1;show M.now.length<=_;omega,by have:=h.few.2;show M.ah.length<=_;omega⟩,h.tw,⟨by have:=fl.1;omega,by have:=fl.2.1;omega,by have:=fl.2.2.1;show M.oth.length<=_;omega,fl.2.2.2⟩,h.p1,h.br,h.excl,h.spoiled,h.meta',λk a=>⟨λt=>by have r:=nw k a;have s:=h.ref.lies k t;omega,λt=>by have r:=nw k a;have s:=(h.book k t).1;omega⟩,λk a=>⟨by have:=(h.book k a).1;have:=oX.size;omega,(h.book k a).2⟩⟩,oX,nw⟩
   obtain⟨b0',_,_,_,_,_,_,_,_,_,_,_,b12,b13⟩:=dC S.wc.ref.box
   refine .inl ⟨z,_,rfl,?_,b0',by rw[b12];exact BR some a0s,by rw[b13];exact BR some am,S.trouble fs.failed,S.pages,oX,K,r,G,b0,ax,v,o,_,S.wc,rfl,rfl⟩
   rcases q7 with⟨rfl,q7⟩|⟨rfl,_,q8,q9⟩
   .exact .inl ⟨rfl,by rcases q7 with e|e;(·simp[e.1]);(·rw[e];simp;omega)⟩
   .exact .inr ⟨rfl,by rw[a0s]at q8;simpa using q8,by rw[am]at q9;simpa using q9⟩
  .exact .inr ⟨D,U,I,N,rfl,rfl,hl,hP,hN,b.wc.ref.aside hF (λa d af=>(b.wc.apart a d).1 af),hD,b.on.t (hF.on (λa d=>⟨by have:=(h.book a d).1;omega,λaf=>by have m:=b.new a af;have b1:=(h.book a d).1;omega⟩)),λa d=>(bs a d).elim (b.new a) (λe=>ω)⟩
 have bp:Hid (∀X D U I N,OqS w X q Bk K D M->OpP n fs D U I N->(cL 51 #[.p q 0,.i fs.failed] X λe w'=>(∃ba,e=.r (.bool ba))/\w'=X)/\(cL 31 #[.p D.β 0] X λe w'=>e=.r (.i n)/\w'=X)/\(cL 15 #[.p D.β 0] X λe w'=>∃i j k,e=.r (.p i 0)/\Hid (OqS w w' q Bk K D M/\aA w' i j k D.fs/\∀a,fpF i j k a->w<=a/\¬fpD D a))):=λX D U I N b p=>by
  have A:=b.db.file
  have R:=mI D.β D.sv D.lv D.fs X A
  rw[p.st.len]at R
  refine⟨(tP q D.β D.sv D.lv D.fs X A (J.o X D b).1 _).m (λe w' b3=>⟨⟨_,b3.1⟩,b3.2⟩),R,(Iu D.β D.sv D.lv D.fs X A).m ?_⟩
  rintro e w' ⟨i,j,k,rfl,cg,ce,b4⟩
  have bg:=b.on.size
  exact⟨i,j,k,rfl,b.on' h (Z:=Bl.none) (AB ce) (λa d=>d.elim),cg,λa d=>⟨by have:=b4 a d;omega,λH=>by have m:=b4 a d;have b1:=b.db.lies a H;omega⟩⟩
 have bn:Hid (∀X D U I N i j k,OpP n fs D U I N->OqS w X q Bk K D M/\aA X i j k D.fs/\(∀a,fpF i j k a->w<=a/\¬fpD D a)->cL 16 #[.p i 0,.n] X λe w'=>∃O,e=.r O/\Hid (OqS w w' q Bk K D M/\aA w' i j .n D.fs.calm/\∀a,fpF i j .n a->w<=a/\¬fpD D a)):=λX D U I N i j k p b=>by
  refine(It i j k D.fs none 0 0 X b.2.1 p.st.late).m ?_
  rintro e w' ⟨⟨O,rfl⟩,A,C⟩
  refine⟨O,rfl,b.1.on' h C (λa d=>b.2.2 a (.inl d)),A,λa d=>?_⟩
  rcases d with d|d|d
  .exact b.2.2 a (.inl d)
  .exact b.2.2 a (.inr (.inl d))
  .simp[Value.ownBlock]at d
 have ar:Hid (∀X D U I N i j k L,OpP n fs D U I N->U<=B+1->(aT I)<=B->(kvB (aT N)=L\/N=I)->L<=B->((v:Int)=U->M.now=kvB (aT I))->OqS w X q Bk K D M/\aA X i j k D.fs.calm/\(∀a,fpF i j k a->w<=a/\¬fpD D a)->cL 11 #[.p i 0] X λe w'=>∃a7:Nat,e=.r (.tuple #[.p a7 0,.i 0])/\Hid (OqS w w' q Bk K D M)/\(cL 52 #[.p q 0,.p a7 0,.agg #[.s x0 M.now y0,.i v]] w' λe bb=>e=.r (.bool (decide ((v:Int)=U)))/\Hid (OqS w bb q Bk K D M)/\∀V L (u:Int),fD bb K V L->(u=U->L=kvB (aT I))->cL 52 #[.p q 0,.p a7 0,.agg #[V,.i u]] bb λe X=>e=.r (.bool (decide (u=U)))/\Hid (OqS w X q Bk K D M))):=λX D U I N i j k L p h1 h2 h3 h4 h5 b=>by
  refine(qBy (B:=B+1) (L:=L) (dN.eq (fs:=D.fs) rfl rfl p.st:dN [] n D.fs.calm U I N) ag ⟨rfl,rfl⟩ i j k X b.2.1 h1 ω ω h3 ω).m ?_
  rintro e w' ⟨am,cf,rfl,a8,_,al,C,a9,Q⟩;replace al:=KM al
  have bg:=b.1.on.size
  have T:=b.1.on' h C b.2.2
  have ab:=Q {M with ts:=[],last:=0,nv:=U,now:=kvB (aT I),ah:=L} rfl rfl rfl rfl rfl
  have b6:∀a,fpD am a->w<=a/\¬fpD D a:=λa d=>by
   rcases a9 a d with m|m
   .exact b.2.2 a m
   .exact⟨ω,λH=>by have:=b.1.db.lies a H;omega⟩
  have kp:∀{Y:World},On Bk w Y->lW K Y:=λo a d=>by have:=(h.ref.kp a d).1;have:=o.size;omega
  refine⟨am.d,rfl,T,(qKw (q:=q) (K:=K) ab ω rfl al _ M.now v (by have:=T.ref.now;dsimp only at this;rw[e0]at this;exact this) h5 (λa d=>⟨kp T.on a d,λH=>by have m:=(b6 a H).1;have b1:=(h.ref.kp a d).1;omega⟩)).m ?_⟩
  rintro e bb ⟨rfl,c1,D',M',c2,c3,c4,c5,c6,c7⟩
  have T2:=T.on' h c1 b6
  have b7:∀a,fpD D' a->w<=a/\¬fpD D a:=λa d=>by
   rcases c4 a d with m|m
   .exact b6 a m
   .exact⟨by have:=T.on.size;omega,λH=>by have:=T.db.lies a H;omega⟩
  refine⟨rfl,T2,λV L u hV hu=>?_⟩
  rw[<-c2]
  refine(qKw (q:=q) (K:=K) c5 ω c6 (by rw[c3];exact al) V L u hV (λe=>by rw[c7];exact hu e) (λa d=>⟨kp T2.on a d,λH=>by have m:=(b7 a H).1;have b1:=(h.ref.kp a d).1;omega⟩)).m ?_
  rintro e Y ⟨rfl,d1,_⟩
  exact⟨rfl,T2.on' h d1 b7⟩
 have aq:Hid (∀X D,OqS w X q Bk K D M->OqS w X.drew q Bk K D M):=λX D b=>b.on' h (Z:=Bl.none) (AE _ _).drew (λa d=>d.elim)
 have bm:Hid (∀X Y D,OqS w X q Bk K D M->bW X Y->OqS w Y q Bk K D M):=λX Y D b cd=>b.on' h (Z:=Bl.none) (AB cd) (λa d=>d.elim)
 obtain⟨gn,br⟩:=nM ((fs.life==0))
 rw[br]at bo
 clear br
 have HH:Hid (Wc n B w q Bk K β sv lv fs v o M/\M.p2=.bool tb/\M.p5=.bool mt/\M.p1=.i u):=⟨h,ad,am,ai⟩
 have E0:Hid (M.vn=.s x0 M.now y0/\M.va=.s x1 M.ah y1/\M.p0=.s x2 M.oth y2):=⟨e0,e1,e2⟩
 have K2:Hid (∀X D,OqS w X q Bk K D M->fD X K (.s x0 M.now y0) M.now/\fD X K (.s x1 M.ah y1) M.ah/\fD X K (.s x2 M.oth y2) M.oth):=λX D d=>by have a:=d.ref.now;have b:=d.ref.ah;dsimp only at a b;rw[e0]at a;rw[e1,e2]at b;exact⟨a,b⟩
 clear h ad am ai a0s fl vB e0 e1 e2
 go_enter func20,ntmps20
 go_wp2_with (first
  |((with_reducible refine Calls.m c0 ?_);rintro e cl ⟨r,G,F,rfl,⟨cn,co,d2,d3,d4⟩,cr,cs,a0⟩;obtain⟨a1,cb⟩:=nM ((cl.setCell (aD q 0) (.p r 0)).setCell (aD q 1) (.pointer none));rw[cb]at a0;obtain⟨cy,P,c7,ac⟩:=bo.o a1 _ _ _ a0.o)
  |((with_reducible refine Calls.w P ?_))
  |((with_reducible refine Calls.w c7 ?_)))
 go_at_call 11
 (with_reducible refine Calls.m ac ?_)
 rintro e dj (⟨z,bm',rfl,hz,H9⟩|⟨D,U,I,N,rfl,rfl,gl,hP,hc,an⟩)
 .obtain⟨f1,f12,f13,f2,f3,f4,f5⟩:=H9.o
  clear c0 bo P c7 ac cy cn co d2 d3 d4 cr cs cb
  rcases hz with⟨rfl,rfl⟩|⟨rfl,rfl,rfl⟩
  all_goals
   go_wp2_with (first
    |((with_reducible refine Calls.w f2 ?_))
    |((with_reducible refine Calls.w f3 ?_)))
   go_ret
   exact⟨rfl,f4,.inl f5⟩
 .subst gl
  clear c0 bo P c7 ac cy cn co d2 d3 d4 cr cs cb
  obtain⟨ca,R,c1⟩:=bp.o _ _ _ _ _ an.o hP.o
  obtain⟨cv,-⟩:=J.o _ _ an.o
  rcases hc.o with⟨rfl,rfl,bi,bl,bu,ba⟩|⟨hp2,rfl,rfl,hp1,ay⟩|⟨hp5,hp4,hU,rfl,ha,ay,hm⟩
  .have OP:Hid (∀X i j k,OqS w X q Bk K D M/\aA X i j k D.fs.calm/\(∀a,fpF i j k a->w<=a/\¬fpD D a)->cL 11 #[.p i 0] X λe w'=>∃a7:Nat,e=.r (.tuple #[.p a7 0,.i 0])/\Hid (OqS w w' q Bk K D M)/\(cL 52 #[.p q 0,.p a7 0,.agg #[.s x0 M.now y0,.i U]] w' λe bb=>e=.r (.bool true)/\Hid (OqS w bb q Bk K D M)/\Hid ((tb=true->cL 52 #[.p q 0,.p a7 0,.agg #[.s x2 M.oth y2,.i u]] bb λe X=>e=.r (.bool (decide (u=U)))/\Hid (OqS w X q Bk K D M))/\(mt=true->cL 52 #[.p q 0,.p a7 0,.agg #[.s x1 M.ah y1,.i M.av]] bb λe X=>e=.r (.bool (decide (M.av=U)))/\Hid (OqS w X q Bk K D M))))):=λX i j k b=>by
    obtain⟨h,ad,am,ai⟩:=HH.o
    have:=ar.o X D U I N i j k M.ah hP.o (η h.vB) (by have:=h.few.1;rw[<-h.now,nR]at this;exact this) bi h.few.2 (λ_=>h.now.symm) b
    rw[CR rfl]at this
    exact this.m (λe w' ⟨a,b,c,d⟩=>⟨a,b,c,d.m (λe w' ⟨a,b,c⟩=>⟨a,b,λht=>c _ _ _ (K2.o _ _ b.o).2.2 (λe=>by have:=bu (by rw[ad,ht]);rw[ai]at this;simp at this;omega),λhm=>c _ _ _ (K2.o _ _ b.o).2.1 (λe=>((ba e).resolve_right (λe=>by have:=e.2;rw[am,hm]at this;simp at this)).trans h.now.symm)⟩)⟩)
   have az:Hid (∀X l,OqS w X q Bk K D M->(((((X.setCell (aD q 2) (.s x0 M.now y0)).setCell (aD q 3) (.i U)).setCell (aD q 4) (.s x1 M.ah y1)).setCell (aD q 5) (.i M.av)).setCell (aD q 6) .n).setCell (aD q 7) (.i 0)=l->qPf n B w q Bk M D l):=λX l d hl=>by
    obtain⟨h,-⟩:=HH.o
    have⟨k0,k1,_⟩:=K2.o _ _ d
    exact d.fin h hP.o (η h.vB) h.now bi bl (λe=>(ba e).imp id And.left) h.few.1 h.few.2 h.fl.2.2.2 k0 k1 hl
   have hx:(tb=false/\mt=false)\/(tb=true/\mt=false)\/(tb=false/\mt=true):=by cases tb<;>cases mt<;>simp at ex⊢
   clear HH ar
   rcases hx with⟨rfl,rfl⟩|⟨rfl,rfl⟩|⟨rfl,rfl⟩
   all_goals
    go_wp2_with (first
     |((with_reducible refine Calls.m ca ?_);rintro e w' ⟨⟨ba,rfl⟩,aj⟩;subst w')
     |((with_reducible refine Calls.w R ?_))
     |((with_reducible refine Calls.m c1 ?_);rintro e dk ⟨i,j,k,rfl,bj⟩;have c4:=bn.o _ _ _ _ _ _ _ _ hP.o bj.o)
     |((with_reducible refine Calls.m c4 ?_);rintro e dl ⟨O,rfl,bk⟩)
     |((with_reducible refine Calls.m (OP.o _ _ _ _ bk.o) ?_);rintro e ak ⟨a7,rfl,bl,c9⟩;obtain⟨d0,d2,d3,d4,d5,d8,d9,ae,aw⟩:=J.o _ _ bl.o)
     |((with_reducible refine Calls.m c9 ?_);rintro e ak ⟨rfl,V,bh⟩;obtain⟨d0,d2,d3,d4,d5,d8,d9,ae,aw⟩:=J.o _ _ V.o)
     |((with_reducible refine Calls.m (bh.o.1 σ) ?_);rintro e ak ⟨rfl,V⟩;obtain⟨d0,d2,d3,d4,d5,d8,d9,ae,aw⟩:=J.o _ _ V.o)
     |((with_reducible refine Calls.m (bh.o.2 σ) ?_);rintro e ak ⟨rfl,V⟩;obtain⟨d0,d2,d3,d4,d5,d8,d9,ae,aw⟩:=J.o _ _ V.o))
    refine cY (S:=(λX:World=>X.c q 2=some (.s x0 M.now y0)/\X.c q 3=some (.i U)/\X.c q 4=some (.s x1 M.ah y1)/\X.c q 5=some (.i M.av))) 14 κ ?_
    refine tks [(0,.p q 0),(1,.p q 0),(2,.p q 0),(3,.p q 2),(4,.p q 2),(5,.agg #[.s x0 M.now y0,.i U]),(6,.p q 0),(7,.p q 0),(8,.p q 2),(9,.p q 4),(10,.agg #[.s x1 M.ah y1,.i M.av])] (by have:=J.o _ _ (aq.o _ _ V.o);grind) ?_
    iterate 11 (refine tk1 rfl ?_;try simp only[pS])
    refine tke ?_
    refine aR (i:=11) κ rfl (λK aa=>?_)
    go_simp
    go_at_call 53
    (with_reducible refine Calls.m (tV x0 x1 M.now y0 M.ah y1 U M.av ak.drew) ?_)
    rintro e al ⟨rfl,a6⟩
    have ap:=(show Hid _ from bm.o _ _ _ (aq.o _ _ V.o) a6)
    obtain⟨cj,dt,du⟩:=W.o _ _ ap.o
    obtain⟨d0,d2,d3,d4,d5,d8,d9,ae,aw⟩:=J.o _ _ ap.o
    have dv:=aF cj
    simp only[]
    refine aa.out _ _ (λ_=>⟨d2,d3,d4,d5⟩) ?_
    try simp only[pS]
    refine tks [(12,.p q 0),(13,.p q 2)] ⟨d2,d3,d4,d5⟩ ?_
    iterate 2 (refine tk1 rfl ?_;try simp only[pS])
    refine tke ?_
    obtain⟨l,b2⟩:=nM ((((((al.setCell (aD q 2) (.s x0 M.now y0)).setCell (aD q 3) (.i U)).setCell (aD q 4) (.s x1 M.ah y1)).setCell (aD q 5) (.i M.av)).setCell (aD q 6) .n).setCell (aD q 7) (.i 0))
    obtain⟨⟨⟨dn,dm⟩,cp⟩,c3⟩:=az.o al l ap.o b2
    refine aR (i:=14) κ rfl (λK aa=>?_)
    go_simp
    refine aa.out _ _ (λe=>by cases e) ?_
    try simp only[pS]
    refine dF κ ?_ _
    obtain⟨g,i0⟩:=nM (l.setCell (aD q 1) (.p D.d 0))
    obtain⟨g1,i1⟩:=nM (g.setCell (aD q 10) (.bool false))
    obtain⟨g2,i2⟩:=nM (g1.setCell (aD q 11) (.bool false))
    obtain⟨⟨⟨j1,k1⟩,k2,⟨j3,k3⟩,k4,⟨j5,k5⟩,k6⟩,c5⟩:=c3 g g1 g2 i0 i1 i2
    try rw[b2]
    go_wp2
    go_ret
    exact⟨rfl,(c5 _ rfl).1,.inr (c5 _ rfl).2⟩
  .have HT:tb=true/\mt=false/\u=((v+1:Nat):Int):=by
    obtain⟨h,ad,am,ai⟩:=HH.o
    have e:tb=true:=by rw[ad]at hp2;simpa using hp2
    exact⟨e,by cases mt<;>simp[e]at ex⊢,by rw[ai]at hp1;simpa using hp1⟩
   obtain⟨rfl,rfl,bq⟩:=HT
   have HU:Hid (u=((v+1:Nat):Int)):=bq
   clear bq
   have OP:Hid (∀X i j k,OqS w X q Bk K D M/\aA X i j k D.fs.calm/\(∀a,fpF i j k a->w<=a/\¬fpD D a)->cL 11 #[.p i 0] X λe w'=>∃a7:Nat,e=.r (.tuple #[.p a7 0,.i 0])/\Hid (OqS w w' q Bk K D M)/\(cL 52 #[.p q 0,.p a7 0,.agg #[.s x0 M.now y0,.i v]] w' λe bb=>e=.r (.bool false)/\Hid (OqS w bb q Bk K D M)/\Hid ((true=true->cL 52 #[.p q 0,.p a7 0,.agg #[.s x2 M.oth y2,.i u]] bb λe X=>e=.r (.bool true)/\Hid (OqS w X q Bk K D M))/\(false=true->cL 52 #[.p q 0,.p a7 0,.agg #[.s x1 M.ah y1,.i M.av]] bb λe X=>e=.r (.bool true)/\Hid (OqS w X q Bk K D M))))):=λX i j k b=>by
    obtain⟨h,-⟩:=HH.o
    have:=ar.o X D (v+1) I N i j k M.now hP.o (η h.vB) (by have:=h.fl.2.2.1;rw[<-ay,nR]at this;exact this) (.inl h.now) h.few.1 (λe=>ω) b
    rw[EM ω]at this
    exact this.m (λe w' ⟨a,b,c,d⟩=>⟨a,b,c,d.m (λe w' ⟨a,b,c⟩=>⟨a,b,λ_=>by have:=c _ _ u (K2.o _ _ b.o).2.2 (λ_=>ay.symm);rw[CR HU.o]at this;exact this,λe=>by cases e⟩)⟩)
   have az:Hid (∀X l,OqS w X q Bk K D M->(((((X.setCell (aD q 2) (.s x2 M.oth y2)).setCell (aD q 3) (.i u)).setCell (aD q 4) (.s x0 M.now y0)).setCell (aD q 5) (.i v)).setCell (aD q 6) .n).setCell (aD q 7) (.i 0)=l->qPf n B w q Bk M D l):=λX l d hl=>by
    obtain⟨h,-⟩:=HH.o
    rw[HU.o]at hl
    have⟨k0,_,k2⟩:=K2.o _ _ d
    exact d.fin h hP.o (η h.vB) ay (.inl h.now) (λv' _ e=>⟨h.now,ω⟩) (λe=>ω) h.fl.2.2.1 h.few.1 (by rw[<-h.now];exact zS (gV hP.o.st.ahead.rooted hP.o.st.ahead.flat)) k2 k0 hl
   clear HH ar
   go_wp2_with (first
    |((with_reducible refine Calls.m ca ?_);rintro e w' ⟨⟨ba,rfl⟩,aj⟩;subst w')
    |((with_reducible refine Calls.w R ?_))
    |((with_reducible refine Calls.m c1 ?_);rintro e dk ⟨i,j,k,rfl,bj⟩;have c4:=bn.o _ _ _ _ _ _ _ _ hP.o bj.o)
    |((with_reducible refine Calls.m c4 ?_);rintro e dl ⟨O,rfl,bk⟩)
    |((with_reducible refine Calls.m (OP.o _ _ _ _ bk.o) ?_);rintro e ak ⟨a7,rfl,bl,c9⟩;obtain⟨d0,d2,d3,d4,d5,d8,d9,ae,aw⟩:=J.o _ _ bl.o)
    |((with_reducible refine Calls.m c9 ?_);rintro e ak ⟨rfl,V,bh⟩;obtain⟨d0,d2,d3,d4,d5,d8,d9,ae,aw⟩:=J.o _ _ V.o)
    |((with_reducible refine Calls.m (bh.o.1 σ) ?_);rintro e ak ⟨rfl,V⟩;obtain⟨d0,d2,d3,d4,d5,d8,d9,ae,aw⟩:=J.o _ _ V.o)
    |((with_reducible refine Calls.m (bh.o.2 σ) ?_);rintro e ak ⟨rfl,V⟩;obtain⟨d0,d2,d3,d4,d5,d8,d9,ae,aw⟩:=J.o _ _ V.o))
   refine cY (S:=(λX:World=>X.c q 8=some (.s x2 M.oth y2)/\X.c q 9=some (.i u)/\X.c q 2=some (.s x0 M.now y0)/\X.c q 3=some (.i v))) 13 κ ?_
   refine tks [(0,.p q 0),(1,.p q 0),(2,.p q 0),(3,.p q 8),(4,.agg #[.s x2 M.oth y2,.i u]),(5,.p q 0),(6,.p q 0),(7,.p q 2),(8,.p q 2),(9,.agg #[.s x0 M.now y0,.i v])] (by have:=J.o _ _ (aq.o _ _ V.o);grind) ?_
   iterate 10 (refine tk1 rfl ?_;try simp only[pS])
   refine tke ?_
   refine aR (i:=10) κ rfl (λK aa=>?_)
   go_simp
   go_at_call 53
   (with_reducible refine Calls.m (tV x2 x0 M.oth y2 M.now y0 u v ak.drew) ?_)
   rintro e al ⟨rfl,a6⟩
   have ap:=(show Hid _ from bm.o _ _ _ (aq.o _ _ V.o) a6)
   obtain⟨cj,dt,du⟩:=W.o _ _ ap.o
   obtain⟨d0,d2,d3,d4,d5,d8,d9,ae,aw⟩:=J.o _ _ ap.o
   have dv:=aF cj
   simp only[]
   refine aa.out _ _ (λ_=>⟨d8,d9,d2,d3⟩) ?_
   try simp only[pS]
   refine tks [(11,.p q 0),(12,.p q 2)] ⟨d8,d9,d2,d3⟩ ?_
   iterate 2 (refine tk1 rfl ?_;try simp only[pS])
   refine tke ?_
   obtain⟨l,b2⟩:=nM ((((((al.setCell (aD q 2) (.s x2 M.oth y2)).setCell (aD q 3) (.i u)).setCell (aD q 4) (.s x0 M.now y0)).setCell (aD q 5) (.i v)).setCell (aD q 6) .n).setCell (aD q 7) (.i 0))
   obtain⟨⟨⟨dn,dm⟩,cp⟩,c3⟩:=az.o al l ap.o b2
   refine aR (i:=13) κ rfl (λK aa=>?_)
   go_simp
   refine aa.out _ _ (λe=>by cases e) ?_
   try simp only[pS]
   refine dF κ ?_ _
   obtain⟨g,i0⟩:=nM (l.setCell (aD q 1) (.p D.d 0))
   obtain⟨g1,i1⟩:=nM (g.setCell (aD q 10) (.bool false))
   obtain⟨g2,i2⟩:=nM (g1.setCell (aD q 11) (.bool false))
   obtain⟨⟨⟨j1,k1⟩,k2,⟨j3,k3⟩,k4,⟨j5,k5⟩,k6⟩,c5⟩:=c3 g g1 g2 i0 i1 i2
   try rw[b2]
   go_wp2
   go_ret
   exact⟨rfl,(c5 _ rfl).1,.inr (c5 _ rfl).2⟩
  .have HT:tb=false/\mt=true:=by
    obtain⟨h,ad,am,ai⟩:=HH.o
    have e:mt=true:=by rw[am]at hp5;simpa using hp5
    exact⟨ex e,e⟩
   obtain⟨rfl,rfl⟩:=HT
   have HU:Hid (M.av=U):=ha
   clear ha
   have OP:Hid (∀X i j k,OqS w X q Bk K D M/\aA X i j k D.fs.calm/\(∀a,fpF i j k a->w<=a/\¬fpD D a)->cL 11 #[.p i 0] X λe w'=>∃a7:Nat,e=.r (.tuple #[.p a7 0,.i 0])/\Hid (OqS w w' q Bk K D M)/\(cL 52 #[.p q 0,.p a7 0,.agg #[.s x0 M.now y0,.i v]] w' λe bb=>e=.r (.bool false)/\Hid (OqS w bb q Bk K D M)/\Hid ((false=true->cL 52 #[.p q 0,.p a7 0,.agg #[.s x2 M.oth y2,.i u]] bb λe X=>e=.r (.bool true)/\Hid (OqS w X q Bk K D M))/\(true=true->cL 52 #[.p q 0,.p a7 0,.agg #[.s x1 M.ah y1,.i M.av]] bb λe X=>e=.r (.bool true)/\Hid (OqS w X q Bk K D M))))):=λX i j k b=>by
    obtain⟨h,-⟩:=HH.o
    have:=ar.o X D U N N i j k [] hP.o (η h.vB) (by have:=h.few.2;rw[<-ay,nR]at this;exact this) (.inr rfl) (AG _) (λe=>ω) b
    rw[EM ω]at this
    exact this.m (λe w' ⟨a,b,c,d⟩=>⟨a,b,c,d.m (λe w' ⟨a,b,c⟩=>⟨a,b,(λe=>by cases e),λ_=>by have:=c _ _ M.av (K2.o _ _ b.o).2.1 (λ_=>ay.symm);rw[CR HU.o]at this;exact this⟩)⟩)
   have az:Hid (∀X l,OqS w X q Bk K D M->(((((X.setCell (aD q 2) (.s x1 M.ah y1)).setCell (aD q 3) (.i M.av)).setCell (aD q 4) .n).setCell (aD q 5) (.i 0)).setCell (aD q 6) .n).setCell (aD q 7) (.i 0)=l->qPf n B w q Bk M D l):=λX l d hl=>by
    obtain⟨h,-⟩:=HH.o
    rw[HU.o]at hl
    have⟨_,k1,_⟩:=K2.o _ _ d
    exact d.fin (p:=[]) h hP.o (η h.vB) ay (.inr rfl) (λv' m e=>by have:=hm v' m;omega) (λ_=>.inr hp4) h.few.2 (AG _) (λx e=>by cases e) k1 ((KN (AO _ _ _ _)).m (λk a=>by simp[Value.ownBlock]at a)) hl
   clear HH ar
   go_wp2_with (first
    |((with_reducible refine Calls.m ca ?_);rintro e w' ⟨⟨ba,rfl⟩,aj⟩;subst w')
    |((with_reducible refine Calls.w R ?_))
    |((with_reducible refine Calls.m c1 ?_);rintro e dk ⟨i,j,k,rfl,bj⟩;have c4:=bn.o _ _ _ _ _ _ _ _ hP.o bj.o)
    |((with_reducible refine Calls.m c4 ?_);rintro e dl ⟨O,rfl,bk⟩)
    |((with_reducible refine Calls.m (OP.o _ _ _ _ bk.o) ?_);rintro e ak ⟨a7,rfl,bl,c9⟩;obtain⟨d0,d2,d3,d4,d5,d8,d9,ae,aw⟩:=J.o _ _ bl.o)
    |((with_reducible refine Calls.m c9 ?_);rintro e ak ⟨rfl,V,bh⟩;obtain⟨d0,d2,d3,d4,d5,d8,d9,ae,aw⟩:=J.o _ _ V.o)
    |((with_reducible refine Calls.m (bh.o.1 σ) ?_);rintro e ak ⟨rfl,V⟩;obtain⟨d0,d2,d3,d4,d5,d8,d9,ae,aw⟩:=J.o _ _ V.o)
    |((with_reducible refine Calls.m (bh.o.2 σ) ?_);rintro e ak ⟨rfl,V⟩;obtain⟨d0,d2,d3,d4,d5,d8,d9,ae,aw⟩:=J.o _ _ V.o)
    |((with_reducible refine Calls.m (tV x1 none M.ah y1 0 0 M.av 0 ak) ?_);rintro e al ⟨rfl,a6⟩;have ap:=(show Hid _ from bm.o _ _ _ V.o a6);obtain⟨cj,dt,du⟩:=W.o _ _ ap.o;obtain⟨d0,d2,d3,d4,d5,d8,d9,ae,aw⟩:=J.o _ _ ap.o;have dv:=aF cj;obtain⟨⟨⟨dn,dm⟩,cp⟩,c3⟩:=az.o al _ ap.o rfl;obtain⟨⟨⟨j1,k1⟩,k2,⟨j3,k3⟩,k4,⟨j5,k5⟩,k6⟩,c5⟩:=c3 _ _ _ rfl rfl rfl))
   go_ret
   exact⟨rfl,(c5 _ rfl).1,.inr (c5 _ rfl).2⟩
end
def FsQ(fs d:Fs):Prop:=d.safe=fs.safe/\d.late=fs.late/\d.failed=fs.failed/\d.dy
abbrev OpV.ob(c:OpV):Obj:=.cells c.cells 46
theorem qLl(f)(g:f=54\/f=55)(β sv lv fs n w)(h:aA w β sv lv fs)(e:fs.dy)(i:n<=9223372036854775807):
  cL f #[.p β 0,.i n] w λe w'=>(∃v,e=.r v)/\(∃d,FsQ fs d/\aA w' β sv lv d)/\Fr (Bl.one β) w w':=by
 have⟨a,b,c,d⟩:=e;rcases g with rfl|rfl
 .exact(qLm β sv lv fs n w h).m (λe w' ⟨k,⟨j,o,l⟩,m⟩=>⟨k,⟨{fs with wait:=j},⟨rfl,rfl,rfl,ζ,ζ,c,d⟩,l⟩,m⟩)
 .exact(qOy β sv lv fs n w h).m (λe w' ⟨k,⟨j,o,l⟩,m⟩=>⟨k,⟨{fs with life:=j},⟨rfl,rfl,rfl,a,b,ζ,ζ⟩,l⟩,m⟩)
section
variable {n B:Nat}{w w':World}{q:Nat}{Bk K:Bl}{D:Db}{v:Nat}{o ao:Option (Nat×T)}{ots:List (Option (Nat×T))}{M:RM}{β:Nat}{sv lv:Value}{fs d:Fs}
theorem Safe.refs(h:Safe n fs v o M)(e:FsQ fs d):Safe n d v o M:=by
 have⟨c,C,a,b⟩:=h;exact⟨c,C,by rw[e.1,e.2.1];exact a,b⟩
theorem qHb{s f:List ByteArray}(h:iB s [] f)(z:∀x∈s,x.size=256):f=s:=GB h.len (λi a b=>by have:=h.same z (p:=i) σ;grind)
theorem Md.crash(h:Md n fs v o M)(k:2<=n)(z:∀x∈fs.safe,x.size=256)(g:iB fs.safe fs.late d.safe)(l:d.late=[]):Md n d v o M:=by
 have c:fs.late=[]->d.safe=fs.safe:=λc=>qHb (c▸g) z
 have⟨a,b⟩:=h;refine⟨λx i=>(a x i).imp (λ_ S=>S.eq (c S.late) (l.trans S.late.symm)),?_⟩
 rcases b with⟨e,C,a,b⟩|⟨a,b,S⟩|⟨e,f,t,C,a,b⟩
 .exact .inl ⟨e,C,by rw[l];exact a.crash k g,b⟩
 .exact .inr (.inl ⟨a,b,S.eq (c S.late) l⟩)
 .exact .inr (.inr ⟨e,f,t,C,by rw[l];exact a.crash k g,b⟩)
theorem Md.refs(h:Md n fs v o M)(e:FsQ fs d):Md n d v o M:=by
 have⟨a,b⟩:=h;refine⟨λx g=>(a x g).imp (λ_ S=>S.eq e.1 e.2.1),?_⟩
 rcases b with a|⟨a,b,S⟩|⟨c,f,t,C,a,b⟩
 .exact .inl (a.refs e)
 .exact .inr (.inl ⟨a,b,S.eq e.1 (e.2.1.trans S.late)⟩)
 .exact .inr (.inr ⟨c,f,t,C,by rw[e.1,e.2.1];exact a,b⟩)
theorem Fl.refs(h:Fl B fs M)(e:FsQ fs d):Fl B d M:=by unfold Fl;rw[e.2.2.1];exact h
theorem Wd.refs(h:Wd n B w q Bk K D v o ao ots M)(e:FsQ D.fs d)(a:aA w' D.β D.sv D.lv d)(b:Fr (Bl.one D.β) w w'):Wd n B w' q Bk K {D with fs:=d} v o ao ots M:=by
 have g:Fr (fpF D.β D.sv D.lv) w w':=b.m (λf c=>.inl (.inl c));have l:=h.lk;exact{h with ref:=h.ref.aside g (λf c=>(h.apart f (.inr (.inl c))).1),lk:={l with db:=l.db.refile a g,well:=e.2.2.2,failed:=λc=>(l.failed c).eq e.1 e.2.1,store:=⟨by rw[e.1];exact l.store.len,by unfold bT;unfold Fs.at;rw[e.1,e.2.1];exact l.store.m0,l.store.sure.eq e.1 e.2.1,l.store.ahead.eq e.1 e.2.1⟩,each:=λi c=>{l.each i c with tr:=(l.each i c).tr.eq e.1 e.2.1}},safe:=h.safe.refs e,fl:=h.fl.refs e,book:=λf c=>⟨jY (h.book f c).1 b.size,(h.book f c).2⟩}
theorem Wc.refs(h:Wc n B w q Bk K β sv lv fs v o M)(e:FsQ fs d)(a:aA w' β sv lv d)(b:Fr (Bl.one β) w w'):Wc n B w' q Bk K β sv lv d v o M:=
 {h with ref:=h.ref.aside b (λf c=>(h.apart f (.inl c)).1),file:=a,well:=e.2.2.2,len:=by rw[e.1];exact h.len,sz:=by unfold Fs.fits;rw[e.1,e.2.1];exact h.sz,safe:=λa=>(h.safe a).refs e,fl:=h.fl.refs e,book:=λf c=>⟨jY (h.book f c).1 b.size,(h.book f c).2⟩}
theorem Wc.below(a:Wc n B w q Bk K β sv lv fs v o M)(b:bW w w'):Wc n B w' q Bk K β sv lv fs v o M:={a with ref:=a.ref.below b,file:=a.file.bl b,book:=λd c=>⟨jY (a.book d c).1 b.size,(a.book d c).2⟩}
theorem Lc.less{b:Bl}{vp:Value}(h:Lc n B w q Bk vp)(c:∀k,b k->Bk k):Lc n B w q b vp:=by
 have⟨K,y,t,u,m,v,o,M,a,d⟩:=h;exact⟨K,y,t,u,m,v,o,M,{a with apart:=λk e=>⟨(a.apart k e).1,λf=>(a.apart k e).2 (c k f)⟩,book:=λk e=>a.book k (c k e)},d⟩
theorem Wc.nil(h:Wc n B w q Bk K β sv lv fs v o M):Wc n B (w.setCell (aD q 1) (.pointer none)) q Bk K β sv lv fs v o {M with x:=.pointer none}/\On Bk w (w.setCell (aD q 1) (.pointer none)):=by
 have d:Fr (Bl.one q) w (w.setCell (aD q 1) (.pointer none)):=(AE (Bl.one q) w).s q 1;have i:=aC h.ref.box 1 (.pointer none);have⟨a,b⟩:=h.ref.keep d;exact⟨{h with ref:=h.ref.reobj (M':={M with x:=.pointer none}) d ζ (λb a=>a) b (h.ref.now.on a) (h.ref.ah.on a) (.inl ⟨rfl,rfl⟩),file:=h.file.on (d.on (λe c=>⟨h.file.lies e c,λf=>(h.apart e c).1 (.inr (.inl f))⟩)),book:=λg c=>⟨jY (h.book g c).1 d.size,(h.book g c).2⟩},d.on (λe c=>⟨(h.book e c).1,λf=>(h.book e c).2 (.inr (.inl f))⟩)⟩
theorem Wc.flag(h:Wc n B w q Bk K β sv lv fs v o M)(b){X:World}(e:((w.setCell (aD q 1) (.pointer none)).setCell (aD q 12) (.bool true)).setCell (aD q 13) (.bool b)=X):aV X K q {M with x:=.pointer none,p4:=.bool true,p5:=.bool b}/\aA X β sv lv fs/\On Bk w X:=by
 subst e;have d:Fr (Bl.one q) w (((w.setCell (aD q 1) (.pointer none)).setCell (aD q 12) (.bool true)).setCell (aD q 13) (.bool b)):=(((AE (Bl.one q) w).s q 1).s q 12).s q 13;have i:=aC (aC (aC h.ref.box 1 (.pointer none)) 12 (.bool true)) 13 (.bool b);have⟨a,k⟩:=h.ref.keep d;exact⟨h.ref.reobj (M':={M with x:=.pointer none,p4:=.bool true,p5:=.bool b}) d (by simp_all) (λb a=>a) k (h.ref.now.on a) (h.ref.ah.on a) (.inl ⟨rfl,rfl⟩),h.file.on (d.on (λe c=>⟨h.file.lies e c,λf=>(h.apart e c).1 (.inr (.inl f))⟩)),d.on (λe c=>⟨(h.book e c).1,λf=>(h.book e c).2 (.inr (.inl f))⟩)⟩
theorem qPa(h:Wc n B w q Bk K β sv lv fs v o M)(x:M.x=.pointer none)(ka kc)(f:List Int)(p:aH w Bk ka (f.map (.int .i64)))(l:f.length<=9223372036854775807):
  cL 16 #[.p β 0,.s ka f kc] w λe w'=>(∃v,e=.r v)/\On Bk w w'/\aV w' K q M/\Lc n B w' q Bk M.p9:=by
 have⟨a,b,c⟩:=h.sz;apply(qHc β sv lv fs ka kc f Bk w h.file (λj i=>a _ (AA i)) b c p (λd i=>⟨(h.book d i).1,λe=>(h.apart d e).2 i⟩) l).m;intro e w' ⟨i,s,g,d,m⟩;have R:=h.ref.aside m (λd c=>(h.apart d c).1);refine⟨i,m.on (λd c=>⟨(h.book d c).1,λe=>(h.apart d e).2 c⟩),R,K,β,sv,.n,_,v,o,M,{h with ref:=R,file:=d,well:=⟨LT _,σ,LT _,σ⟩,len:=g.len.t h.len,sz:=⟨g.sizes,nofun,nofun⟩,safe:=λa=>?_,fl:=h.fl,apart:=λd c=>h.apart d ?_,book:=λd c=>⟨jY (h.book d c).1 m.size,(h.book d c).2⟩},x,rfl⟩
 .exact(h.safe a).crash ω h.sz.1 g rfl
 .rcases c with c|c|c
  .exact .inl c
  .exact .inr (.inl c)
  .simp[Value.ownBlock]at c
theorem qKl(h:Md n fs v o M)(hn:40<=n)(E:v+1<524288)(g:M.p4=.bool false)(y:M.p2=.bool false)(p:Nat){M':RM}(A:M'={M with x:=.pointer none,p4:=.bool true,p5:=.bool (decide (p<2))})(e:(n<=p/\d=fs)\/(p<n/\∃k u,k<256/\(fs.safe.getD p ⟨#[]⟩).data.toList[k]?≠some u/\d={fs with safe:=lD fs.safe p k u})):Md n d v o M':=by
 subst A
 have⟨a,b⟩:=h;have⟨ao,S⟩:=a g y
 have⟨F,C,H,c1,c2,c3⟩:Safe n fs v o M:=by
  rcases b with b|⟨b,_⟩|⟨_,_,_,_,_,_,_,_,_,b,_⟩
  .exact b
  .grind
  grind
 have⟨u,y1,y2⟩:=c1
 have r:∃w,M.p1=.int .i64 w/\(M.p2=.bool true->w=v+1):=⟨u,y1,y2⟩
 have s:M.av=v->M.ah=M.now:=λe=>(c2 e).resolve_right (λe=>ζ)
 obtain⟨v1,c,m,-⟩:=S.hold
 have L:(v1+1=v/\kvB (aT ao)=M.ah/\M.av=v1)\/(v1=v/\ao=o):=by
  rcases c with c|⟨c,i⟩
  .exact .inl ⟨c,(c3 _ _ (H.store S ω E m c)).2.2 c⟩
  .exact .inr ⟨c,Fz (by rw[<-i];exact S.ahead.rooted) S.sure.rooted⟩
 refine⟨nofun,?_⟩
 rcases e with⟨e,rfl⟩|⟨e,k,u,B,D,rfl⟩
 .exact .inl ⟨F,C,H,r,λe=>.inl (s e),c3⟩
 .rcases Qz S e B D ω m c with⟨b,z⟩|f|⟨b,f⟩
  .grind
  .refine .inl ⟨_,_,by rw[show({fs with safe:=lD fs.safe p k u}:Fs).late=[] from S.late];exact f,r,λe=>.inl (s e),?_⟩
   grind
  .rcases L with⟨l,j,q⟩|⟨rfl,rfl⟩
   .exact .inr (.inr ⟨_,v1,ao,_,by rw[show({fs with safe:=lD fs.safe p k u}:Fs).late=[] from S.late];exact f,λv' t a=>.inl a,l,j,q,rfl,by show Value.bool (decide (p<2))=_;rw[CR ω],y⟩)
   .refine .inl ⟨_,_,by rw[show({fs with safe:=lD fs.safe p k u}:Fs).late=[] from S.late];exact f,r,λe=>.inl (s e),?_⟩
    simp
theorem qDv(β sv lv fs)(p k m:Int)(w)(h:aA w β sv lv fs)(c:fs.safe.length<=p):
  cL 57 #[.p β 0,.i p,.i k,.i m] w λe w'=>(∃v,e=.r v)/\w'=w:=by
 obtain⟨f,g,rfl⟩:=aG h.safe;have⟨d,c1,c2,c3,c4⟩:=cS h.box;have a:¬p<0:=ω
 have b:(fs.safe.length:Int)<=p:=c
 go_enter func57,ntmps57;go_wp2;exact BH (EU rfl _ _ _) rfl ⟨⟨_,rfl⟩,rfl⟩
theorem qNk{X:World}{M':RM}(h:Wc n B w q Bk K β sv lv fs v o M)(T:B<=400000)(S:M.p4=.bool false)(G:M.p2=.bool false)(p k:Nat)(m:Int)(f:M'={M with x:=.pointer none,p4:=.bool true,p5:=.bool (decide (p<2))})(R:aV X K q M')(F:aA X β sv lv fs)(A:On Bk w X)(H:k<256)(P:0<=m)(Q:m<255):
  cL 57 #[.p β 0,.i p,.i k,.i (1+m)] X λe w'=>(∃v,e=.r v)/\On Bk X w'/\aV w' K q M'/\Lc n B w' q Bk M.p9:=by
 have E:∀{w' d},((n<=p/\d=fs)\/(p<n/\∃k r,k<256/\(fs.safe.getD p ⟨#[]⟩).data.toList[k]?≠some r/\d={fs with safe:=lD fs.safe p k r}))->aA w' β sv lv d->Fr (fpF β sv lv) X w'->On Bk X w'/\aV w' K q M'/\Lc n B w' q Bk M.p9:=λ{w' d} e a b=>by
  have N:∀k,fpF β sv lv k->¬Bl.or K (fpR q M') k:=by rw[f];exact λk a=>(h.apart k a).1
  have o1:On Bk X w':=b.on (λk a=>⟨jY (h.book k a).1 A.size,λe=>(h.apart k e).2 a⟩)
  have C:=R.aside b N
  have⟨l,s2,s3⟩:=h.sz
  have D:d.late=fs.late/\d.failed=fs.failed/\(d.life=fs.life/\d.wait=fs.wait)/\d.safe.length=fs.safe/\∀s∈d.safe,s.size=256:=by
   rcases e with⟨_,rfl⟩|⟨e,k,r,_,_,rfl⟩
   .grind
   .refine⟨rfl,rfl,⟨rfl,rfl⟩,BQ,λs i=>?_⟩
    have I:p<fs.safe:=by rw[h.len];exact e
    rcases DS i with i|rfl
    .exact l s i
    .rw[wW,getD_in I];grind
  obtain⟨u,J,y,z,L⟩:=D
  refine⟨o1,C,K,β,sv,lv,d,v,o,M',⟨C,by rw[f];exact h.f,a,by unfold Fs.dy;rw[y.1,y.2];exact h.well,z.trans h.len,⟨L,ζ,by unfold Fs.fits;rw[u,z];exact s3⟩,λg=>qKl (h.safe g) g (η h.vB) S G p f e,by rw[f];exact h.nv,h.vB,by rw[f];exact h.now,by rw[f];exact h.few,ζ,by rw[f];unfold Fl;rw[J];exact h.fl,by rw[f];exact h.p1,by rw[f];exact h.br,?_,ζ,by rw[f];exact h.meta',by rw[f];exact h.apart,λk a=>⟨jY (h.book k a).1 (A.t o1).size,by rw[f];exact(h.book k a).2⟩⟩,by rw[f],by rw[f]⟩
  rw[f];by_cases hp:p<2
  .grind
  grind
 rcases BT p fs.safe with a|a
 .have e:=getD_in a
  refine(qDw β sv lv fs p k m X F P Q a H (h.sz.1 _ (AA a))).m ?_
  intro O w' ⟨j,t,b,c,d⟩
  exact⟨j,E (.inr ⟨by rw[<-h.len];exact a,k,t,H,ζ,rfl⟩) ζ d⟩
 .refine(qDv β sv lv fs p k (1+m) X F ω).m ?_
  intro O w' ⟨j,b⟩
  rw[b];exact⟨j,E (.inl ⟨by rw[<-h.len];exact a,rfl⟩) F (AE _ _)⟩
theorem qSm(c:OpV){R:World->Prop}(f:M.f=.p β 0)(i:(w.alloc c.ob).1[q]?=some M.obj)(j:q<w)(h:((c.kind=11\/c.kind=12)/\∀f,f=54\/f=55->∀X,bW (w.alloc c.ob) X->cL f #[.p β 0,.i c.n] X λe w'=>(∃v,e=.r v)/\Hid (w'.c q 0=some (.p β 0)/\w'.c w 4=some (.i c.n)/\R w'))\/(c.kind=13/\∀X,bW ((w.alloc c.ob).setCell (aD q 1) (.pointer none)) X->cL 16 #[.p β 0,.s c.ka c.kn c.kc] X λe w'=>(∃v,e=.r v)/\Hid (w'.c q 0=some (.p β 0)/\w'.c w 6=some (.s c.ka c.kn c.kc)/\R w'))):
  cL 21 #[.p q 0,.agg c.cells] w λe w'=>(∃v,e=.r v)/\R w':=by
 have⟨A,m,P,Q,o,n,s,x,t⟩:=c;have k:=aB w (OpV.ob ⟨A,m,P,Q,o,n,s,x,t⟩);dsimp only[OpV.ob]at h k i;have⟨g,E⟩:=nM (w.alloc (.cells #[.i A,.i m,.t P,.t Q,.i o,.bool n,.s s x t] 46));rw[E]at h k i;have F:q≠w:=ω
 have y:Hid (∀X,bW g X->X.c q 0=some (.p β 0)/\X.c w 4=some (.i o)):=λX b=>by
  have a:=(dC (b.kp i)).1;rw[f]at a;exact⟨a,(dO (b.kp k)).2.2.2.2.1⟩
 have⟨d,C⟩:=nM (g.setCell (aD q 1) (.pointer none));have u:=aC i 1 (.pointer none);rw[C]at u h;have B:cW d w #[.i A,.i m,.t P,.t Q,.i o,.bool n,.s s x t] 46:=C▸((AE (Bl.one q) g).s q 1).heap k (λe=>F e.symm);have D:Hid (∀X,bW d X->X.c q 0=some (.p β 0)/\X.c w 6=some (.s s x t)):=λX b=>by
  have a:X.c q 0=some M.f:=by simp[World.cell?,b.kp u]
  rw[f]at a;exact⟨a,(dO (b.kp B)).2.2.2.2.2.2⟩
 have I:=aF i;have G:=(dC i).2.1;have J:=(dO k).1;have p:bW g g:=AC _ _;have z:bW d d:=AC _ _;have⟨K,L⟩:=y g p;have⟨N,O⟩:=D d z;rcases h with⟨rfl|rfl,H⟩|⟨rfl,H⟩
 .have r:Hid _:=H 54 (.inl rfl);go_enter func21,ntmps21;go_wp2
  go_region_held3 (λX=>X.c q 0=some (.p β 0)/\X.c w 4=some (.i o))
   (first|exact y _ p.drew|exact⟨l.1,l.2.1⟩)
   ((go_at_call 54;apply Calls.m (r _ p.drew);rintro e b ⟨⟨v,rfl⟩,l⟩))
  all_goals go_wp2
  all_goals go_end0
  all_goals exact⟨⟨_,rfl⟩,l.2.2⟩
 .have r:Hid _:=H 55 (.inr rfl);go_enter func21,ntmps21;go_wp2
  go_region_held3 (λX=>X.c q 0=some (.p β 0)/\X.c w 4=some (.i o))
   (first|exact y _ p.drew|exact⟨l.1,l.2.1⟩)
   ((go_at_call 55;apply Calls.m (r _ p.drew);rintro e b ⟨⟨v,rfl⟩,l⟩))
  all_goals go_wp2
  all_goals go_end0
  all_goals exact⟨⟨_,rfl⟩,l.2.2⟩
 .have r:Hid _:=H;go_enter func21,ntmps21;go_wp2
  go_region_held3 (λX=>X.c q 0=some (.p β 0)/\X.c w 6=some (.s s x t))
   (first|exact D _ z.drew|exact⟨l.1,l.2.1⟩)
   ((go_at_call 16;apply Calls.m (r _ z.drew);rintro e b ⟨⟨v,rfl⟩,l⟩))
  all_goals go_wp2
  all_goals go_end0
  all_goals exact⟨⟨_,rfl⟩,l.2.2⟩
end
open Go.Shelf
attribute [local go_sem] CE
section
variable {n B:Nat}{w w':World}{q:Nat}{M:RM}{β:Nat}
theorem qRt(c:OpV){R:World->Prop}{A y r:Bool}(f:M.f=.p β 0)(i:(w.alloc c.ob).1[q]?=some M.obj)(j:q<w)(e:c.kind=14)(I:Kl c)(a8:M.p4=.bool A)(aj:M.p3=.bool y)(ai:M.p2=.bool r)(hn:(A||y||r)=true->R (w.alloc c.ob))(D:(A||y||r)=false->∀(p k m:Int) X,0<=p->0<=k->k<256->0<=m->m<255->bW ((((w.alloc c.ob).setCell (aD q 1) (.pointer none)).setCell (aD q 12) (.bool true)).setCell (aD q 13) (.bool (decide (p<2)))) X->cL 57 #[.p β 0,.i p,.i k,.i (1+m)] X λe w'=>(∃v,e=.r v)/\Hid (w'.c q 0=some (.p β 0)/\w'.c w 4=some (.i c.n)/\R w')):
  cL 21 #[.p q 0,.agg c.cells] w λe w'=>(∃v,e=.r v)/\R w':=by
 obtain⟨z,a1,P,Q,d,ab,s,x,t⟩:=c;obtain rfl:z=14:=e;have⟨aa,n1,t0,t1⟩:=I;dsimp only at aa n1 t0 t1;have k:=aB w (OpV.ob ⟨14,a1,P,Q,d,ab,s,x,t⟩);dsimp only[OpV.ob]at hn D k i;have⟨g,E⟩:=nM (w.alloc (.cells #[.i 14,.i a1,.t P,.t Q,.i d,.bool ab,.s s x t] 46));rw[E]at hn D k i;have Y:w≠q:=ω;obtain⟨a4,af,_,_,_,_,_,_,_,_,a5,a6,a7,ah⟩:=dC i;rw[f]at a4;rw[ai]at a5;rw[aj]at a6;rw[a8]at a7;have J:=(dO k).1;have am:=aF i
 cases hb:(A||y||r)
 .obtain⟨rfl,rfl,rfl⟩:A=false/\y=false/\r=false:=by cases A<;>cases y<;>cases r<;>simp at hb⊢
  have L:=aC i 1 (.pointer none);have G:=((AE (Bl.one q) g).s q 1 (u:=.pointer none)).heap k (λe=>Y e);obtain⟨F,ac⟩:=nM (g.setCell (aD q 1) (.pointer none));rw[ac]at L G D;have N:=aC L 12 (.bool true);have O:=((AE (Bl.one q) F).s q 12 (u:=.bool true)).heap G (λe=>Y e);obtain⟨B,ad⟩:=nM (F.setCell (aD q 12) (.bool true));rw[ad]at N O D;have ak:=aF L
  have al:=aF N
  have ag:F.c q 12=some (.bool false):=by simp[World.cell?,L,a8]
  have Z:∃v,B.c q 13=some v:=⟨M.p5,by simp[World.cell?,N]⟩;obtain⟨b2,Z⟩:=Z;have ax:=(dO O).2.1;have a3:Hid _:=D rfl
  go_enter func21,ntmps21;go_wp2_with (first
   |(apply Calls.m (yX a1 60 B t0 t1 δ);rintro e w' ⟨p,aw,b1,rfl,a9⟩;subst w';have U:=aC N 13 (.bool (decide (p<2)));have T:=((AE (Bl.one q) B).s q 13 (u:=.bool (decide (p<2)))).heap O (λe=>Y e);obtain⟨C,a2⟩:=nM (B.setCell (aD q 13) (.bool (decide (p<2))));rw[a2]at U T))
  have W:Hid (∀X,bW C X->X.c q 0=some (.p β 0)/\X.c w 4=some (.i d)):=λX b=>by
   have a:X.c q 0=some M.f:=by simp[World.cell?,b.kp U]
   rw[f]at a;exact⟨a,(dO (b.kp T)).2.2.2.2.1⟩
  have V:bW C C:=AC _ _
  have ae:Hid (∀k m,0<=k->k<256->0<=m->m<255->cL 57 #[.p β 0,.i p,.i k,.i (1+m)] C.drew λe w'=>(∃v,e=.r v)/\Hid (w'.c q 0=some (.p β 0)/\w'.c w 4=some (.i d)/\R w')):=λk m an ao ap aq=>a3.o p k m _ aw an ao ap aq (a2▸V.drew);have a0:Hid (-9223372036854775808<=d.tdiv 256/\d.tdiv 256<=9223372036854775807):=by
   show _/\_;rcases JY d 0 with a|a
   .have:d.tdiv 256=-((-d)/256):=by rw[<-KD ω,Int.neg_tdiv,Int.neg_neg]
    omega
   .rw[KD a];omega
  have ay:IntKind.i64.wrap (d.tdiv 256)=d.tdiv 256:=by have:=a0.o;rw[CQ];omega
  clear D a3 L N U G O T;clear a4 af a5 a6 a7 ah J am ak al ag Z ax hn hb;refine wp_region_held_drew (S:=(λX=>X.c q 0=some (.p β 0)/\X.c w 4=some (.i d))) κ (W.o _ V.drew) (λb0=>?_);change wpAnyH _ _ _ _ _ 14 (.replicate 14 false) _ _;apply cG.take [(0,72,.p q 0),(1,73,.p q 0),(2,74,.p q 0),(3,75,.p β 0),(4,76,.i p),(5,77,.p w 4),(6,78,.i d),(8,80,.p w 4),(9,81,.i d),(10,82,.i (d.tdiv 256))] (n:=4) κ ψ
  iterate 10 (refine⟨_,rfl,rfl,κ,λ_ _ _ h=>h,τ,?_⟩;simp only[pS])
  rw[cG];refine wH1 (i:=7) κ rfl λK o=>?_;go_simp;apply Calls.m (yX d 256 _ aa n1 δ);rintro e w' ⟨k,ar,G,rfl,a9⟩;subst w';refine o _ _ (W.o _ V.drew) (λ_=>?_);clear o K;try simp only[pS]
  refine wH1 (i:=11) κ rfl λK o=>?_;go_simp;apply Calls.m (yX (d.tdiv 256) 255 _ a0.o.1 a0.o.2 δ);rintro e w' ⟨m,au,av,rfl,a9⟩;subst w';refine o _ _ (W.o _ V.drew) (λ_=>?_);clear o K;try simp only[pS]
  have az:IntKind.i64.wrap (1+m)=1+m:=by rw[CQ];omega
  apply cG.take [(12,84,.i (1+m))] (n:=1) κ ψ
  iterate 1 (refine⟨_,rfl,rfl,κ,λ_ _ _ h=>h,τ,?_⟩;simp only[pS])
  rw[cG];refine wH1 (i:=13) κ rfl λK o=>?_;go_simp;apply Calls.m (ae.o k m ar G au av);rintro e b ⟨⟨v,rfl⟩,l⟩;refine o _ _ ⟨l.o.1,l.o.2.1⟩ (λ_=>?_);clear o K;try simp only[pS]
  refine wpAnyH_done κ ?_ _;go_wp2;go_end0;exact⟨⟨_,rfl⟩,l.o.2.2⟩
 .have H:=hn hb;go_enter func21,ntmps21
  cases A<;>cases y<;>cases r;all_goals first|(cases hb;done)|skip
  all_goals go_wp2
  all_goals go_end0
  all_goals exact⟨⟨_,rfl⟩,H⟩
end
variable {B B' n:Nat} {w:World}
theorem Lk.up {D v o ao ots M}(h:Lk n B w D v o ao ots M)(a:B<=B'):Lk n B' w D v o ao ots M:=h.more h.db a
theorem Lw.up {q Bk vp}(h:Lw n B w q Bk vp)(c:B<=B'):Lw n B' w q Bk vp:=by
 have⟨K,D,v,o,l,j,M,a,b⟩:=h;exact⟨K,D,v,o,l,j,M,{a with lk:=a.lk.up c,fl:=a.fl.more c},b⟩
theorem Lc.up {q Bk vp}(h:Lc n B w q Bk vp)(b:B<=B'):Lc n B' w q Bk vp:=by
 have⟨K,t,l,s,j,v,o,M,a,c⟩:=h;exact⟨K,t,l,s,j,v,o,M,{a with vB:=vJ a.vB b,few:=⟨vJ a.few.1 b,vJ a.few.2 b⟩,fl:=a.fl.more b},c⟩
structure qSc (c:OpV):Prop where
 ok:Kl c
 p:c.p.size<=2000000
 q:c.q.size<=2000000
 k:c.kind<=14
def qBd(w:World)(Ar:Bl)(c:OpV):Prop:=∃keep:List Int,c.kn=keep.length/\aH w Ar c.ka (keep.map (.int .i64))/\keep.length<=9223372036854775807
def LSt(n B:Nat)(w:World)(q:Nat)(Ar:Bl):Prop:=∃Bk vp ps,((Lw n B w q Bk vp/\40<=n)\/Lc n B w q Bk vp)/\jW w vp ps/\ps.length<=4 * B/\(∀k,fpK vp ps k->Bk k/\¬Ar k)/\∀k,Ar k->Bk k
section
variable {n B:Nat}{w w':World}{q:Nat}{Bk K Ar:Bl}{D:Db}{v:Nat}{o ao:Option (Nat×T)}{ots:List (Option (Nat×T))}{M:RM}{ps:List Value}
theorem LSt.of(f:jW w M.p9 ps)(h:ps<=4 * B)(b:∀k,fpK M.p9 ps k->Bk k/\¬Ar k)(a:∀k,Ar k->Bk k)(c:On Bk w w')(g:(Lw n (B+1) w' q Bk M.p9/\40<=n)\/Lc n (B+1) w' q Bk M.p9):On Ar w w'/\LSt n (B+1) w' q Ar :=
 ⟨c.m a,Bk,M.p9,ps,g,f.on (c.m (λk d=>(b k d).1)),ω,b,a⟩
theorem Wc.box{β:Nat}{sv lv:Value}{fs:Fs}(h:Wc n B w q Bk K β sv lv fs v o M)(e):Wc n B (w.alloc e) q (Bl.or Bk (Bl.one w)) K β sv lv fs v o M:=by
 have d:bW w (w.alloc e):=bA _ _;refine{h with ref:=h.ref.below d,file:=h.file.bl d,apart:=λc a=>⟨(h.apart c a).1,λb=>?_⟩,book:=λc a=>?_}
 .rcases b with b|b
  .exact(h.apart c a).2 b
  .cases b;have:=h.file.lies _ a;omega
 .rcases a with a|a
  .exact⟨jY (h.book c a).1 d.size,(h.book c a).2⟩
  .cases a;exact⟨σ,λb=>by have:=h.ref.lies _ b;omega⟩
theorem Jg(b)(c:jW w M.p9 ps)(f:∀k,fpK M.p9 ps k->Bk k/\¬Ar k)(d:∀k,Ar k->Bk k)(g:lW Bk w):jW (w.alloc b) M.p9 ps/\(∀k,fpK M.p9 ps k->Bl.or Bk (Bl.one w) k/\¬Ar k)/\(∀k,Ar k->Bl.or Bk (Bl.one w) k)/\On Ar w (w.alloc b):=by
 have e:bW w (w.alloc b):=bA _ _;exact⟨c.bl e,λk a=>⟨.inl (f k a).1,(f k a).2⟩,λk a=>.inl (d k a),vV e (λk a=>g k (d k a))⟩
abbrev Tru(R:World->Prop):Ending->World->Prop:=λe w'=>e=.returned (.bool true)/\R w'
abbrev OpD(w:World)(b:Nat)(c:OpV):Prop:=w.c b 1=some (.i c.tx)/\w.c b 2=some (.string c.p)/\w.c b 3=some (.string c.q)/\w.c b 5=some (.bool c.wr)
abbrev OpC(w:World)(q d b:Nat)(c:OpV):Prop:=w.c q 1=some (.p d 0)/\OpD w b c
section
variable {d:Nat} (c:OpV) {R:World->Prop}
theorem kP(h:(c.kind=1/\cL 20 #[.p q 0] (w.alloc c.ob) (Tru R))\/((w.alloc c.ob).c q 1=some (.p d 0)/\(((c.kind=3\/c.kind=4)/\cL 23 #[.p q 0,.agg c.cells] (w.alloc c.ob) (Tru R))\/(c.kind=5/\cL 24 #[.p q 0,.agg c.cells] (w.alloc c.ob) (Tru R))\/(c.kind=7/\cL 26 #[.p q 0,.agg c.cells] (w.alloc c.ob) (Tru R))\/(c.kind=9/\cL 29 #[.p q 0,.agg c.cells] (w.alloc c.ob) (Tru R))))):
  cL 9 #[.p q 0,.agg c.cells] w (Tru R):=by
 have⟨l,n,P,Q,g,o,j,m,k⟩:=c;have f:=aB w (OpV.ob ⟨l,n,P,Q,g,o,j,m,k⟩);dsimp only[OpV.ob]at h f;have⟨i,p⟩:=nM (w.alloc (.cells #[.i l,.i n,.t P,.t Q,.i g,.bool o,.s j m k] 46));rw[p]at h f;have⟨r,s,t,u,v,x,y⟩:=dO f;rcases h with⟨rfl,H⟩|⟨z,⟨rfl|rfl,H⟩|⟨rfl,H⟩|⟨rfl,H⟩|⟨rfl,H⟩⟩
 all_goals
  go_enter func9,ntmps9;go_wp2_with (first
   |(apply Calls.m H;rintro b e ⟨rfl,a⟩)
   |(apply Calls.m H;rintro b e ⟨rfl,a⟩)
   |(apply Calls.m H;rintro b e ⟨rfl,a⟩)
   |(apply Calls.m H;rintro b e ⟨rfl,a⟩)
   |(apply Calls.m H;rintro b e ⟨rfl,a⟩))
  go_ret;exact⟨rfl,a⟩
theorem Ky(h:(c.kind≠1/\c.kind<=10/\(w.alloc c.ob).c q 1=some (.pointer none))\/(c.kind<1/\(w.alloc c.ob).c q 1=some (.p d 0)))(b:R (w.alloc c.ob)):
  cL 9 #[.p q 0,.agg c.cells] w (Tru R):=by
 have⟨a,l,P,Q,f,m,i,k,j⟩:=c
 have e:=aB w (OpV.ob ⟨a,l,P,Q,f,m,i,k,j⟩)
 dsimp only[OpV.ob]at h e b
 have⟨g,n⟩:=nM (w.alloc (.cells #[.i a,.i l,.t P,.t Q,.i f,.bool m,.s i k j] 46))
 rw[n]at h e b
 have⟨D,E,F,G,H,I,J⟩:=dO e
 have p:(a==1)=false:=by rcases h with h|h<;>simp<;>omega
 have s:¬(11:Int)<=a:=by rcases h with h|h<;>omega
 rcases h with⟨_,_,o⟩|⟨C,o⟩
 .go_enter func9,ntmps9
  go_wp2
  go_ret
  exact⟨rfl,b⟩
 .have t:(a==2)=false:=χ
  have y:(a==3)=false:=χ
  have v:(a==4)=false:=χ
  have x:(a==5)=false:=χ
  have z:(a==6)=false:=χ
  have A:(a==7)=false:=χ
  have r:(a==8)=false:=χ
  have B:(a==9)=false:=χ
  have u:(a==10)=false:=χ
  go_enter func9,ntmps9
  go_wp2
  go_ret
  exact⟨rfl,b⟩
theorem Au(k:∀X,Below (w.alloc c.ob) (w.alloc c.ob) X->OpC X q d w c){v:Value}(h:(∃a z,v=.tuple #[.i a,.i z]/\c.kind=2/\∀X,Below (w.alloc c.ob) (w.alloc c.ob) X->cL 12 #[.p d 0,.bool c.wr] X λe b=>e=.r v/\Hid (∀Y,bW b Y->OpC Y q d w c/\cL 22 #[.p q 2,.bool c.wr] Y λe w'=>e=.r v/\Hid (OpD w' w c/\R w'))) \/
   (∃z,v=.i z/\((c.kind=6/\∀X,Below (w.alloc c.ob) (w.alloc c.ob) X->cL 13 #[.p d 0,.i c.tx,.t c.p,.t c.q] X λe b=>e=.r v/\Hid (∀Y,bW b Y->OpC Y q d w c/\cL 25 #[.p q 2,.i c.tx,.t c.p,.t c.q] Y λe w'=>e=.r v/\Hid (OpD w' w c/\R w'))) \/
    (c.kind=8/\∀X,Below (w.alloc c.ob) (w.alloc c.ob) X->cL 27 #[.p d 0,.i c.tx] X λe b=>e=.r v/\Hid (∀Y,bW b Y->OpC Y q d w c/\cL 28 #[.p q 2,.i c.tx] Y λe w'=>e=.r v/\Hid (OpD w' w c/\R w')))))):
  cL 9 #[.p q 0,.agg c.cells] w (Tru R):=by
 have⟨A,m,P,Q,y,n,s,x,t⟩:=c;have o:=aB w (OpV.ob ⟨A,m,P,Q,y,n,s,x,t⟩);dsimp only[OpV.ob,OpC,OpD]at h o k;have⟨g,G⟩:=nM (w.alloc (.cells #[.i A,.i m,.t P,.t Q,.i y,.bool n,.s s x t] 46));rw[G]at h o k;have F:Hid _:=k;have i:bW g g:=AC _ _;have I:=(dO o).1;have⟨E,r,B,C,D⟩:=k g i;rcases h with⟨a,z,rfl,rfl,H⟩|⟨z,rfl,⟨rfl,H⟩|⟨rfl,H⟩⟩
 all_goals
  have p:Hid _:=H;go_enter func9,ntmps9;go_wp2
  go_region_held3 (λX=>X.c q 1=some (.p d 0)/\X.c w 1=some (.i m)/\X.c w 2=some (.t P)/\X.c w 3=some (.t Q)/\X.c w 5=some (.bool n))
   (first|exact F _ i.drew|exact(f _ (AC _ _)).1)
   (first
    |(go_at_call 12;apply Calls.m (p _ i.drew);rintro e b ⟨rfl,f⟩)
    |(go_at_call 13;apply Calls.m (p _ i.drew);rintro e b ⟨rfl,f⟩)
    |(go_at_call 27;apply Calls.m (p _ i.drew);rintro e b ⟨rfl,f⟩))
  all_goals
   have j:bW b b:=AC _ _;have⟨E,r,B,C,D⟩:=(f b j).1;go_wp2
   go_region_held3 (λX=>X.c w 1=some (.i m)/\X.c w 2=some (.t P)/\X.c w 3=some (.t Q)/\X.c w 5=some (.bool n))
    (first|exact(f _ j.drew).1.2|exact l.1)
    (first
     |(go_at_call 22;apply Calls.m (f _ j.drew).2;rintro e u ⟨rfl,l⟩)
     |(go_at_call 25;apply Calls.m (f _ j.drew).2;rintro e u ⟨rfl,l⟩)
     |(go_at_call 28;apply Calls.m (f _ j.drew).2;rintro e u ⟨rfl,l⟩))
   all_goals go_wp2
   all_goals go_ret
   all_goals exact⟨rfl,l.2⟩
theorem qIf{v:Nat}(p:c.kind=10)(k:(w.alloc c.ob).c q 1=some (.p d 0))(h:cL 18 #[.p d 0] (w.alloc c.ob) λe w'=>e=.r (.i v)/\w'.c q 3=some (.i v)/\R w'):
  cL 9 #[.p q 0,.agg c.cells] w (Tru R):=by
 have⟨r,l,P,Q,b,m,g,j,i⟩:=c;obtain rfl:r=10:=p;have a:=aB w (OpV.ob ⟨10,l,P,Q,b,m,g,j,i⟩);dsimp only[OpV.ob]at h a k;have⟨f,o⟩:=nM (w.alloc (.cells #[.i 10,.i l,.t P,.t Q,.i b,.bool m,.s g j i] 46));rw[o]at h a k;have s:=(dO a).1;go_enter func9,ntmps9;go_wp2_with (apply Calls.m h;rintro e u ⟨rfl,t,n⟩);go_ret;exact⟨rfl,n⟩
theorem Qv(b:11<=c.kind)(h:cL 21 #[.p q 0,.agg c.cells] (w.alloc c.ob) λe w'=>(∃v,e=.r v)/\R w'):
  cL 9 #[.p q 0,.agg c.cells] w (Tru R):=by
 obtain⟨d,l,P,Q,f,m,g,k,i⟩:=c;dsimp only at b;have a:=aB w (OpV.ob ⟨d,l,P,Q,f,m,g,k,i⟩);dsimp only[OpV.ob]at h a;have⟨j,o⟩:=nM (w.alloc (.cells #[.i d,.i l,.t P,.t Q,.i f,.bool m,.s g k i] 46));rw[o]at h a;have⟨s,A,B,C,D,E,F⟩:=dO a;have t:(d==1)=false:=χ
 go_enter func9,ntmps9;go_wp2_with (apply Calls.m h;rintro e p ⟨⟨v,rfl⟩,n⟩);go_ret;exact⟨rfl,n⟩
end
theorem qIg(h:LSt n B w q Ar)(m:B<=390000)(C:n<=4096)(c)(I:qSc c)(kp:qBd w Ar c):
  cL 9 #[.p q 0,.agg c.cells] w λe w'=>e=.r (.bool true)/\On Ar w w'/\LSt n (B+1) w' q Ar:=by
 have⟨Bk,vp,ps,s,Q,J,i,V⟩:=h;have ah:=I.k;have m':B<=400000:=ω
 have ac:∀{K:Bl}{β:Nat}{sv lv:Value}{fs:Fs}{v:Nat}{o:Option (Nat×T)}{M:RM},Wc n B w q Bk K β sv lv fs v o M->M.p9=vp->cL 20 #[.p q 0] (w.alloc c.ob) (Tru λw'=>On Ar w w'/\LSt n (B+1) w' q Ar):=λk e=>by
  subst e;have⟨y,A,z,E⟩:=Jg c.ob Q i V (λj i=>(k.book j i).1);rcases BT n 40 with C|C
  .apply(qFe (k.box c.ob) C).m;rintro e w' ⟨rfl,t,s⟩;have⟨a,b⟩:=LSt.of y J A z t (.inr (s.up (DM B)));exact⟨rfl,E.t a,b⟩
  .apply(qFf (k.box c.ob) m C).m;rintro e w' ⟨rfl,t,s⟩;have⟨a,b⟩:=LSt.of y J A z t (s.elim .inr (λs=>.inl ⟨s,C⟩));exact⟨rfl,E.t a,b⟩
 have hc:∀{K:Bl}{β:Nat}{sv lv:Value}{fs:Fs}{v:Nat}{o:Option (Nat×T)}{M:RM},Wc n B w q Bk K β sv lv fs v o M->M.p9=vp->((Lw n (B+1) ((w.alloc c.ob).alloc c.ob) q Bk M.p9/\40<=n)\/Lc n (B+1) ((w.alloc c.ob).alloc c.ob) q Bk M.p9)->(c.kind=11\/c.kind=12->∀f,f=54\/f=55->∀X,bW ((w.alloc c.ob).alloc c.ob) X->cL f #[.p β 0,.i c.n] X λe w'=>(∃v,e=.r v)/\aV w' K q M/\On (Bl.or (Bl.or Bk (Bl.one w)) (Bl.one (w.alloc c.ob))) X w'/\((Lw n (B+1) w' q Bk M.p9/\40<=n)\/Lc n (B+1) w' q Bk M.p9))->11<=c.kind->cL 9 #[.p q 0,.agg c.cells] w λe w'=>e=.r (.bool true)/\On Ar w w'/\LSt n (B+1) w' q Ar:=λ{K β sv lv fs v o M} k e hz hfd hk=>by
  subst e;have E:=(vV ((AC w w).alloc (jU _) c.ob) (λj a=>(k.book j a).1)).t (vV (Y:=Bk) ((AC _ (w.alloc c.ob)).alloc (jU _) c.ob) (λj a=>by have:=(k.book j a).1;simp;omega));have f:=(k.box c.ob).box c.ob;have ql:=k.ref.lies q (.inr (.inl rfl));have fin:∀{w'},On Bk w w'->((Lw n (B+1) w' q Bk M.p9/\40<=n)\/Lc n (B+1) w' q Bk M.p9)->On Ar w w'/\LSt n (B+1) w' q Ar:=λt s=>LSt.of Q J i V t s;have ar:∀{X:World},On (Bl.or (Bl.or Bk (Bl.one w)) (Bl.one (w.alloc c.ob))) ((w.alloc c.ob).alloc c.ob) X->On Bk w X/\cW X (w.alloc c.ob) c.cells 46:=λt=>⟨E.t (t.m (λj a=>.inl (.inl a))),t.heap (aB (w.alloc c.ob) c.ob) (.inr rfl)⟩;by_cases h14:c.kind=14
  .obtain⟨s4,e4⟩:=k.spoiled;obtain⟨s3,e3⟩:=k.br;obtain⟨s2,e2⟩:=k.tw;refine Qv c hk (qRt (M:=M) (β:=β) c k.f f.ref.box χ h14 I.ok e4 e3 e2 (λ_=>fin E hz) (λhb p r u X p0 r0 r1 u0 u1 b=>?_));obtain⟨rfl,rfl,rfl⟩:s4=false/\s3=false/\s2=false:=by cases s4<;>cases s3<;>cases s2<;>simp at hb⊢
   obtain⟨p,rfl⟩:=Int.eq_ofNat_of_zero_le p0;obtain⟨r,rfl⟩:=Int.eq_ofNat_of_zero_le r0;have hd:decide ((p:Int)<2)=decide (p<2):=KT.2 ω
   rw[hd]at b;have⟨g1,g2,g3⟩:=f.flag (decide (p<2)) rfl;have g4:=g3.t (vV b (λj a=>jY (f.book j a).1 g3.size));apply(qNk f m' e4 e2 p r u rfl (g1.below b) (g2.bl b) g4 ω u0 u1).m;intro _ w' ⟨hv,t,R,s⟩;have⟨y1,y2⟩:=ar (g4.t t);exact⟨hv,by rw[(dC R.box).1];exact BR some k.f,(dO y2).2.2.2.2.1,fin y1 (.inr ((s.less (λj a=>.inl (.inl a))).up (DM B)))⟩
  refine Qv c hk (qSm (M:=M) (β:=β) c k.f f.ref.box χ ?_);have:c.kind=11\/c.kind=12\/c.kind=13:=ω;rcases or_assoc.2 this with e|e
  .refine .inl ⟨e,λg hg X b=>(hfd e g hg X b).m ?_⟩;intro _ w' ⟨hv,R,t,s⟩;have⟨y1,y2⟩:=ar ((vV b (λj a=>(f.book j a).1)).t t);exact⟨hv,by rw[(dC R.box).1,k.f],(dO y2).2.2.2.2.1,fin y1 s⟩
  .have⟨f1,o1⟩:=f.nil;refine .inr ⟨e,λX b=>?_⟩;have o2:=o1.t (vV b (λj a=>(f1.book j a).1));have⟨aq,k1,k2,k3⟩:=kp;rw[k1];apply(qPa (f1.below b) rfl c.ka c.kc aq ((k2.on (E.m V)).m (λj a=>.inl (.inl (V j a))) |>.on o2) k3).m;intro _ w' ⟨hv,t,R,s⟩;have⟨y1,y2⟩:=ar (o2.t t);exact⟨hv,by rw[(dC R.box).1];exact BR some k.f,k1▸(dO y2).2.2.2.2.2.2,fin y1 (.inr ((s.less (λj a=>.inl (.inl a))).up (DM B)))⟩
 rcases s with⟨⟨K,D,v,o,ao,ap,M,k,rfl⟩,a4⟩|⟨K,β,sv,lv,fs,v,o,M,k,a9,rfl⟩
 .have⟨y,A,z,E⟩:=Jg c.ob Q i V (λj i=>(k.book j i).1);have f:=k.box c.ob;have F:=(dC f.ref.box).2.1.t (by rw[k.x]);have ad:=aB w c.ob;have H:∀{w'},On (Bl.or Bk (Bl.one w)) (w.alloc c.ob) w'->Lw n (B+1) w' q (Bl.or Bk (Bl.one w)) M.p9->On Ar w w'/\LSt n (B+1) w' q Ar:=λt s=>by
   have⟨a,b⟩:=LSt.of y J A z t (.inl ⟨s,a4⟩);exact⟨E.t a,b⟩
  have a2:∀{G:Nat}{L:Array Value},(cL G L (w.alloc c.ob) λe w'=>e=.r (.bool true)/\On (Bl.or Bk (Bl.one w)) (w.alloc c.ob) w'/\Lw n (B+1) w' q (Bl.or Bk (Bl.one w)) M.p9)->cL G L (w.alloc c.ob) (Tru λw'=>On Ar w w'/\LSt n (B+1) w' q Ar):=λh=>h.m (λe w' h=>⟨h.1,H h.2.1 h.2.2⟩);have a6:∀{X ag},aV X ag q M->On (Bl.or Bk (Bl.one w)) (w.alloc c.ob) X->OpC X q D.d w c:=λR t=>by
   have⟨_,W,Y,Z,_,a0,_⟩:=dO (t.heap ad (.inr rfl));exact⟨(dC R.box).2.1.t (by rw[k.x]),W,Y,Z,a0⟩
  have a1:∀{G g:Nat}{L ae:Array Value}{X:World}{P:Value},Below (w.alloc c.ob) (w.alloc c.ob) X->(cL G L X λe u=>e=.r P/\aV u K q M/\On (Bl.or Bk (Bl.one w)) X u/\X.1.size<=u/\∀x,bW u x->cL g ae x λe w'=>e=.r P/\On (Bl.or Bk (Bl.one w)) X w'/\Lw n (B+1) w' q (Bl.or Bk (Bl.one w)) M.p9)->cL G L X λe u=>e=.r P/\Hid (∀x,bW u x->OpC x q D.d w c/\cL g ae x λe w'=>e=.r P/\Hid (OpD w' w c/\On Ar w w'/\LSt n (B+1) w' q Ar)):=λl h=>by
   have O:=vV l (λj i=>(f.book j i).1);apply h.m;rintro e u ⟨rfl,R,aa,_,ai⟩;refine⟨rfl,λx U=>⟨a6 (R.below U) ((O.t aa).t (vV U (λj i=>jY (f.book j i).1 (O.t aa).size))),(ai x U).m ?_⟩⟩;rintro e w' ⟨rfl,ab,s⟩;have⟨_,W,Y,Z,_,a0,_⟩:=dO ((O.t ab).heap ad (.inr rfl));exact⟨rfl,⟨W,Y,Z,a0⟩,H (O.t ab) s⟩
  have S:∀X,Below (w.alloc c.ob) (w.alloc c.ob) X->OpC X q D.d w c:=λX l=>a6 (f.below l).ref (vV l (λj i=>(f.book j i).1));have⟨r,N⟩:=Ge M.ts c.tx;rcases JY c.kind 1 with a8|a8
  .exact Ky c (.inr ⟨a8,F⟩) (H (CM _ _) (Lw.up ⟨K,D,v,o,ao,ap,M,f,rfl⟩ (DM B)))
  .have:c.kind=1\/c.kind=2\/c.kind=3\/c.kind=4\/c.kind=5\/c.kind=6\/c.kind=7\/c.kind=8\/c.kind=9\/c.kind=10\/11<=c.kind:=ω;rcases this with e|e|e|e|e|e|e|e|e|e|e
   .exact kP (d:=0) c (.inl ⟨e,ac k.wc rfl⟩)
   .exact Au c S (.inl ⟨_,_,rfl,e,λX l=>a1 l (qAx (f.below l) m' c.wr)⟩)
   .exact kP c (.inr ⟨F,.inl ⟨.inl e,a2 (qMw f m' c e)⟩⟩)
   .refine kP c (.inr ⟨F,.inl ⟨.inr e,(qHm f m' y J A z c (by rw[e];rfl) I.ok).m ?_⟩⟩);rintro e w' ⟨rfl,t,af,an,al,ak,am⟩;exact⟨rfl,E.t t,af,an,al,.inl ⟨ak,a4⟩,am⟩
   .refine kP c (.inr ⟨F,.inr (.inl ⟨e,(qLc f m' c I.ok I.p I.q).m ?_⟩)⟩);rintro e w' ⟨rfl,a7⟩;exact⟨rfl,H (vV a7 (λj i=>(f.book j i).1)) (Lw.up ⟨K,D,v,o,ao,ap,M,f.below a7,rfl⟩ (DM B))⟩
   .exact Au c S (.inr ⟨_,rfl,.inl ⟨e,λX l=>a1 l ((qJh (f.below l) m' c.tx c.p c.q r N).m (λe w' h=>⟨h.1,h.2.1,h.2.2.1,h.2.2.2.1,h.2.2.2.2.2⟩))⟩⟩)
   .exact kP c (.inr ⟨F,.inr (.inr (.inl ⟨e,a2 (Vb f m' c)⟩))⟩)
   .exact Au c S (.inr ⟨_,rfl,.inr ⟨e,λX l=>a1 l (qAz (f.below l) m' c.tx r N)⟩⟩)
   .refine kP c (.inr ⟨F,.inr (.inr (.inr ⟨e,a2 ?_⟩))⟩)
    cases r with
    |none=>exact qAm f c N
    |some p=>exact Vp f m' C ω c p.1 p.2 N
   .refine qIf (v:=v) c e F ((tO D _ f.lk.db).m ?_);rintro e w' ⟨rfl,aj,a5⟩;have a3:=f.still aj (a5.m (λj i=>i.elim)) (DM B);exact⟨by rw[f.lk.ver],by rw[(dC a3.ref.box).2.2.2.1,k.lk.nv],H (a5.on (λj i=>⟨(f.book j i).1,λh=>h⟩)) ⟨K,D,v,o,ao,ap,M,a3,rfl⟩⟩
   .refine hc k.wc rfl (.inl ⟨Lw.up ⟨K,D,v,o,ao,ap,M,(((k.box c.ob).box c.ob).less (λj a=>.inl (.inl a))),rfl⟩ (DM B),a4⟩) (λ_ g hg X b=>?_) e;have f2:=((k.box c.ob).box c.ob).below b;apply(qLl g hg _ _ _ _ _ X f2.lk.db.file f2.lk.well I.ok.n1).m;intro _ w' ⟨hv,⟨d,d1,d2⟩,d3⟩;have f3:=f2.refs d1 d2 d3;exact⟨hv,f3.ref,d3.on (λj a=>⟨(f2.book j a).1,λe=>(f2.apart j (.inr (.inl (.inl e)))).2 a⟩),.inl ⟨Lw.up ⟨K,_,v,o,ao,ap,M,f3.less (λj a=>.inl (.inl a)),rfl⟩ (DM B),a4⟩⟩
 .by_cases e:c.kind=1
  .exact kP (d:=0) c (.inl ⟨e,ac k rfl⟩)
  rcases JY 10 c.kind with a8|a8
  .refine hc k rfl (.inr (Lc.up (Lc.less ⟨K,β,sv,lv,_,v,o,M,(k.box c.ob).box c.ob,a9,rfl⟩ (λj a=>.inl (.inl a))) (DM B))) (λ_ g hg X b=>?_) ω;have f2:=((k.box c.ob).box c.ob).below b;apply(qLl g hg _ _ _ _ _ X f2.file f2.well I.ok.n1).m;intro _ w' ⟨hv,⟨d,d1,d2⟩,d3⟩;have f3:=f2.refs d1 d2 d3;exact⟨hv,f3.ref,d3.on (λj a=>⟨(f2.book j a).1,λe=>(f2.apart j (.inl e)).2 a⟩),.inr (Lc.up (Lc.less ⟨K,β,sv,lv,_,v,o,M,f3,a9,rfl⟩ (λj a=>.inl (.inl a))) (DM B))⟩
  .have⟨y,A,z,E⟩:=Jg c.ob Q i V (λj i=>(k.book j i).1);have f:=k.box c.ob;apply Ky (d:=0) c (.inl ⟨e,a8,by rw[(dC f.ref.box).2.1,a9]⟩);have⟨a,b⟩:=LSt.of y J A z (CM _ _) (.inr (Lc.up ⟨K,β,sv,lv,fs,v,o,M,f,a9,rfl⟩ (DM B)));exact⟨E.t a,b⟩
end
def M00:RM:=⟨.bool false,.bool false,.bool false,0,.bool false,0,.bool false,0,[],[],[],[],.bool false,.bool false,.bool false,.bool false,.bool false,.bool false,.bool false,.bool false,.bool false,.bool false⟩
abbrev Gd(D:Db):Prop:=D.fs.well/\D.failed=false
structure LvS (w X:World) (B:Nat) (D:Db) (v:Nat) (o ao:Option (Nat×T)) (ots:List (Option (Nat×T))) (M:RM):Prop where
 lk:Lk 60 B X D v o ao ots M
 below:bW w X
 new:∀k,fpD D k->w.1.size<=k
section
variable {w X X':World}{B B':Nat}{D D':Db}{v v':Nat}{o ao o' ao':Option (Nat×T)}{ots ots':List (Option (Nat×T))}{M M':RM}
theorem LvS.go(h:LvS w X B D v o ao ots M)(b:Fr (fpD D) X X')(c:aI X (fpD D) (fpD D'))(d:Lk 60 B' X' D' v' o' ao' ots' M'):LvS w X' B' D' v' o' ao' ots' M':=by
 have f:=h.below.size;exact⟨d,h.below.t (b.below f h.new),λa e=>(c a e).elim (h.new a) (λg=>ω)⟩
end
abbrev kB:ByteArray:=⟨#[107]⟩
abbrev vB':ByteArray:=⟨#[118]⟩
theorem qGa(w):cL 7 #[] w λe w'=>e=.r (.bool true)/\bW w w':=by
 have O:=qNz 60 w δ;have J:Hid (∀X β sv lv (fs:Fs) v o ao,dN [] 60 fs v o ao->fs.well->v<=10->(aT o).length<=10->(aT ao).length<=10->aA X β sv lv fs/\bW w X/\(∀b,fpF β sv lv b->w<=b)->cL 11 #[.p β 0] X λe w'=>∃(D:Db) (a':Option (Nat×T)),e=.r (.tuple #[.p D.d 0,.i 0])/\D.β=β/\Hid (LvS w w' 10 D v o a' [] {M00 with nv:=v,now:=kvB (aT o),ah:=kvB (aT ao)}/\Gd D)):=λX β sv lv fs v o ao ay a3 C aq ar a=>by
  apply(qBy (B:=10) ay δ a3 β sv lv X a.1 C δ aq (.inl rfl) (by rw[nR];exact ar)).m;rintro e w' ⟨D,a',rfl,s,d,d1,g,k,l⟩;have p:=a.2.1.size;exact⟨D,a',rfl,s,⟨l {M00 with nv:=v,now:=kvB (aT o),ah:=kvB (aT ao)} rfl rfl rfl rfl rfl,a.2.1.t (g.below p a.2.2),λb c=>(k b c).elim (a.2.2 b) (λbj=>ω)⟩,d1,d⟩
 have I:Hid (∀X B D v o ao M y,B<=100->M.ts=[]->M.last=0->LvS w X B D v o ao [] M/\Gd D->cL 12 #[.p D.d 0,.bool y] X λe w'=>e=.r (.tuple #[.i 1,.i 0])/\∃D',D'.d=D.d/\D'.β=D.β/\Hid (LvS w w' (B+1) D' v o ao [o] {M with last:=1,ov:=.bool false,ts:=[M.begun 1 y (.bool false)]}/\Gd D')):=λX B D v o ao M y bk a2 a0 a=>by
  apply(Jh a.1.lk ω y (by rw[a2];simp)).m;rintro e w' ⟨rfl,D',⟨x,m,z,z1⟩,g,k,l⟩;have q:=l (.bool false) (.bool false);rw[a0,a2]at q;exact⟨by rw[a0];rfl,D',x,m,a.1.go g k q,by rw[z]; exact a.2.1,z1.t a.2.2⟩
 have an:Hid (∀X D ao,LvS w X 11 D 0 none ao [none] {M00 with last:=1,ov:=.bool false,ts:=[M00.begun 1 true (.bool false)]}/\Gd D->cL 13 #[.p D.d 0,.i 1,.t kB,.t vB'] X λe w'=>e=.r (.i 0)/\∃D',D'.d=D.d/\D'.β=D.β/\Hid (LvS w w' 12 D' 0 none ao [none] {M00 with last:=1,ov:=.bool false,ts:=[(M00.begun 1 true (.bool false)).changed ⟨kB,vB',false⟩ (.bool false) (.bool false)]}/\Gd D')):=λX D ao a=>by
  have n:cI [M00.begun 1 true (.bool false)] 1 (some (0,M00.begun 1 true (.bool false))):=⟨rfl,rfl⟩;apply(qJg a.1.lk δ 1 kB vB' _ n).m;rintro e w' ⟨rfl,D',⟨x,m,z,z1⟩,g,k,ax⟩;have p:mU (some (0,M00.begun 1 true (.bool false))) kB vB'=0:=by rfl
  rcases ax with⟨C,_⟩|⟨j,t,s,_,_,_,_,l⟩
  .exact absurd p C
  .simp only[BB,KL]at s
   obtain⟨rfl,rfl⟩:=s;exact⟨by rw[p],D',x,m,a.1.go g k (l (.bool false) (.bool false)),by rw[z]; exact a.2.1,z1.t a.2.2⟩
 have ai:Hid (∀X D ao,LvS w X 12 D 0 none ao [none] {M00 with last:=1,ov:=.bool false,ts:=[(M00.begun 1 true (.bool false)).changed ⟨kB,vB',false⟩ (.bool false) (.bool false)]}/\Gd D->cL 14 #[.p D.d 0,.i 1] X λe w'=>e=.r (.i 0)/\∃D' o',D'.β=D.β/\kvB (aT o')=[(kB,vB')]/\Hid (LvS w w' 13 D' 1 o' none [] {M00 with last:=1,ov:=.bool false,nv:=1,now:=[(kB,vB')]}/\D'.failed=false)):=λX D ao a=>by
  have n:cI [((M00.begun 1 true (.bool false)).changed ⟨kB,vB',false⟩ (.bool false) (.bool false))] 1 (some (0,((M00.begun 1 true (.bool false)).changed ⟨kB,vB',false⟩ (.bool false) (.bool false)))):=⟨rfl,rfl⟩;have Z:0<D.ts.length:=by have:=a.1.lk.len;rw[this];decide
  have T:(((M00.begun 1 true (.bool false)).changed ⟨kB,vB',false⟩ (.bool false) (.bool false))).ch≠[]:=by simp[RT.changed]
  have S:gS (((M00.begun 1 true (.bool false)).changed ⟨kB,vB',false⟩ (.bool false) (.bool false))).ch (((M00.begun 1 true (.bool false)).changed ⟨kB,vB',false⟩ (.bool false) (.bool false))).oth=false:=by rfl
  by_cases hroom:(bY none (D.ts[0]).cs (eY 60 (dI (osL none ao [none] 0)))).2.length<=(eY 60 (dI (osL none ao [none] 0)))
  .apply(Dr a.1.lk δ δ δ 1 0 _ n T S Z (λe=>by have:=e.2;omega)).m
   rintro e w' ⟨zz,D',rfl,⟨x,m⟩,g,k,(⟨_,_,_,(⟨_,c|c⟩|⟨c,_⟩),_⟩|⟨rfl,_,_,z,_,o',l⟩)⟩
   .rw[a.2.1.2]at c;cases c
   .rw[a.2.2]at c;cases c
   .exact absurd a.2.1 c.2
   have q:=l {M00 with last:=1,ov:=.bool false,nv:=1,now:=[(kB,vB')]} ⟨rfl,rfl,rfl,rfl,rfl,λi b4=>absurd b4 (FQ _)⟩;exact⟨rfl,D',o',m,q.now,a.1.go g k q,z⟩
  .have⟨bl,_⟩:=Dt a.1.lk (KM a.2.1) δ δ δ 1 0 _ n T S Z ω;have:iW {M00 with last:=1,ov:=.bool false,ts:=[((M00.begun 1 true (.bool false)).changed ⟨kB,vB',false⟩ (.bool false) (.bool false))]} ((M00.begun 1 true (.bool false)).changed ⟨kB,vB',false⟩ (.bool false) (.bool false))=12:=by rfl
   omega
 have aj:Hid (∀X D o',kvB (aT o')=[(kB,vB')]->LvS w X 13 D 1 o' none [] {M00 with last:=1,ov:=.bool false,nv:=1,now:=[(kB,vB')]}/\D.failed=false->cL 15 #[.p D.β 0] X λe w'=>∃d f h,e=.r (.p d 0)/\Hid (aA w' d f h D.fs/\bW w w'/\(∀b,fpF d f h b->w<=b)/\dN [] 60 D.fs 1 o' none)):=λX D o' V a=>by
  apply(Iu D.β D.sv D.lv D.fs X a.1.lk.db.file).m;rintro e w' ⟨d,f,h,rfl,b2,az,b5⟩;have p:=a.1.below.size;exact⟨d,f,h,rfl,b2,a.1.below.t (az.m p),λb c=>by have:=b5 b c;omega,a.1.lk.failed a.2⟩
 have ak:Hid (∀X (fs:Fs) o' d f h,aA X d f h fs/\bW w X/\(∀b,fpF d f h b->w<=b)/\dN [] 60 fs 1 o' none->cL 16 #[.p d 0,.n] X λe w'=>∃u,e=.r u/\Hid (aA w' d f .n fs.calm/\bW w w'/\(∀b,fpF d f .n b->w<=b))):=λX fs o' d f h a=>by
  apply(It d f h fs none 0 0 X a.1 a.2.2.2.late).m;rintro e w' ⟨⟨u,rfl⟩,W,g⟩;refine⟨u,rfl,W,a.2.1.t (g.below a.2.1.size (λb c=>a.2.2.1 b (.inl c))),λb c=>?_⟩;rcases c with c|c|c
  .exact a.2.2.1 b (.inl c)
  .exact a.2.2.1 b (.inr (.inl c))
  .simp[Value.ownBlock]at c
 have al:Hid (∀X D o' ao,kvB (aT o')=[(kB,vB')]->LvS w X 11 D 1 o' ao [o'] {M00 with nv:=1,now:=kvB (aT o'),ah:=kvB (aT none),last:=1,ov:=.bool false,ts:=[({M00 with nv:=1,now:=kvB (aT o'),ah:=kvB (aT none)}:RM).begun 1 false (.bool false)]}/\Gd D->cL 17 #[.p D.d 0,.i 1,.t kB] X λe w'=>e=.r (.tuple #[.t vB',.i 0])/\Hid (bW w w'/\aO w' 0 D/\D.ver=1)):=λX D o' ao V a=>by
  have n:cI [({M00 with nv:=1,now:=kvB (aT o'),ah:=kvB (aT none)}:RM).begun 1 false (.bool false)] 1 (some (0,({M00 with nv:=1,now:=kvB (aT o'),ah:=kvB (aT none)}:RM).begun 1 false (.bool false))):=⟨rfl,rfl⟩;have⟨A,hA,hG⟩:=Zt a.1.lk δ 1 kB _ n;obtain rfl:=hA.resolve_right (λe=>by rw[a.2.1.2]at e;cases e.2.1);apply hG.m;rintro e w' ⟨rfl,av,g⟩;have b3:eG (some (0,({M00 with nv:=1,now:=kvB (aT o'),ah:=kvB (aT none)}:RM).begun 1 false (.bool false))) kB=(vB',0):=by
   simp only[eG,RM.begun];have b6:sH [(kB,vB')] kB=some vB':=(uA (by simp[rT])).2 σ;rw[V,AU δ,b6]
  exact⟨by rw[b3],a.1.below.t (g.below a.1.below.size (λb c=>by exact a.1.new b (.inl c))),av,a.1.lk.ver⟩
 have ap:Hid (∀X (D:Db),bW w X/\aO X 0 D/\D.ver=1->cL 18 #[.p D.d 0] X λe w'=>e=.r (.i 1)/\Hid (bW w w')):=λX D a=>by
  apply(tO D X a.2.1).m;rintro e w' ⟨rfl,_,g⟩;exact⟨by rw[a.2.2],a.1.t (g.below a.1.size (λb c=>c.elim))⟩
 have am:Hid (∀X,cL 11 #[.pointer none] X λe w'=>e=.r (.tuple #[.pointer none,.i 1])/\w'=X):=λX=>qJv X;rw[show((60:Nat):Int)=60 from rfl]at O;go_enter func7,ntmps7;go_wp2_with (first
  |(go_at_call 8;(with_reducible apply Calls.m O);rintro e a4 ⟨β,sv,lv,rfl,Y,R,a1⟩;have aw:=am a4;have F:=J a4 β sv lv (Fs.new 60) 0 none none (Kx [] 60 δ) ⟨rfl,rfl⟩ δ δ δ ⟨Y,R,a1⟩;clear Y R a1)
  |(go_at_call 11;(with_reducible apply Calls.w aw))
  |(apply Calls.m F;rintro e bb ⟨D,a',rfl,m,aa⟩;subst m;have E:=I bb 10 D 0 none a' _ true δ rfl rfl aa)
  |(apply Calls.m E;rintro e bc ⟨rfl,a5,b0,b7,ab⟩;have P:=an bc a5 a' ab;rw[b0]at P)
  |(apply Calls.m P;rintro e bd ⟨rfl,a6,b1,b8,ac⟩;have K:=ai bd a6 a' ac;rw[b1]at K)
  |(apply Calls.m K;rintro e be ⟨rfl,z,r,b9,G,ad⟩;have L:=aj be z r G ad;rw[b9,b8,b7]at L)
  |(apply Calls.m L;rintro e bf ⟨d,f,h,rfl,A⟩;have au:=ak bf z.fs r d f h A)
  |(apply Calls.m au;rintro e bg ⟨u,rfl,ae⟩;have F:=J bg d f _ z.fs.calm 1 r none (dN.eq (fs:=z.fs) rfl rfl A.2.2.2) ⟨rfl,rfl⟩ δ (by rw[<-nR,G];decide) δ ae)
  |(apply Calls.m F;rintro e bh ⟨a7,bp,rfl,bm,af⟩;have E:=I bh 10 a7 1 r bp _ false δ rfl rfl af)
  |(apply Calls.m E;rintro e bi ⟨rfl,H,U,bn,ag⟩;have N:=al bi H r bp G ag;rw[U]at N)
  |(apply Calls.m N;rintro e ba ⟨rfl,a8⟩;have Q:=ap ba H a8;rw[U]at Q)
  |(apply Calls.m Q;rintro e bo ⟨rfl,a9⟩))
 go_ret;exact⟨rfl,a9⟩
abbrev OpV.cl(o:OpV):List Value:=[.i o.kind,.i o.tx,.string o.p,.string o.q,.i o.n,.bool o.wr,.slice o.ka o.kn o.kc]
theorem Ew{b β:Type}(f:b->List β)(k)(a:∀x,(f x).length=k):∀(l:List b) (i j:Nat) (hi:i<l.length),j<k->(l.flatMap f)[i * k+j]?=(f l[i])[j]?
 |x :: l,0,j,_,hj=>by grind
 |x :: l,i+1,j,hi,hj=>by
  have c:(i+1) * k+j-(f x).length=i * k+j:=by grind
  have d:(f x).length<=(i+1) * k+j:=by grind
  rw[AK,AZ d,c];exact Ew f k a l i j (by grind) hj
section
variable {n B:Nat}{w w':World}{q:Nat}{Ar:Bl}
theorem LSt.below(h:LSt n B w q Ar)(b:bW w w'):LSt n B w' q Ar:=by
 have⟨E,C,G,i,e,k,c,j⟩:=h;refine⟨E,C,G,?_,e.bl b,k,c,j⟩;rcases i with⟨⟨K,D,v,o,A,t,M,a,d⟩,g⟩|⟨K,H,F,y,u,v,o,M,a,d⟩
 .exact .inl ⟨⟨K,D,v,o,A,t,M,a.below b,d⟩,g⟩
 .exact .inr ⟨K,H,F,y,u,v,o,M,a.below b,d⟩
theorem LSt.up(h:LSt n B w q Ar){B'}(a:B<=B'):LSt n B' w q Ar:=by
 have⟨g,u,t,c,b,f,e,d⟩:=h;exact⟨g,u,t,c.imp (λh=>⟨h.1.up a,h.2⟩) (λh=>h.up a),b,ω,e,d⟩
theorem LSt.looks(h:LSt n B w q Ar)(k:B<=1000000):cL 10 #[.p q 14] w λe w'=>e=.r (.bool true)/\bW w w':=by
 have⟨E,t,G,g,f,p,m,l⟩:=h;have d:∀{K:Bl}{M:RM},aV w K q M->(M.p6=.n/\M.p7=.n/\M.p8=.n)->M.p9=t->cL 10 #[.p q 14] w λe w'=>e=.r (.bool true)/\bW w w':=λ{K M} i c e=>by
  have b:=i.box;exact qOf f ω (gL b) (by simp[World.cell?,b,c.1]) (by simp[World.cell?,b,c.2.1]) (by simp[World.cell?,b,c.2.2]) (by simp[World.cell?,b,e])
 rcases g with⟨⟨K,D,v,o,C,u,M,a,e⟩,j⟩|⟨K,H,F,A,y,v,o,M,a,_,e⟩
 .exact d a.ref a.meta'.2 e
 .exact d a.ref a.meta' e
end
abbrev M0w(β:Nat):RM:=⟨.p β 0,.pointer none,.slice none 0 0,0,.slice none 0 0,0,.slice none 0 0,0,[],[],[],[],.slice none 0 0,.i 0,.bool false,.bool false,.bool false,.bool false,.slice none 0 0,.slice none 0 0,.slice none 0 0,.slice none 0 0⟩
theorem LSt.start{n β:Nat}{sv lv:Value}{w X:World}(s:n<=4096)(j:bW w X)(c:aA X β sv lv (Fs.new n))(m:∀k,fpF β sv lv k->w<=k):LSt n 0 (X.alloc (M0w β).obj) X (λk=>k<w):=by
 have t:=j.size;have l:bW X (X.alloc (M0w β).obj):=bA _ _;have h:∀(e:World),fD e Bl.none .n []:=λe=>(KN (AO _ _ _ _)).m (λk a=>by simp[Value.ownBlock]at a);have i:aV (X.alloc (M0w β).obj) Bl.none X (M0w β):=⟨aB X _,AO _ _ _ _,h _,⟨h _,h _⟩,λp d=>(by cases d),EH,λk a=>a.elim⟩;have g:∀k,Bl.or Bl.none (fpR X (M0w β)) k->k=X:=by
  rintro k (a|rfl|a|⟨p,d,_⟩)
  .exact a.elim
  .rfl
  .simp[Value.ownBlock]at a
  .cases d
 refine⟨λk=>k<w,.n,[],.inr ⟨Bl.none,β,sv,lv,Fs.new n,0,none,M0w β,⟨i,rfl,c.bl l,Fs.well_dy ⟨rfl,rfl⟩,by simp[Fs.new],⟨λs a=>by rw[List.eq_of_mem_replicate a];exact pQ 256,nofun,nofun⟩,λr=>?_,rfl,jU _,rfl,⟨jU _,jU _⟩,⟨_,rfl⟩,⟨LT _,LT _,jU _,nofun⟩,⟨0,rfl⟩,⟨_,rfl⟩,.inl rfl,⟨_,rfl⟩,⟨rfl,rfl,rfl⟩,λk a=>⟨λb=>by have f:=g k b;have q:=c.lies k a;omega,λb=>ζ⟩,λk a=>⟨χ,λb=>ζ⟩⟩,rfl,rfl⟩,jW.none _,AG _,λk a=>?_,λk a=>a⟩
 .have S:=Kx [] n ω;have⟨v,e,_,a⟩:=S.hold;exact⟨λ_ _=>⟨_,S⟩,.inl ⟨_,_,a,⟨0,rfl,nofun⟩,λ_=>.inl rfl,λy t b=>⟨λ_=>ω,λ_=>.inr b.2,λ_=>ω⟩⟩⟩
 .rcases a with a|⟨u,o,_⟩
  .simp[Value.ownBlock]at a
  .cases o
theorem qEv(z sa sc)(cs:List OpV)(w)(hR:fI w w.1.size sa (cs.flatMap OpV.cl))(hf:∀c∈cs,Kl c/\c.p.size<=2000000/\c.q.size<=2000000/\qBd w (λk=>k<w.1.size) c)(hl:cs.length<=390000):
  cL 6 #[.i z,.s sa cs.length sc,.i 14] w λe w'=>e=.r (.bool true)/\bW w w':=by
 have⟨n,hn,HN⟩:∃n:Nat,n<=4096/\Hid (∀X,cL 8 #[.i z] X λe w'=>∃y F E,e=.r (.p y 0)/\aA w' y F E (Fs.new n)/\bW X w'/\∀k,fpF y F E k->X.1.size<=k):=by
  rcases JY z 0 with h0|h0
  .exact⟨0,δ,λX=>qNy z X h0⟩
  .rcases JY 4096 z with R|R
   .exact⟨4096,δ,λX=>qKc z 4096 X (.inr ⟨R,rfl⟩)⟩
   .exact⟨z.toNat,ω,λX=>qKc z z.toNat X (.inl ⟨ω,ω⟩)⟩
 have HW:Hid (∀X y F E,bW w X->aA X y F E (Fs.new n)->(∀k,fpF y F E k->w.1.size<=k)->∃W q,X.alloc (M0w y).obj=W/\X.1.size=q/\LSt n 0 W q (λk=>k<w.1.size)/\On (λk=>k<w.1.size) w W):=λX y F E H a1 a2=>⟨_,_,rfl,rfl,LSt.start hn H a1 a2,vV (H.alloc H.size _) (λk A=>A)⟩;have HC:Hid (∀X i (hi:i<cs.length),On (λk=>k<w.1.size) w X->∃b d,sa=some (aD b d)/\X.c b (d+i * 7)=some (.i cs[i].kind)/\X.c b (d+i * 7+1)=some (.i cs[i].tx)/\X.c b (d+i * 7+2)=some (.t cs[i].p)/\X.c b (d+i * 7+3)=some (.t cs[i].q)/\X.c b (d+i * 7+4)=some (.i cs[i].n)/\X.c b (d+i * 7+5)=some (.bool cs[i].wr)/\X.c b (d+i * 7+6)=some (.s cs[i].ka cs[i].kn cs[i].kc)):=λX i hi hO=>by
  rcases hR with hR|⟨b,d,ha,H,hc⟩
  .have:=Ew OpV.cl 7 (λ_=>rfl) cs i 0 hi δ;grind
  .have g:∀j u,j<7->(cs[i].cl)[j]?=some u->X.cell? (aD b (d+i * 7+j))=some u:=λj u hj hu=>by
    have R:=hc (i * 7+j) u (by rw[Ew OpV.cl 7 (λ_=>rfl) cs i j hi hj];exact hu);rw[<-GL]at R;have⟨ob,T⟩:∃ob,w.1[b]?=some ob:=⟨_,FM H⟩;rw[CP (w:=w) (a:=(aD b (d+i * 7+j))) ((hO.heap T H).t T.symm)];exact R
   exact⟨b,d,ha,g 0 _ δ rfl,g 1 _ δ rfl,g 2 _ δ rfl,g 3 _ δ rfl,g 4 _ δ rfl,g 5 _ δ rfl,g 6 _ δ rfl⟩
 have HF:Hid (∀c∈cs,Kl c/\c.p.size<=2000000/\c.q.size<=2000000/\qBd w (λk=>k<w.1.size) c):=hf;go_enter func6,ntmps6;go_wp2_with (first
  |(apply Calls.m (qGa w);rintro e w1 ⟨rfl,C⟩;have O:=HN.o w1)
  |(apply Calls.m O;clear O;rintro e w2 ⟨y,F,E,rfl,I,Z,U⟩;have⟨W3,q,a6,hq,M,L⟩:=HW.o w2 y F E (C.t (Z.m C.size)) I (λk A=>vJ C.size (U k A));have H3:Hid (LSt n 0 W3 q (λk=>k<w.1.size)/\On (λk=>k<w.1.size) w W3):=⟨M,L⟩;clear M L I Z U C))
 go_loopw [9,10,11] (λi _ _ wr=>∃j:Nat,i=.i j/\j<=cs.length/\Hid (LSt n j wr q (λk=>k<w.1.size)/\On (λk=>k<w.1.size) w wr)) (λi _ _ _=>cs.length-(intOf i).toNat)
 case atStart=>grind
 case round =>
  clear H3;obtain⟨j,rfl,hj,G⟩:=hrel;rcases BT j cs.length with J|a8
  .have a7:(j:Int)<(cs.length:Int):=ω
   obtain⟨b,d,rfl,c0,c1,c2,c3,c4,c5,c6⟩:=HC.o wr j J G.o.2;have⟨Y,hp,S,D⟩:=HF.o _ (AA J);have⟨c,hc⟩:=nM (cs[j]);rw[hc]at c0 c1 c2 c3 c4 c5 c6 Y hp S D;have⟨v,tx,P,Q,N,wb,ka,kn,kc⟩:=c;dsimp only at c0 c1 c2 c3 c4 c5 c6;rcases JY 14 v with A|A
   .have a3:Hid (LSt n (j+1) wr q (λk=>k<w.1.size)/\On (λk=>k<w.1.size) w wr):=⟨G.o.1.up (DM j),G.o.2⟩;go_wp2;exact⟨⟨j+1,σ,ω,a3.o⟩,by simp[intOf];omega⟩
   .have a5:¬(14:Int)<v:=ω
    have a0:Hid (cL 9 #[.p q 0,.agg #[.i v,.i tx,.t P,.t Q,.i N,.bool wb,.s ka kn kc]] wr λe w'=>e=.r (.bool true)/\Hid (LSt n (j+1) w' q (λk=>k<w.1.size)/\On (λk=>k<w.1.size) w w')):=by
     apply(qIg G.o.1 ω hn ⟨v,tx,P,Q,N,wb,ka,kn,kc⟩ ⟨Y,hp,S,A⟩ ⟨_,D.choose_spec.1,D.choose_spec.2.1.on G.o.2,D.choose_spec.2.2⟩).m;rintro e w' ⟨rfl,hO,hL⟩;exact⟨rfl,hL,G.o.2.t hO⟩
    go_wp2_with (first
     |(apply Calls.m a0.o;rintro e w5 ⟨rfl,H5⟩;have a4:=H5.o.1.looks ω)
     |(apply Calls.m a4;rintro e w6 ⟨rfl,K⟩;have H6:Hid (LSt n (j+1) w6 q (λk=>k<w.1.size)/\On (λk=>k<w.1.size) w w6):=⟨H5.o.1.below K,H5.o.2.t (vV K (λk A=>jY A H5.o.2.size))⟩))
    exact⟨⟨j+1,σ,ω,H6.o⟩,by simp[intOf];omega⟩
  .obtain rfl:j=cs.length:=ω
   go_wp2;go_ret;have V:=G.o.2;exact⟨rfl,⟨V.os,V.tape,V.output,V.size,λk A=>V.block k A⟩⟩
theorem qIj(z a b)(cs:List OpV)(w)(f:fI w w a (cs.flatMap OpV.cl))(h:∀c∈cs,Kl c/\c.p.size<=2000000/\c.q.size<=2000000/\qBd w (λk=>k<w) c)(i:cs.length<=390000):
  cL 5 #[.i z,.s a cs b] w λe w'=>e=.r (.bool true)/\bW w w':=by
 go_enter func5,ntmps5;go_wp2_with (apply Calls.m (qEv z a b cs w f h i);rintro e d ⟨rfl,g⟩);go_ret;simp_all
