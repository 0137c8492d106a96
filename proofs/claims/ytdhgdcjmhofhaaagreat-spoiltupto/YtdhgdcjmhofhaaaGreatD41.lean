import Derived.Test.YtdhgdcjmhofhaaaGreatD40
set_option linter.all false
set_option maxRecDepth 100000
set_option maxHeartbeats 8000000
namespace Go.Proofs.YtdhgdcjmhofhaaaGreat.Tree
open Go.RowKit Pages Tryz
theorem vL{a:Type}(f):∀(l:List a) (j:Nat) (h:j<l),tot f (l.eraseIdx j)+f l[j]=tot f l
 |x :: l,0,_=>by simp only[List.eraseIdx_cons_zero,cQ,CX];omega
 |x :: l,j+1,h=>by
  have:=vL f l j ζ;simp only[List.eraseIdx_cons_succ,cQ,DL];omega
section
variable {n B:Nat}{w:World}{D:Db}{v:Nat}{o ao:Option (Nat×T)}{ots:List (Option (Nat×T))}{M:RM}
theorem Jh(h:Lk n B w D v o ao ots M)(O:B<=900000)(i)(R:M.ts.length<8):
  cL 12 #[.p D.d 0,.bool i] w λe w'=>e=.r (.tuple #[.i (M.last+1),.i 0])/\∃D',D.sm D'/\Fr (fpD D) w w'/\aI w (fpD D) (fpD D')/\∀u l,Lk n (B+1) w' D' v o ao (ots++[o]) {M with last:=M.last+1,ov:=u,ts:=M.ts++[M.begun (M.last+1) i l]}:=by
 have r:=h.len;have s:=h.leno;have C:=h.last0;have N:=h.last1;obtain⟨m,p,I,J,L⟩:=h.few;refine(qHl D i w h.db ω (h.last▸C) (by rw[h.last];omega)).m ?_;rintro e w' ⟨rfl,b,K,z,A,P,F⟩;refine⟨by rw[h.last],{D with last:=D.last+1,ov:=K,ts:=D.ts++[Lu b (D.last+1) i D.root]},⟨rfl,rfl,rfl,rfl⟩,A,?_,λu l=>⟨z,h.well,h.failed,h.ver,h.root,h.aroot,h.store,h.nv,by show D.last+1=M.last+1;rw[h.last],by show 0<=M.last+1;omega,by show M.last+1<=((B+1:Nat):Int);omega,by have:=h.vB;omega,h.now,h.ah,by simp[r],by simp[s],χ,λk H=>?_,?_,λg d=>?_,m,p,I,λg d=>?_,?_⟩⟩
 .rintro G (f|f|f|⟨x,j,f⟩)
  .exact .inl (.inl f)
  .exact .inl (.inr (.inl f))
  .exact(F G f).imp (λy=>.inr (.inr (.inl y))) id
  .rcases AN.1 j with j|j
   .exact .inl (.inr (.inr (.inr ⟨x,j,f⟩)))
   .rw[AL]at j;subst j;have:=Gz f;exact .inr ω
 .simp only[jK,AP]at H;rcases BT k M.ts with t|Q
  .rw[GX ω,GX ω,GX t];exact h.each k t
  .obtain rfl:k=M.ts:=ω;rw[GU ω,GU ω,GU (jU _)];simp only[r,s,JX,CX];exact⟨by show D.last+1=M.last+1;rw[h.last],rfl,h.store.sure,h.root,h.now,rfl,by simp[RM.begun],rfl,λ_=>rfl,λ_ x=>by simp[RM.begun]⟩
 .refine CO.2 ⟨h.rise,σ,λa E c q=>?_⟩;rw[AL]at q;subst q;have:=h.le a E;show a.num<M.last+1;omega
 .rcases AN.1 d with d|d
  .have:=h.le g d;show g.num<=M.last+1;omega
  .rw[AL]at d;subst d;exact LT _
 .rcases AN.1 d with d|d
  .exact J g d
  .rw[AL]at d;subst d;exact⟨p,AG _⟩
 .show m+tot (λg:RT=>g.ch) (M.ts++[M.begun (M.last+1) i l])<=B+1;rw[sA];have:tot (λg:RT=>g.ch) [M.begun (M.last+1) i l]=0:=rfl;omega
theorem Lk.dropG(h:Lk n B w D v o ao ots M){j:Nat}(b:j<M.ts){g c:Nat}{w':World}{y fs fd}(m:aO w' 0 {D.drop j g c with lv:=y,fs:=fs,failed:=fd})(W:fs.dy)(u:fd=false->dN [] n fs v o ao)(r:View n fs v o ao)(k:∀p∈ots.eraseIdx j,Tr [] D.fs p->Tr [] fs p)(t):Lk n (B+1) w' {D.drop j g c with lv:=y,fs:=fs,failed:=fd} v o ao (ots.eraseIdx j) {M with ov:=t,ts:=M.ts.eraseIdx j}:=by
 have A:=h.len;have s:=h.leno;obtain⟨f,i,z,l,x⟩:=h.few;refine⟨m,W,u,h.ver,h.root,h.aroot,r,h.nv,h.last,h.last0,by have:=h.last1;show M.last<=((B+1:Nat):Int);omega,by have:=h.vB;omega,h.now,h.ah,?_,?_,?_,λd p=>?_,h.rise.sublist (DG _ _),λa e=>h.le a ((DG _ _).subset e),f,i,z,λa e=>l a ((DG _ _).subset e),?_⟩
 .show(D.ts.eraseIdx j).length=(M.ts.eraseIdx j);rw[CJ ω,CJ b,A]
 .show(ots.eraseIdx j).length=(M.ts.eraseIdx j);rw[CJ ω,CJ b,s]
 .show(M.ts.eraseIdx j).length<=8;rw[CJ b];have:=h.n8;omega
 .have q:=p;rw[CJ b]at q;have X:LkT D.fs ((D.ts.eraseIdx j)[d]'(by rw[CJ ω];omega)) ((ots.eraseIdx j)[d]'(by rw[CJ ω];omega)) (M.ts.eraseIdx j)[d]:=by
   simp only[LM];split
   .exact h.each d ω
   .exact h.each (d+1) ω
  exact{X with tr:=k _ (AA _) X.tr}
 .have:=vL (λa:RT=>a.ch) M.ts j b;show f+tot (λa:RT=>a.ch) (M.ts.eraseIdx j)<=B+1;omega
theorem Lk.drop(h:Lk n B w D v o ao ots M){j:Nat}(b:j<M.ts){g c:Nat}{w':World}(m:aO w' 0 (D.drop j g c))(t):Lk n (B+1) w' (D.drop j g c) v o ao (ots.eraseIdx j) {M with ov:=t,ts:=M.ts.eraseIdx j}:=h.dropG (y:=D.lv) (fs:=D.fs) (fd:=D.failed) b m h.well h.failed h.store (λ_ _ a=>a) t
theorem Ws(h:Lk n B w D v o ao ots M)(x j r)(l:cI M.ts x (some (j,r))):
  cL 27 #[.p D.d 0,.i x] w λe w'=>e=.r (.i 0)/\∃D',D.sm D'/\Fr (fpD D) w w'/\aI w (fpD D) (fpD D')/\∀a,Lk n (B+1) w' D' v o ao (ots.eraseIdx j) {M with ov:=a,ts:=M.ts.eraseIdx j}:=by
 have q:=h.len;have m:=h.n8;have⟨k,t,p,i,s⟩:=h.hit l;apply(qHo D x j D.ts[j] w h.db ω k rfl i).m;rintro e w' ⟨rfl,g,c,b,d,f⟩;exact⟨rfl,D.drop j g c,⟨rfl,rfl,rfl,rfl⟩,d,f,λa=>h.drop ω b a⟩
end
variable {fs:Fs} {t:Tx}
section
variable {n B:Nat}{w:World}{D:Db}{v:Nat}{o ao:Option (Nat×T)}{ots:List (Option (Nat×T))}{M:RM}
theorem LkT.keys {a}{b:RT}(h:LkT fs t a b)(k):k∈t.cs.map (·.key)↔k∈b.ch.map (·.key):=by
 rw[h.cs,Mt b.ch (cs:=[]) EH k];simp
theorem LkT.none_iff {b}{d:RT}(h:LkT fs t b d):t.cs=[]↔d.ch=[]:=by
 constructor
 .intro a
  cases hc:d.ch with
  |nil=>rfl
  |cons c ch =>
   have:=(h.keys c.key).2 (by rw[hc];simp);grind
 .intro a;rw[h.cs,a];rfl
theorem LkT.conf {j}{f:RT}(h:LkT fs t j f)(i:f.wr=true):(∃c∈t.cs,c.key∈t.ks)↔gS f.ch f.oth=true:=by
 rw[Az];have g:=h.lost (h.wr▸i);constructor
 .intro⟨c,b,k⟩;have⟨d,e,a⟩:=AY.1 ((h.keys c.key).1 (AY.2 ⟨c,b,rfl⟩));grind
 .intro⟨c,b,k⟩;have⟨d,e,a⟩:=AY.1 ((h.keys c.key).2 (AY.2 ⟨c,b,rfl⟩));grind
def otL(ts:List Tx)(ots:List (Option (Nat×T)))(t:Tx):Option (Nat×T):=(ots[(gO ts t.num).toNat]?).getD none
theorem Lk.ot_at(h:Lk n B w D v o ao ots M)(i)(hi:i<D.ts.length)(e:i<ots):otL D.ts ots D.ts[i]=ots[i]:=by
 have g:=h.len;have b:gO D.ts (D.ts[i]).num=i:=Ua hi σ (λa j f=>by
  have c:=(h.each a ω).num;have d:=(h.each i ω).num;have:=BC.1 h.rise a i ω ω f;grind)
 unfold otL;grind
theorem Lk.ot_map(h:Lk n B w D v o ao ots M)(j)(a:j<D.ts.length):(D.ts.eraseIdx j).map (otL D.ts ots)=ots.eraseIdx j:=by
 have e:=h.len;have f:=h.leno;refine GB ζ (λb c d=>?_);rw[AF,CJ a]at c;simp only[EF,LM];split
 .exact h.ot_at b ω ω
 .exact h.ot_at (b+1) ω ω
theorem Lk.ot_mem (h:Lk n B w D v o ao ots M)(c:t∈D.ts):Tr [] D.fs (otL D.ts ots t)/\t.root=rootOf (otL D.ts ots t):=by
 obtain⟨a,b,rfl⟩:=AW c;have d:=h.len;have e:=h.leno;rw[h.ot_at a b ω];exact⟨(h.each a ω).tr,(h.each a ω).root⟩
theorem Lk.ots_mem(h:Lk n B w D v o ao ots M){p}(a:p∈ots):Tr [] D.fs p:=by
 obtain⟨b,c,rfl⟩:=AW a;have d:=h.leno;exact(h.each b ω).tr
theorem Du(h:Lk n B w D v o ao ots M)(C:B<=900000)(x j r)(u:cI M.ts x (some (j,r)))(z)(y:(r.ch=[]/\z=0)\/(r.ch≠[]/\gS r.ch r.oth=true/\z=7)):
  cL 14 #[.p D.d 0,.i x] w λe w'=>e=.r (.i z)/\∃D',D.sm D'/\Fr (fpD D) w w'/\aI w (fpD D) (fpD D')/\∀i,Lk n (B+1) w' D' v o ao (ots.eraseIdx j) {M with ov:=i,ts:=M.ts.eraseIdx j}:=by
 have F:=h.len;have A:=h.n8;have⟨s,G,a,q,t⟩:=h.hit u;have⟨H,I,J,K,L,N⟩:=a.rise;have E:=(h.bounds.2.2 r t).2.2.1;refine(qMf D x j D.ts[j] w h.db ω s rfl q ω z ?_).m ?_
 .rcases y with⟨b,d⟩|⟨b,d,k⟩
  .simp_all
  .have f:r.wr=true:=by
    cases f:r.wr with
    |true=>rfl
    |false=>exact absurd (a.ro (a.wr▸f)) b
   refine .inr ⟨?_,(a.conf f).2 d,k⟩;exact BX.2 (λe=>b (a.none_iff.1 e))
 .rintro e w' ⟨rfl,g,c,l,m,p⟩;exact⟨rfl,D.drop j g c,⟨rfl,rfl,rfl,rfl⟩,m,p,λi=>h.drop ω l i⟩
end
variable {fs:Fs}
theorem Ia {x:En}(h:x.good fs):x.e.size=(x.value.length:Int):=by
 obtain⟨_,_,⟨c,_,d,_⟩|⟨_,a,i,g,e,j,k,_,f⟩⟩:=h
 .rw[d];unfold En.value;simp_all
 .have:x.e.over≠0:=λb=>by rw[b]at a;exact absurd a δ
  unfold En.value;rw[AQ this,yD x.ch g i f,e]
section
variable {n B:Nat}{w:World}{D:Db}{v:Nat}{o ao:Option (Nat×T)}{ots:List (Option (Nat×T))}{M:RM}
theorem Fp {p:Option (Nat×T)}(h:Tr [] fs p):dL (kvB (aT p))=2+(2 * (aT p)+ovs (aT p)):=Hb (λb a=>Ia (gV h.rooted h.flat b a))
abbrev osL(o ao:Option (Nat×T))(ots:List (Option (Nat×T)))(j:Nat):List (Option (Nat×T)):=[o,ao]++ots.eraseIdx j
theorem Lk.os(h:Lk n B w D v o ao ots M)(j):∀p∈osL o ao ots j,Tr [] D.fs p:=by
 intro p a;rcases AN.1 a with a|a
 .simp only[AS,FG,KO]at a;rcases a with rfl|rfl
  .exact h.store.sure
  .exact h.store.ahead
 .exact h.ots_mem ((DG _ _).subset a)
theorem Lk.plan(h:Lk n B w D v o ao ots M)(g:B<=400000)(d:n<=4096){j:Nat}(b:j<M.ts)(k:j<D.ts):tL [] n D.fs o (D.ts[j]).cs (eY n (dI (osL o ao ots j)))/\∀p∈osL o ao ots j,∀q∈bI p,q ∉ eY n (dI (osL o ao ots j)):=by
 have⟨l,e,m,r,f,s⟩:=(h.each j b).rise;have a:=h.bounds;have i:=(a.2.2 _ (AA b)).2.2.1;have c:=nR (aT o);rw[h.now]at c;exact qJl h.store.len d (h.os j) σ e f ω
theorem qBp{fs:Fs}:∀(f:List Tx) (ots:List (Option (Nat×T))) (rs:List RT),f.length=rs->ots.length=rs.length->(∀i (h:i<rs.length) (d:i<f.length) (e:i<ots),LkT fs f[i] ots[i] rs[i])->tot (λp=>2 * (aT p)+ovs (aT p)) ots<=tot (λt:RT=>dL t.bg) rs
 |[],[],[],_,_,_=>jU _
 |t :: f,p :: ots,r :: rs,d,e,h3=>by
  have g:=h3 0 σ σ σ;have l:=qBp (fs:=fs) f ots rs ζ ζ (λi a b c=>h3 (i+1) ζ ζ ζ);have j:dL (kvB (aT p))=2+(2 * (aT p)+ovs (aT p)):=Fp g.tr;have k:kvB (aT p)=r.bg:=g.bg;rw[k]at j;simp only[cQ];omega
 |[],_ :: _,[],_,e,_=>by simp at e
 |_ :: _,_,[],d,_,_=>by simp at d
 |[],_,_ :: _,d,_,_=>by simp at d
 |_ :: _,[],_ :: _,_,e,_=>by simp at e
theorem Xd {K:List ByteArray}{o:Option (Nat×T)}(h:Tr K fs o)(a:fs.safe.length<=4096)(l):dI (o :: o :: l)=dI (o :: none :: l):=by
 unfold dI;simp only[AK,gX];rw[zK (ps:=bI o) (λc b=>rC.2 (.inr ⟨b,by have:=Cl h c b;rw[CT];omega⟩))];rfl
theorem Dt(h:Lk n B w D v o ao ots M)(al:(D.fs.life==0)=false)(J:B<=400000)(y:n<=4096)(I:2<=n)(x j r)(a0:cI M.ts x (some (j,r)))(q:r.ch≠[])(S:gS r.ch r.oth=false)(k:j<D.ts)(z:(eY n (dI (osL o ao ots j))).length<(bY o (D.ts[j]).cs (eY n (dI (osL o ao ots j)))).2):
  n<iW M r/\cL 14 #[.p D.d 0,.i x] w λe w'=>e=.r (.i 8)/\∃D',D.sm D'/\Fr (fpD D) w w'/\aI w (fpD D) (fpD D')/\∀m,Lk n (B+1) w' D' v o ao (ots.eraseIdx j) {M with ov:=m,ts:=M.ts.eraseIdx j}:=by
 have Y:=h.len;have a6:=h.n8;have Z:=h.leno;have f:j<M.ts:=ω;obtain⟨H,V⟩:=a0;obtain⟨_,rfl⟩:=AD.1 H;have U:gO D.ts x=j:=by rw[h.idx,V]
 have d:=h.each j f;obtain⟨a9,A,aa,ab,C,ac⟩:=d.rise;have Q:=h.bounds;have a8:=(Q.2.2 _ (AA f)).2.2.1;have l:(M.ts[j]).wr=true:=by
  cases l:(M.ts[j]).wr with
  |true=>rfl
  |false=>exact absurd (d.ro (d.wr▸l)) q
 obtain⟨P,_⟩:=h.plan J y f k;have X:∀c∈(D.ts[j]).cs,c.key ∉ (D.ts[j]).ks:=λc R W=>by
  have:=(d.conf l).1 ⟨c,R,W⟩;rw[S]at this;cases this
 have u:=h.ot_map j k;have s:=h.store.len;constructor
 .have ad:∀(p:Option (Nat×T)),Tr [] D.fs p->dI (osL o p ots j)=dI (osL o ao ots j)->dL (kvB (aT p))<=dL M.ah->n<iW M M.ts[j]:=λp hp hu hr=>by
   have a7:=qEw (K:=[]) (a:=osL o p ots j) y (λq hq=>by
    rcases AS.1 hq with rfl|hq
    .exact h.store.sure
    .rcases AS.1 hq with rfl|hq
     .exact hp
     .exact h.ots_mem ((DG _ _).subset hq)) h.store.sure A C (hu▸z)
   have E:=by
    have:=(rB (eP h.store.sure.rooted) (M.ts[j]).ch (cs:=[]) EH).1;rw[oD (eP h.store.sure.rooted),h.now,<-d.cs]at this;exact this
   have a3:dL ((M.ts[j]).ch.foldl dS M.now)=2+(2 * (bJ (aT o) (D.ts[j]).cs)+ovs (bJ (aT o) (D.ts[j]).cs)):=by
    rw[<-E];exact Hb (λx a2=>Ia (kU (eP h.store.sure.rooted) A (gV h.store.sure.rooted h.store.sure.flat) C x a2))
   have F:=Fp h.store.sure;rw[h.now]at F;have G:=Fp hp;have a4:=qBp D.ts ots M.ts Y Z (λi a b c=>h.each i a);have a5:tot (λp=>2 * (aT p)+ovs (aT p)) (osL o p ots j)<=(2 * (aT o)+ovs (aT o))+((2 * (aT p)+ovs (aT p))+tot (λp=>2 * (aT p)+ovs (aT p)) ots):=by
    have:=vL (λp:Option (Nat×T)=>2 * (aT p)+ovs (aT p)) ots j ω;show tot _ (o :: p :: ots.eraseIdx j)<=_;rw[cQ,cQ];omega
   unfold iW;omega
  rcases h.ah with q|q
  .exact ad ao h.store.ahead rfl (q▸jU _)
  .exact ad none ⟨rfl,trivial,trivial,.inl rfl⟩ (by rw[q];exact(Xd h.store.sure (s▸y) _).symm) (show dL []<=_ from Nat.add_le_add_left (AG _) 2)
 .refine(qMe D x j D.ts[j] w h.db ω k rfl U (λX' g c hD hT=>((Vs (n:=n) D x j D.ts[j] v o ao (otL D.ts ots) w h.db ω k rfl U (BX.2 (λe=>q (d.none_iff.1 e))) X ω h.well h.failed h.ver (η h.vB) h.store I h.root h.aroot (λt a1=>?_) _ (by rw[u,s]) P).1 X' g c hD hT).m ?_)).m ?_
  .obtain⟨a,b⟩:=h.ot_mem ((DG _ _).subset a1);exact⟨a.rooted,b⟩
  .rintro e w' (⟨rfl,_,_,b⟩|⟨_,_,_,_,_,_,(⟨_,(⟨(b|b),_⟩|⟨_,b,_⟩)⟩|⟨_,_,b,_⟩)⟩)
   .exact⟨rfl,b⟩
   .have b:=b;rw[b]at al;cases al
   .exact absurd b.1 ω
   .exact absurd b ω
   .exact absurd b ω
  .rintro e w' ⟨rfl,g,c,L,N,O⟩;exact⟨rfl,D.drop j g c,⟨rfl,rfl,rfl,rfl⟩,N,O,λm=>h.drop f L m⟩
end
structure qSi (M:RM) (j:Nat) (r:RT) (M':RM):Prop where
 now:M'.now=r.ch.foldl dS M.now
 nv:M'.nv=M.nv+1
 ah:M'.ah=M.now
 last:M'.last=M.last
 len:M'.ts.length=(M.ts.eraseIdx j).length
 each:∀i (h:i<(M.ts.eraseIdx j).length) (h':i<M'.ts.length),M'.ts[i].num=(M.ts.eraseIdx j)[i].num/\M'.ts[i].wr=(M.ts.eraseIdx j)[i].wr/\M'.ts[i].bg=(M.ts.eraseIdx j)[i].bg/\M'.ts[i].l=(M.ts.eraseIdx j)[i].l/\M'.ts[i].ch=(M.ts.eraseIdx j)[i].ch/\M'.ts[i].oth=(M.ts.eraseIdx j)[i].oth++r.ch.map (·.key)
section
variable {n B:Nat}{w:World}{D:Db}{v:Nat}{o ao:Option (Nat×T)}{ots:List (Option (Nat×T))}{M:RM}
theorem qIa{d β}(f g):∀(l:List d) (m:List β),l.length=m.length->(∀i (h:i<l.length) (j:i<m.length),f l[i]=g m[i])->tot f l=tot g m
 |[],[],_,_=>rfl
 |[],_ :: _,h,_=>by simp at h
 |_ :: _,[],h,_=>by simp at h
 |x :: l,y :: m,h,he=>by
  have c:=he 0 σ σ;simp only[CX]at c;rw[cQ,cQ,c,qIa f g l m (by simpa using h) (λi a b=>he (i+1) (by simpa using a) (by simpa using b))]
def qSr(n:Nat)(D D':Db)(v:Nat)(o ao:Option (Nat×T))(L:KV):Prop:=(D'.fs=D.fs/\(D.fs.life=0\/D.failed=true))\/((D.failed=false/\¬D.fs.well)/\D'.fs.failed=wrap64 (D.fs.failed+1)/\∃C,fN n (v % 2) D'.fs.safe D'.fs.late v o C/\∀v' t,C v' t->(t=ao/\v'≠v+1/\jS (D.fs.safe.getD (1-v % 2) ⟨#[]⟩) v' (rootOf ao))\/(v'=v+1/\kvB (aT t)=L))
theorem Dr(h:Lk n B w D v o ao ots M)(a2:B<=400000)(am:n<=4096)(H:2<=n)(x j r)(an:cI M.ts x (some (j,r)))(L:r.ch≠[])(ad:gS r.ch r.oth=false)(z:j<D.ts)(aq:¬((D.fs.life==0)=false/\(eY n (dI (osL o ao ots j))).length<(bY o (D.ts[j]).cs (eY n (dI (osL o ao ots j)))).2)):
  cL 14 #[.p D.d 0,.i x] w λe w'=>∃zz D',e=.r (.i zz)/\(D'.d=D.d/\D'.β=D.β)/\Fr (fpD D) w w'/\aI w (fpD D) (fpD D')/\((zz=9/\D'.failed=true/\D'.fs.dy/\qSr n D D' v o ao (r.ch.foldl dS M.now)/\∀i,Lk n (B+1) w' D' v o ao (ots.eraseIdx j) {M with ov:=i,ts:=M.ts.eraseIdx j})\/(zz=0/\D.failed=false/\(D.fs.life==0)=false/\D'.failed=false/\D'.fs.failed=D.fs.failed/\∃o',∀M',qSi M j r M'->Lk n (B+1) w' D' (v+1) o' o (ots.eraseIdx j) M')):=by
 have ba:=h.len;have b4:=h.n8;have bb:=h.leno;have u:j<M.ts:=ω;have⟨a1,ai⟩:=an;obtain⟨_,rfl⟩:=AD.1 a1;have ah:gO D.ts x=j:=by rw[h.idx,ai]
 have m:=h.each j u;have⟨be,bf,bg,bh,bi,bj⟩:=m.rise;have b7:=(h.bounds.2.2 _ (AA u)).2.2.1;have F:(M.ts[j]).wr=true:=by
  cases F:(M.ts[j]).wr with
  |true=>rfl
  |false=>exact absurd (m.ro (m.wr▸F)) L
 have⟨a6,a9⟩:=h.plan a2 am u z;have al:∀c∈(D.ts[j]).cs,c.key ∉ (D.ts[j]).ks:=λc ac ak=>by
  have:=(m.conf F).1 ⟨c,ac,ak⟩;grind
 have P:=h.ot_map j z;have O:=h.store.len;have bd:=h.vB;have Y0:∀t,(aT t).map En.kv=(bJ (aT o) (D.ts[j]).cs).map En.kv->kvB (aT t)=(M.ts[j]).ch.foldl dS M.now:=λt W=>by
   rw[qQn W];have:=(rB (eP h.store.sure.rooted) (M.ts[j]).ch (cs:=[]) EH).1;rw[oD (eP h.store.sure.rooted),h.now,<-m.cs]at this;exact this
 refine((Vs (n:=n) D x j D.ts[j] v o ao (otL D.ts ots) w h.db ω z rfl ah (BX.2 (λe=>L (m.none_iff.1 e))) al ω h.well h.failed h.ver ω h.store H h.root h.aroot (λi l=>?_) _ (by rw[P,O]) a6).2 aq).m ?_
 .obtain⟨a,b⟩:=h.ot_mem ((DG _ _).subset l);exact⟨a.rooted,b⟩
 .rintro e w' ⟨zz,D',g,c,rfl,a3,hR,a4,a5⟩;rcases hR with⟨rfl,(⟨hq,rfl⟩|⟨hq,aa,K,N,ap,hW,rfl⟩)⟩|⟨rfl,bm,aa,K,N,av,G,hW,I,rfl⟩
  .exact⟨9,{D.drop j g c with failed:=true},rfl,⟨rfl,rfl⟩,a4,a5,.inl ⟨rfl,rfl,h.well,.inl ⟨rfl,hq.imp id (λq=>q.2)⟩,λi=>h.dropG (y:=D.lv) (fs:=D.fs) (fd:=true) u a3 h.well (λe=>by cases e) h.store (λ_ _ a=>a) i⟩⟩
  .have J:qBb [] n D.fs o (D.ts[j]).cs (eY n (dI (osL o ao ots j))):=⟨a6,aa⟩;have⟨V,aw,ax,W,X⟩:=nT (h.failed K) J ω H;have hC:=hW.cut rfl;have⟨C,hH,bo⟩:=qLx (h.failed K) J (a9 ao σ) ω H hC;have⟨bn,bl,_⟩:=hH.view;have tr:=λp hp ht=>qQv hC (h.failed K).late (λy hy=>by rw[O];exact(J.free _ (tQ ax y hy)).2) ω ht (λq hq hm=>a9 p hp q hq (by obtain⟨y,hy,rfl⟩:=AY.1 hm;exact tQ ax y hy));refine⟨9,{D.drop j g c with lv:=ap,fs:=N,failed:=true},rfl,⟨rfl,rfl⟩,a4,a5,.inl ⟨rfl,rfl,hW.dy,.inr ⟨⟨K,λe=>by cases hW.well e⟩,hW.failed,C,hH,λv' t q=>(bo v' t q).imp (λq=>⟨q.1,ω,q.2.2⟩) (λq=>⟨q.1,by rw[q.2];exact Y0 _ W⟩)⟩,λi=>h.dropG (y:=ap) (fs:=N) (fd:=true) u a3 hW.dy (λe=>by cases e) ⟨hH.len,bn,bl,tr ao σ h.store.ahead⟩ (λp hp=>tr p (GM _ hp)) i⟩⟩
  have J:qBb [] n D.fs o (D.ts[j]).cs (eY n (dI (osL o ao ots j))):=⟨a6,aa⟩;have⟨V',aw,ax,W,X'⟩:=nT (h.failed K) J ω H;have⟨hs,hl⟩:=hW.ok rfl;have hl2:=hl;have V:=V'.eq hs hl2;have X:=λt a b=>(X' t a b).eq hs hl2;refine⟨0,{(D.drop j g c).made av N (v+1) (rootOf (bY o (D.ts[j]).cs (eY n (dI (osL o ao ots j)))).1) with ts:=G},rfl,⟨rfl,rfl⟩,a4,a5,.inr ⟨rfl,K,bm,K,hW.failed,(bY o (D.ts[j]).cs (eY n (dI (osL o ao ots j)))).1,λM' d=>?_⟩⟩;have Y:=Y0 _ W;have ay:=CJ u;have az:=CJ z;have b0:(ots.eraseIdx j).length=ots.length-1:=CJ ω;have b6:=d.len;have b5:=I.len;have⟨S,b1,b2,a0,b3⟩:=h.few;have bc:=vL (λi:RT=>i.ch) M.ts j u;have b8:=rQ (M.ts[j]).ch M.now;have b9:=h.last1;have R:∀i∈M'.ts,∃s∈M.ts,i.num=s.num/\i.bg=s.bg/\i.oth=s.oth++(M.ts[j]).ch.map (·.key):=λi l=>by
   obtain⟨f,C,rfl⟩:=AW l;have⟨q,_,p,_,_,t⟩:=d.each f ω C;grind
  refine⟨a3,hW.dy,λ_=>V,rfl,rfl,h.root,V.view,by rw[d.nv,h.nv];rfl,by rw[d.last];exact h.last,by rw[d.last];exact h.last0,by rw[d.last];omega,ω,by rw[Y,d.now],.inl (by rw[d.ah];exact h.now),ζ,ω,ω,λf C=>?_,?_,λi l=>?_,S+(M.ts[j]).ch,by rw[d.now];omega,by rw[d.ah];omega,λi l=>by grind,?_⟩
  .have ag:f<(M.ts.eraseIdx j).length:=ω
   have af:f<(D.ts.eraseIdx j).length:=ω
   have aj:f<(ots.eraseIdx j).length:=ω
   have⟨q,T,p,U,y,t⟩:=d.each f ag C;have⟨bk,au,l,ar⟩:=I.each f af;have k:LkT D.fs (D.ts.eraseIdx j)[f] (ots.eraseIdx j)[f] (M.ts.eraseIdx j)[f]:=by
    simp only[LM];split
    .exact h.each f ω
    .exact h.each (f+1) ω
   rw[l];refine⟨q▸k.num,T▸k.wr,X _ k.tr (a9 _ (GM _ (AA aj))),k.root,p▸k.bg,y▸k.cs,y▸k.good,by rw[y,p,U];exact k.l,λae=>by rw[y];exact k.ro ae,λQ A=>?_⟩;rw[t,AN];show A∈au↔_;rw[ar Q A,k.lost Q A,m.keys A]
  .refine BC.2 (λa b a7 ab a8=>?_);rw[(d.each a ω a7).1,(d.each b ω ab).1];exact(BC.1 (h.rise.sublist (DG M.ts j)) a b ω ω a8)
  .have⟨s,E,q,_,_⟩:=R i l;rw[q,d.last];exact h.le s E
  .have Z:tot (λi:RT=>i.ch) M'.ts=tot (λi:RT=>i.ch) (M.ts.eraseIdx j):=qIa _ _ _ _ ω (λf a b=>by rw[(d.each f b a).2.2.2.2.1]);rw[Z];omega
end
open Go.Shelf
attribute [local go_sem] CE
theorem aO.still{w w' c D}(h:aO w c D)(d:aO w' c D)(a:Fr (Bl.one D.d) w w'):bW w w' :=
 ⟨a.os,a.tape,a.output,a.size,λb f=>by
  by_cases e:b=D.d
  .subst e;rw[h.box,d.box]
  .exact a.block b f (λh=>e h)⟩
theorem qRj{xs j x}(h:xs[j]?=some x):(gG xs)[j * 2]?=some (.t x.e.key)/\(gG xs)[j * 2+1]?=some (.t ⟨x.value.toArray⟩):=by
 unfold gG;induction xs generalizing j with
 |nil=>simp at h
 |cons y xs ih =>
  cases j with
  |zero=>simp at h;subst h;simp
  |succ j =>
   simp only[KU]at h;have⟨b,c⟩:=ih h;have a:(j+1) * 2=j * 2+2:=ω;rw[a];simp only[AK];constructor
   .rw[AZ σ];simpa using b
   .rw[AZ σ];simpa using c
theorem qLr(D x xs lo hi b0 b1 b2 b3 Rd w)(h:aO w 0 D)(hsm:xs.length<=1000000)(hScan:∀W,aO W 0 D->cL 61 #[.p D.d 0,.i x,.t lo,.t hi,.i ((9223372036854775807:Nat):Int)] W λe w'=>∃v z,e=.r (.tuple #[v,.i z])/\aO w' 0 D/\Fr (Bl.one D.d) W w'/\w'.ownsRow 0 71 2 v xs.length (gG xs)/\nW v W)(x0:cW w b0 #[.p D.d 0] 29)(x1:cW w b1 #[.i x] 3)(x2:cW w b2 #[.t lo] 9)(x3:cW w b3 #[.t hi] 9)(r0:Rd b0)(r1:Rd b1)(r2:Rd b2)(r3:Rd b3)(rD:∀k,fpD D k->Rd k):
  nG prog 106 #[.p b0 0,.p b1 0,.p b2 0,.p b3 0] Xa xs Rd w:=by
 intro l J Jx Y W m ab sJ lJ ae ac hY h0;refine KX func106 rfl trivial ?_ rfl;simp only[ntmps106,jA,jB,jN,Nat.reduceAdd,Nat.reduceSub,jR,jO,jP,jT,jE,jF];have lY:=lJ [] Y W h0;have hD:=h.on (m.m rD);have c0:=bM (m.heap x0 r0);have c1:=bM (m.heap x1 r1);have c2:=bM (m.heap x2 r2);have c3:=bM (m.heap x3 r3);have a6:=hScan W hD;gi_wp2_with (refine⟨trivial,rfl,?_⟩;gi_at_call 61;refine(BG.2 a6).m ?_;rintro e W1 ⟨v,sz,rfl,T,N,f,E⟩;obtain⟨U,M,rfl⟩:=aG f);have B1:=hD.still T N;have HN:Hid _:=E;have HB:Hid _:=B1;have a1:Hid (W1.ownsRow 0 71 2 (.s U xs M) xs (gG xs)):=f;clear hD T N E B1 f c0 c1 c2 c3;gi_wp2;gi_loopw [20] (λi wr=>∃(j:Nat) (I:Bl),j<=xs/\i=.i j/\J (xs.take j) I wr/\Fr Y W wr/\aI W Y I/\wr.ownsRow 0 71 2 (.s U xs M) xs (gG xs)/\∀k,(Value.s U xs M).ownBlock=some k->¬I k) (λi _=>xs-(intOf i).toNat)
 case atStart =>
  exact⟨0,Y,AG _,rfl,by simpa using sJ _ _ _ _ h0 (vV HB.o lY),AB HB.o,CS _ _,a1.o,λk b hy=>by have:=HN.o k b;have:=lY k hy;omega⟩
 case round =>
  obtain⟨j,I,hj,rfl,L,hF,K,C,S⟩:=hrel;by_cases hlt:j<xs
  .have aa:(j:Int)<(xs.length:Int):=ω
   have X:=jQ hlt;obtain⟨y,a5⟩:=nM (xs[j]);rw[a5]at X;obtain⟨q1,q2⟩:=qRj X;obtain⟨g,hg,a7,af,O⟩:=gU C q1;obtain⟨g',a2,_,_,F⟩:=gU C q2;subst hg;cases a2;obtain⟨w1,a0,-,z1,-⟩:=al1 wr (.cells #[.t y.e.key,.t ⟨y.value.toArray⟩] 71);have H:Fr Bl.none wr w1:=a0▸(AE _ wr).alloc _;have Q:=hF.t (H.m (λ_ h=>h.elim));have a4:=lJ _ _ _ L;have o1:=H.on (λk b=>⟨a4 k b,λh=>h⟩);obtain⟨fn,a8,V,a9,ad,a3⟩:=hY _ y _ #[.t y.e.key,.t ⟨y.value.toArray⟩] Bl.none I w1 (yL X) (sJ _ _ _ _ L o1) rfl (λ_ h=>h.elim) Q K;obtain⟨m0,m1⟩:=cM z1;have n:=aS C (H.on (Z:=λk=>Value.ownBlock _=some k) (λk b=>⟨aL C b,λh=>h⟩)) (λk b=>b);gi_wp2;refine⟨rfl,(fK a3).m ?_⟩;have HT:Hid (xs.take (j+1)=xs.take j++[y]):=sB X;rintro e W3 (⟨rfl,Y3,G,u,B⟩|⟨rfl,Y3,G,u,B⟩)
   .have F3:=Q.grow u K;have G3:=K.t Q.size B;have R:=aS n (u.on (Z:=λk=>Value.ownBlock _=some k) (λk b=>⟨aL n b,S k b⟩)) (λk b=>b);have n3:∀k,(Value.q g xs M).ownBlock=some k->¬Y3 k:=λk b hy=>by
     rcases B k hy with h'|h'
     .exact S k b h'
     .have:=aL n b;omega
    clear L O F m0 m1 z1;gi_wp2;go_roundw
    case rel=>exact⟨j+1,Y3,ω,ν,HT.o▸G,F3,G3,R,n3⟩
    case measure=>simp[intOf];omega
   .clear L O F m0 m1 z1
    gi_wp2;refine BH (EU rfl _ _ _) rfl ?_;refine⟨⟨_,rfl⟩,Y3,Q.grow u K,K.t Q.size B,.inr ⟨_,?_,?_,G⟩⟩
    .rw[<-HT.o];exact List.take_prefix _ _
    .simp
  .obtain rfl:j=xs:=ω;have HJ:Hid (J xs I wr):=by rw[BN]at L;exact L
   gi_wp2;go_end0;exact⟨⟨_,rfl⟩,I,hF,K,.inl HJ.o⟩
theorem qGw(d x lo hi)(o:lo.size<=2000000)(A:hi.size<=2000000)(w):
  cL 65 #[.p d 0,.i x,.t lo,.t hi] w λe w' =>
   e=.r (.func (.func 106) #[] #[.p w 0,.p (w+1) 0,.p (w+1+1) 0,.p (w+1+1+1) 0]) /\
   cW w' w #[.p d 0] 29/\cW w' (w+1) #[.i x] 3/\cW w' (w+1+1) #[.t lo] 9/\cW w' (w+1+1+1) #[.t hi] 9/\bW w w':=by
 obtain⟨a,g,t,D,E,j,k,-⟩:=al4 w (.cells #[.p d 0] 29) (.cells #[.i x] 3) (.cells #[.t lo] 9) (.cells #[.t hi] 9); have l:Hid (∀X,bW a X->X.c (w+1+1) 0=some (.t lo)/\X.c (w+1+1+1) 0=some (.t hi)/\X.setCell (aD (w+1+1) 0) (.t lo)=X/\X.setCell (aD (w+1+1+1) 0) (.t hi)=X/\(∀p,X.frozen? (aD (w+1+1) p)=false)/\∀p,X.frozen? (aD (w+1+1+1) p)=false):=λX c=>by
  have q:=c.kp j;have r:=c.kp k;exact⟨bM q,bM r,cH q rfl,cH r rfl,aF q,aF r⟩
 have f:Hid (∀(s:ByteArray) X,s.size<=2000000->cL 41 #[.t s] X λe w'=>e=.r (.t s)/\bW X w'):=λs X P=>sF s ω X;have b:bW a a.drew:=(AC _ _).drew;have⟨h,i,B,C,v,y⟩:=l a.drew b;have n:=f lo a.drew o;have z:=f hi a.drew A;have F:Hid (∀X,bW a X->cW X w #[.p d 0] 29/\cW X (w+1) #[.i x] 3/\cW X (w+1+1) #[.t lo] 9/\cW X (w+1+1+1) #[.t hi] 9/\bW w X):=λX c =>
  ⟨c.kp D,c.kp E,c.kp j,c.kp k,t.tm c⟩
 go_enter func65,ntmps65;go_wp2;go_region_held3 (λX=>X.c (w+1+1) 0=some (.t lo)/\X.c (w+1+1+1) 0=some (.t hi))
  ((first|exact⟨h,i⟩|(simp[h,i])))
  (first
   |(apply Calls.m n;rintro e m ⟨rfl,N⟩;have b:=b.t N;have⟨h,i,B,C,v,y⟩:=l m b;have z:=f hi m A;have n:=f lo m o)
   |(apply Calls.m z;rintro e u ⟨rfl,O⟩;have b:=b.tm O;have⟨h,i,B,C,v,y⟩:=l u b;have n:=f lo u o))
 all_goals
  have⟨I,J,K,L,M⟩:=F _ b;go_wp2;go_ret;exact⟨rfl,I,J,K,L,M⟩
def mkE(x:ByteArray×ByteArray):En:=⟨⟨x.1,x.2,x.2.size,0⟩,[]⟩
theorem Lx(x):(⟨(mkE x).value.toArray⟩:ByteArray)=x.2:=by
 unfold En.value mkE;rw[AU rfl]
theorem Gl:∀(l:KV),gG (l.map mkE)=aJ l
 |[]=>rfl
 |x :: l=>by
  have:=Gl l;simp only[gG,aJ,BE,AK,Lx]at this⊢;rw[this];rfl
section
variable {n B:Nat}{w:World}{D:Db}{v:Nat}{o ao:Option (Nat×T)}{ots:List (Option (Nat×T))}{M:RM}
theorem Ld(r lo hi most)(h:∀j t,r=some (j,t)->t.l<=B):(cU r lo hi most).1<=B:=by
 cases r with
 |none=>exact AG _
 |some p =>
  have⟨j,t⟩:=p;have:=h j t rfl;simp only[cU];split
  .have a:(tJ t.l lo hi most.toNat).Sublist t.l:=((GN _ _).t (List.takeWhile_sublist _)).t (FT _ _);grind
  simp
theorem qOv(h:Lk n B w D v o ao ots M)(g:B<=900000)(x lo hi r)(f:cI M.ts x r)(a b c d Rd)(C:cW w a #[.p D.d 0] 29)(l:cW w b #[.i x] 3)(F:cW w c #[.t lo] 9)(p:cW w d #[.t hi] 9)(s:Rd a)(t:Rd b)(u:Rd c)(y:Rd d)(z:∀k,fpD D k->Rd k):∃L,(L=(cU r lo hi 9223372036854775807).1\/(L=[]/\D.fs.life=0))/\
  nG prog 106 #[.p a 0,.p b 0,.p c 0,.p d 0] Xa (L.map mkE) Rd w:=by
 have⟨e,G,J⟩:=Oc h g x lo hi 9223372036854775807 ω r f;refine⟨e.1,G.imp (BR _) (λq=>⟨by rw[q.1],q.2.1⟩),?_⟩;refine qLr D x _ lo hi a b c d Rd w h.db ?_ (λW m=>by apply(J W m).m;rintro j w' ⟨I,rfl,i,A,q,E⟩;exact⟨I,_,rfl,i,A,by rw[AF,Gl];exact q,E⟩) C l F p s t u y z
 .rw[AF];have:=Ld (B:=B) r lo hi 9223372036854775807 (λH e j=>by
   subst j;exact(h.bounds.2.2 e (BI f.1)).2.1)
  rcases G with q|q
  .rw[q];omega
  .rw[q.1];simp
end
variable {B B' n q v:Nat} {M:RM} {ao o:Option (Nat×T)} {d w:World} {fs:Fs}
theorem qJv(w):cL 11 #[.pointer none] w λe w'=>e=.r (.tuple #[.pointer none,.i 1])/\w'=w:=by
 go_enter func11,ntmps11;go_wp2;go_ret2;exact⟨rfl,rfl⟩
theorem qJw(β sv lv fs w)(b:aA w β sv lv fs)(d:fs.safe.length<40):cL 11 #[.p β 0] w λe w'=>e=.r (.tuple #[.pointer none,.i 1])/\w'=w:=by
 have c:(fs.safe.length:Int)<40:=ω;go_enter func11,ntmps11;go_wp2_with (apply Calls.w (mI β sv lv fs w b));go_ret2;exact⟨rfl,rfl⟩
theorem Lk.opened {D:Db}(d:aO w 0 D)(y:D.fs.dy)(S:dN [] n D.fs v o ao)(p:D.ver=v)(q:D.root=rootOf o)(i:D.aroot=rootOf ao)(t:D.last=0)(u:D.ts=[])(a:M.ts=[])(f:M.last=0)(H:M.nv=v)(j:kvB (aT o)=M.now)(k:kvB (aT ao)=M.ah\/ao=o)(e:v<=B)(x:M.now<=B)(z:M.ah<=B):Lk n B w D v o ao [] M:=by
 have h:∀c∈M.ts,False:=λc b=>ζ
 exact{db:=d,well:=y,failed:=λ_=>S,ver:=p,root:=q,aroot:=i,store:=S.view,nv:=H,last:=by rw[t,f],last0:=by omega,last1:=by rw[f];omega,vB:=e,now:=j,ah:=k,len:=by rw[u,a];rfl,leno:=by rw[a];rfl,n8:=ζ,each:=λl g=>ζ,rise:=by simp_all,le:=λc b=>(h c b).elim,few:=⟨B,x,z,λc b=>(h c b).elim,a▸jU _⟩}
theorem qBy {L:KV}(S:dN [] n fs v o ao)(k:40<=n)(g:fs.well)(β sv lv w)(E:aA w β sv lv fs)(I:v<=B)(N:B<=400000)(G:(aT o)<=B)(t:kvB (aT ao)=L\/ao=o)(A:L<=B):
  cL 11 #[.p β 0] w λe w'=>∃(D:Db) (ao':Option (Nat×T)),e=.r (.tuple #[.p D.d 0,.i 0])/\D.β=β/\D.failed=false/\D.fs.well/\Fr (fpF β sv lv) w w'/\aI w (fpF β sv lv) (fpD D)/\∀M:RM,M.ts=[]->M.last=0->M.nv=v->M.now=kvB (aT o)->M.ah=L->Lk n B w' D v o ao' [] M:=by
 obtain⟨R,O,-,z⟩:=S.hold;apply(Rz z k ω ⟨by rw[g.1];decide,by rw[g.1];decide,by rw[g.2];decide,by rw[g.2];decide⟩ β sv lv w E).m;rintro e w' ⟨x,⟨_,_,_,_,_,_,_,h,_⟩|⟨D,Q,P,i,rfl,u,H,_,j,l,m,p,q,r,s,K,J,F,C,f,y⟩⟩
 .exact absurd g h
 rcases f with⟨rfl,rfl,f⟩|⟨_,_,f⟩
 .exact⟨D,i,rfl,H,p,F.2 g,x,y,λM a b c d e=>Lk.opened u s C j l m q r a b c d.symm (by
   rw[e];rcases f with⟨_,_,⟨_,f⟩|⟨_,_,f⟩⟩
   .exact .inr f
   .subst f;exact t) I (by rw[d,nR];exact G) (e▸A)⟩
 .omega
theorem pF(β sv lv fs w)(h:aA w β sv lv fs):
  cL 50 #[.p β 0] w λe w'=>e=.r (.i fs.failed)/\w'=w:=by
 have⟨a,b,c,d,f⟩:=cS h.box;go_enter func50,ntmps50;go_wp2;go_ret;simp
theorem tP(q β sv lv fs w)(b:aA w β sv lv fs)(d:w.c q 0=some (.p β 0))(z):
  cL 51 #[.p q 0,.i z] w λe w'=>e=.r (.bool (decide (z<fs.failed)||fs.life==0))/\w'=w:=by
 have a:=fH β sv lv fs w b;cases hl:fs.life==0<;>by_cases hz:z<fs.failed;all_goals rw[hl]at a
 all_goals go_enter func51,ntmps51
 all_goals go_wp2_with (first|(apply Calls.w (pF β sv lv fs w b))|(apply Calls.w a))
 all_goals refine BH (v:=.bool _) ?_ rfl ⟨rfl,rfl⟩
 all_goals simp[results,results51,go_sem,hz,hl]
theorem qOg(q β sv lv fs w)(b:aA w β sv lv fs)(d:w.c q 0=some (.p β 0))(sp)(f:w.c q 12=some (.bool sp))(z)(h10:(z==10)=false):
  cL 60 #[.p q 0,.i z] w λe w'=>e=.r (.bool (z==9&&fs.life==0))/\w'=w:=by
 have a:=fH β sv lv fs w b;cases hl:fs.life==0<;>cases h9:z==9<;>cases sp;all_goals rw[hl]at a
 all_goals go_enter func60,ntmps60
 all_goals go_wp2_with (apply Calls.w a)
 all_goals refine BH (v:=.bool _) ?_ rfl ⟨rfl,rfl⟩
 all_goals simp[results,results60,go_sem,h9,h10,hl]
theorem qBu:∀(a:List RT) (j:Nat) (t t':RT),a[j]?=some t->t'.num=t.num->t'.wr=t.wr->t'.vb=t.vb->t'.bv=t.bv->t'.vl=t.vl->t'.vc=t.vc->(a.flatMap RT.cells).set (j * 7+6) t'.vo=(a.set j t').flatMap RT.cells
 |[],_,_,_,h,_,_,_,_,_,_=>by simp at h
 |x :: a,0,t,t',h,h1,h2,h3,h4,h5,h6=>by
  simp_all
 |x :: a,j+1,t,t',h,h1,h2,h3,h4,h5,h6=>by
  rw[jX,AK,AK,<-(qBu a j t t' ζ h1 h2 h3 h4 h5 h6)];grind
def RT.lost(t:RT)(key:ByteArray)(vo:Value):RT:={t with oth:=t.oth++[key],vo:=vo}
theorem aV.lose {w X3 d:World}{K:Bl}(h:aV w K q M){j:Nat}{t:RT}(u:M.ts[j]?=some t){g c:Nat}(e:M.ov=.q g M.ts c)(key){b:Value}(m:fO 9 1 t.vo t.oth (t.oth.map .string) [.t key] 1 w b X3)(A:d=X3.setCell (aD g (j * 7+6)) b):
  aV d K q {M with ts:=M.ts.set j (t.lost key b)}/\Fr (fpR q M) w d/\∀k,Bl.or K (fpR q {M with ts:=M.ts.set j (t.lost key b)}) k->Bl.or K (fpR q M) k\/w<=k:=by
 obtain⟨T,_⟩:=AD.1 u;have o:=BI u;have l:=h.each t o;have I:M.ov.ownBlock=some g:=by rw[e];rfl
 have N:=h.row.1;have L:=m.keeps h.row (dU h.row l.oth δ);have E:=A▸(AE (Bl.one g) X3).s g (j * 7+6);have S:d.ownsRow 0 119 7 M.ov M.ts ((M.ts.set j (t.lost key b)).flatMap RT.cells):=by
  have:=dT (e▸L) (j * 7+6) ω b;rw[A,e,<-qBu M.ts j t (t.lost key b) u rfl rfl rfl rfl rfl rfl];exact this
 have F:∀{r:TypeId}{D n:Nat}{v:Value}{C:List Value},X3.ownsRow 0 r D v n C->r≠119->d.ownsRow 0 r D v n C:=λ{r D n v C} x P=>aS x (E.on (Z:=λk=>v.ownBlock=some k) (λk a=>⟨aL x a,λf=>by
  simp only[Bl.one]at f;rcases dU x L P with i|i
  .grind
  grind⟩)) (λk a=>a)
 have Q:=F m.row δ;have p:Fr (λk=>k=g\/fpX t k) w d:=(m.fr.m (λk a=>.inl (.inr (.inr a)))).t (E.m (λk a=>.inl (.inl a)));have G:=p.on (λk a=>⟨(h.kp k a).1,λB=>by
  rcases B with f|B
  .exact(h.kp k a).2.2.1 (by rw[I,f])
  .exact(h.kp k a).2.2.2 t o B⟩)
 have y:∀k,fpX (t.lost key b) k->fpX t k\/w<=k:=λk a=>by
  rcases a with a|a
  .exact .inl (.inl a)
  .exact(m.lies k a).imp .inr id
 have R:=h.retx (t':=t.lost key b) (K':=K) u e (λk a=>.inl a) (λk a=>a) p S ⟨l.bg.on G,l.l.on G,F (m.keeps l.ch (dU l.ch l.oth δ)) δ,by simpa[RT.lost] using Q⟩ y (λk a=>jY (h.kp k a).1 p.size) (λk a H=>by
  rcases y k a with i|i
  .exact(h.kp k H).2.2.2 t o i
  .have:=(h.kp k H).1;omega)
 refine⟨R,p.m (λk a=>.inl ?_),λk a=>?_⟩
 .rcases a with f|a
  .exact .inr (.inl (by rw[I,f]))
  .exact .inr (.inr ⟨t,o,a⟩)
 .rcases a with a|rfl|a|⟨s,z,a⟩
  .exact .inl (.inl a)
  .exact .inl (.inr (.inl rfl))
  .exact .inl (.inr (.inr (.inl a)))
  .rcases DS z with z|rfl
   .exact .inl (.inr (.inr (.inr ⟨s,z,a⟩)))
   .exact(y k a).imp (λJ=>.inr (.inr (.inr ⟨t,o,J⟩))) id
section
variable{w w':World}{K K':Bl}{q:Nat}{M M':RM}
theorem aV.keep(h:aV w K q M)(g:Fr (Bl.one q) w w'):On K w w'/\∀b,K b->b<w'/\¬fpR q M b:=⟨g.on (λd a=>⟨(h.kp d a).1,λb=>(h.kp d a).2.1 b⟩),λb a=>⟨jY (h.kp b a).1 g.size,λc=>by
 have:=h.kp b a;rcases c with c|c|⟨o,l,c⟩
 .exact this.2.1 c
 .exact this.2.2.1 c
 .exact this.2.2.2 o l c⟩⟩
theorem aV.reobj(h:aV w K q M)(g:Fr (Bl.one q) w w')(t:w'.1[q]?=some M'.obj)(k:∀b,K b->K' b)(u:∀b,K' b->b<w'/\¬fpR q M b)(n:fD w' K' M'.vn M'.now)(v:Kv2 w' K' M')(B:(M'.ov=M.ov/\M'.ts=M.ts)\/(M'.ov=.n/\M'.ts=[])):aV w' K' q M':=by
 have m:=(h.keep g).1;have f:∀{c:TypeId}{p n:Nat}{e:Value}{j:List Value},w.ownsRow 0 c p e n j->c≠43->w'.ownsRow 0 c p e n j:=λ{c p n e j} i x=>aS i (g.on (Z:=λk=>e.ownBlock=some k) (λk a=>⟨aL i a,λs=>by cases s;exact aQ i h.box (λb=>x b.symm) a⟩)) (λk a=>a);rcases B with⟨e,d⟩|⟨e,d⟩
 .exact⟨t,by rw[e,d];exact f h.row δ,n,v,λo l=>by
   rw[d]at l;have d:=h.each o l;exact⟨(d.bg.on m).m k,(d.l.on m).m k,f d.ch δ,f d.oth δ⟩,d▸h.apart,λb a=>by
   rw[e,d];have⟨r,z⟩:=u b a;exact⟨r,λc=>z (.inl c),λc=>z (.inr (.inl c)),λo l y=>z (.inr (.inr ⟨o,l,y⟩))⟩⟩
 .exact⟨t,by rw[e,d];exact AO _ _ _ _,n,v,λo l=>(by rw[d]at l;cases l),d▸EH,λb a=>by
   have⟨r,z⟩:=u b a;rw[e,d];exact⟨r,λc=>z (.inl c),ι,λo l=>(by cases l)⟩⟩
theorem aV.renow(h:aV w K q M){v:Value}{L:KV}(y:w.ownsRow 0 71 2 v L (aJ L))(u:∀k,v.ownBlock=some k->¬fpR q M k)(z)(g:Fr (Bl.one q) w w')(t:w'.1[q]?=some ({M with va:=M.vn,av:=M.nv,ah:=M.now,vn:=v,nv:=z,now:=L}:RM).obj):
  aV w' (λk=>K k\/v.ownBlock=some k) q {M with va:=M.vn,av:=M.nv,ah:=M.now,vn:=v,nv:=z,now:=L}:=by
 have⟨m,i⟩:=h.keep g;have f:=aS y (g.on (Z:=λk=>v.ownBlock=some k) (λk a=>⟨aL y a,λs=>u k a (.inl s)⟩)) (λk a=>a);exact h.reobj g t (λb a=>.inl a) (λb a=>a.elim (i b) (λa=>⟨aL f a,u b a⟩)) ((KN f).m (λk a=>.inr a)) ⟨(h.now.on m).m (λk a=>.inl a),(h.ah.2.on m).m (λk a=>.inl a)⟩ (.inl ⟨rfl,rfl⟩)
end
theorem mQ {a b C:Bl}(h:∀k,a k->¬C k)(e:lW C w)(f:∀k,b k->a k\/w<=k):∀k,b k->¬C k:=λk g d=>by
 grind
theorem aV.aside {w w' K Y}(h:aV w K q M)(b:Fr Y w w')(c:∀k,Y k->¬Bl.or K (fpR q M) k):aV w' K q M:=h.on (b.on (λk a=>⟨h.lies k a,λd=>c k d a⟩))
theorem aO.aside{w w' Y D}(h:aO w 0 D)(b:Fr Y w w')(c:∀k,Y k->¬fpD D k):aO w' 0 D:=h.on (b.on (λk a=>⟨h.lies k a,λd=>c k d a⟩))
theorem fN.store {n q v v1:Nat}{C:Nat->Option (Nat×T)->Prop}(H:fN n q fs.safe fs.late v o C)(S:dN [] n fs v o ao)(s:2<=n)(d:v+1<524288)(a:jS (fs.safe.getD (1-v % 2) ⟨#[]⟩) v1 (rootOf ao))(e:v1+1=v):C v1 ao:=by
 have l:=S.late;have g:=H.hq;rw[l]at H
 have m:bT fs ((v+1) % 2) v1 (rootOf ao):=by unfold bT Fs.at;rw[l,show(v+1) % 2=1-v % 2 by omega];exact a
 have c:1-q=v % 2\/1-q=(v+1) % 2:=ω
 rcases H.two l s d with⟨t,T,v',b,h⟩|⟨t,_,T⟩|b|⟨v',t,_,_,b,h⟩
 .obtain⟨rfl,f⟩:=rG b m
  rcases h with⟨h,_⟩|⟨_,h⟩
  .omega
  .obtain rfl:=Fz (by rw[<-f];exact T.ahead.rooted) S.ahead.rooted;exact h
 .have:=rG T.meta0 m;omega
 .rcases c with c|c<;>rw[c]at b
  .exact(Fa S.meta0 b).elim
  .exact(Fa m b).elim
 .rcases c with c|c<;>rw[c]at b
  .exact(wC h (S.sure.eq (fs:=fs) (a:=bare fs.safe) rfl l.symm) (rG b S.meta0).2).elim
  .exact(wC h (S.ahead.eq (fs:=fs) (a:=bare fs.safe) rfl l.symm) (rG b m).2).elim
def qSj(M:RM)(v:Nat)(o:Option (Nat×T))(C:Nat->Option (Nat×T)->Prop):Prop:=(∃u,M.p1=.int .i64 u/\(M.p2=.bool true->u=v+1))/\(M.av=v->M.ah=M.now\/(M.p4=.bool true/\M.p5=.bool false))/\∀v' t,C v' t->(v'=v+1->M.p2=.bool true/\kvB (aT t)=M.oth)/\(v'≠v+1->kvB (aT t)=M.ah\/t=o)/\(v'+1=v->kvB (aT t)=M.ah/\M.av=v')
def Safe(n:Nat)(fs:Fs)(v:Nat)(o:Option (Nat×T))(M:RM):Prop:=∃q C,fN n q fs.safe fs.late v o C/\qSj M v o C
def Fl(B:Nat)(fs:Fs)(M:RM):Prop:=0<=fs.failed/\fs.failed<=B/\M.oth.length<=B/\∀x∈M.ah,x.2.size<=400
theorem Fl.more {B b:Nat}(h:Fl B fs M)(d:B<=b):Fl b fs M:=⟨h.1,by have:=h.2.1;omega,by have:=h.2.2.1;omega,h.2.2.2⟩
structure Wd (n B:Nat) (w:World) (q:Nat) (Bk K:Bl) (D:Db) (v:Nat) (o ao:Option (Nat×T)) (ots:List (Option (Nat×T))) (M:RM):Prop where
 ref:aV w K q M
 lk:Lk n B w D v o ao ots M
 f:M.f=.pointer (some (aD D.β 0))
 x:M.x=.pointer (some (aD D.d 0))
 twice:M.p2=.bool D.failed
 broken:M.p3=.bool D.failed
 safe:Safe n D.fs v o M
 fl:Fl B D.fs M
 spoiled:∃b,M.p4=.bool b
 meta':M.p5=.bool false/\M.p6=.slice none 0 0/\M.p7=.slice none 0 0/\M.p8=.slice none 0 0
 apart:∀k,fpD D k->¬Bl.or K (fpR q M) k/\¬Bk k
 book:∀k,Bk k->k<w.1.size/\¬Bl.or K (fpR q M) k
def Lw(n B:Nat)(w:World)(q:Nat)(Bk:Bl)(vp:Value):Prop:=∃K D v o ao ots M,Wd n B w q Bk K D v o ao ots M/\M.p9=vp
section
variable {n B:Nat}{w w':World}{q:Nat}{Bk K:Bl}{D:Db}{v:Nat}{o ao:Option (Nat×T)}{ots:List (Option (Nat×T))}{M:RM}
theorem Wd.still (h:Wd n B w q Bk K D v o ao ots M)(e:aO w' 0 D)(c:Fr (Bl.one D.d) w w')(d:B<=B'):Wd n B' w' q Bk K D v o ao ots M :=
 ⟨h.ref.aside c (λb a=>by cases a;exact(h.apart _ (.inl rfl)).1),h.lk.more e d,h.f,h.x,h.twice,h.broken,h.safe,h.fl.more d,h.spoiled,h.meta',h.apart,λb a=>⟨jY (h.book b a).1 c.size,(h.book b a).2⟩⟩
theorem Wd.below(h:Wd n B w q Bk K D v o ao ots M)(a:bW w w'):Wd n B w' q Bk K D v o ao ots M :=
 ⟨h.ref.below a,h.lk.more (h.lk.db.bl a) (jU _),h.f,h.x,h.twice,h.broken,h.safe,h.fl,h.spoiled,h.meta',h.apart,λc b=>⟨jY (h.book c b).1 a.size,(h.book c b).2⟩⟩
theorem Wd.both (h:Wd n B w q Bk K D v o ao ots M){D':Db}{K':Bl}{M':RM}{B' v':Nat}{o' ao':Option (Nat×T)}{ots':List (Option (Nat×T))}(z:D'.d=D.d)(E:D'.β=D.β)(x:Fr (fpD D) w d)(j:aI w (fpD D) (fpD D'))(e:Lk n B' d D' v' o' ao' ots' M')(y:aV w' K' q M')(i:Fr (fpR q M) d w')(l:∀k,Bl.or K' (fpR q M') k->Bl.or K (fpR q M) k\/d<=k)(t:M'.f=M.f)(u:M'.x=M.x)(p:M'.p2=.bool D'.failed)(A:M'.p3=.bool D'.failed)(s:M'.p4=M.p4)(b:M'.p5=M.p5/\M'.p6=M.p6/\M'.p7=M.p7/\M'.p8=M.p8/\M'.p9=M.p9)(S:Safe n D'.fs v' o' M')(r:Fl B' D'.fs M'):Lw n B' w' q Bk M.p9:=by
 have F:=x.size;have G:=i.size;have C:=e.db.lies;have g:=mQ (w:=w) (λk a=>(h.apart k a).1) h.ref.lies j;refine⟨K',D',v',o',ao',ots',M',⟨y,e.more (e.db.aside i (λk a m=>g k m (.inr a))) (jU _),by rw[t,h.f,E],by rw[u,h.x,z],p,A,S,r,by rw[s];exact h.spoiled,by rw[b.1,b.2.1,b.2.2.1,b.2.2.2.1];exact h.meta',λk a=>⟨λf=>ζ,(mQ (w:=w) (λk a=>(h.apart k a).2) (λk a=>(h.book k a).1) j) k a⟩,λk a=>⟨by have:=(h.book k a).1;omega,λf=>?_⟩⟩,b.2.2.2.2⟩
 .rcases l k f with c|c
  .exact(h.book k a).2 c
  .have:=(h.book k a).1;omega
theorem Wd.bothS (h:Wd n B w q Bk K D v o ao ots M){D':Db}{K':Bl}{M':RM}{ao':Option (Nat×T)}{ots':List (Option (Nat×T))}(z:D.sm D')(x:Fr (fpD D) w d)(j:aI w (fpD D) (fpD D'))(e:Lk n B' d D' v o ao' ots' M')(g:B<=B')(y:aV w' K' q M')(i:Fr (fpR q M) d w')(l:∀k,Bl.or K' (fpR q M') k->Bl.or K (fpR q M) k\/d<=k)(t:M'.f=M.f)(u:M'.x=M.x)(p:M'.p2=M.p2)(a:M'.p3=M.p3)(s:M'.p4=M.p4)(b:M'.p5=M.p5/\M'.p6=M.p6/\M'.p7=M.p7/\M'.p8=M.p8/\M'.p9=M.p9)(c:M'.p1=M.p1/\M'.oth=M.oth/\(M'.ah,M'.av)=(M.ah,M.av)):Lw n B' w' q Bk M.p9:=by
 have⟨f,H,F,m⟩:=z;have⟨L,C,G,I⟩:=h.safe;obtain⟨E,A,r⟩:=c;obtain⟨r,J⟩:=GE r;exact h.both f H x j e y i l t u (by rw[p,m];exact h.twice) (by rw[a,m];exact h.broken) s b ⟨L,C,ζ,by unfold qSj;rw[p,E,A,r,J,s,b.1,<-e.now,h.lk.now];exact I⟩ (by have:=h.fl.more g;unfold Fl at this⊢;grind)
end
structure OpV where
 kind:Int
 tx:Int
 p:ByteArray
 q:ByteArray
 n:Int
 wr:Bool
 ka:Option Addr
 kn:Nat
 kc:Nat
abbrev OpV.cells(o:OpV):Array Value:=#[.int .i64 o.kind,.int .i64 o.tx,.string o.p,.string o.q,.int .i64 o.n,.bool o.wr,.slice o.ka o.kn o.kc]
section
variable {n B:Nat}{w:World}{q:Nat}{Bk K:Bl}{D:Db}{v:Nat}{o ao:Option (Nat×T)}{ots:List (Option (Nat×T))}{M:RM}
theorem Wd.box(h:Wd n B w q Bk K D v o ao ots M)(e):Wd n B (w.alloc e) q (Bl.or Bk (Bl.one w)) K D v o ao ots M:=by
 have f:bW w (w.alloc e):=bA _ _;have d:=h.below f;refine⟨d.ref,d.lk,h.f,h.x,h.twice,h.broken,h.safe,h.fl,h.spoiled,h.meta',λc a=>⟨(h.apart c a).1,λb=>?_⟩,λc a=>?_⟩
 .rcases b with b|b
  .exact(h.apart c a).2 b
  .cases b;have:=h.lk.db.lies _ a;omega
 .rcases a with a|a
  .exact d.book c a
  .cases a;exact⟨σ,λb=>by have:=h.ref.lies _ b;omega⟩
theorem Wd.less(h:Wd n B w q Bk K D v o ao ots M){b}(c:∀k,b k->Bk k):Wd n B w q b K D v o ao ots M:=⟨h.ref,h.lk,h.f,h.x,h.twice,h.broken,h.safe,h.fl,h.spoiled,h.meta',λk a=>⟨(h.apart k a).1,λd=>(h.apart k a).2 (c k d)⟩,λk a=>h.book k (c k a)⟩
theorem qLv(h:Wd n B w q Bk K D v o ao ots M)(hB:B<=400000)(x key r)(ho:cI M.ts x r):∃z,(z=gP r key\/(z=9/\D.fs.life=0/\pV r key=0))/\
  cL 71 #[.p D.d 0,.i x,.t key] w λe w1=>e=.r (.i z)/\aV w1 K q M/\On Bk w w1/\w.1.size<=w1/\(∃D1,D1.β=D.β/\aO w1 0 D1/\D1.fs=D.fs/\∀k,fpD D1 k->¬Bl.or K (fpR q M) k/\¬Bk k)/\(z≠gP r key->Lw n (B+1) w1 q Bk M.p9)/\(z=gP r key->
   ∀X,bW w1 X->cL 73 #[.p q 2,.i x,.t key] X λe w'=>e=.r (.i (gP r key))/\On Bk w w'/\Lw n (B+1) w' q Bk M.p9):=by
 have hb:=h.lk.bounds;have h8:=h.lk.n8;have⟨z,Q,U⟩:=qQu h.lk ω x key r ho;refine⟨z,Q,?_⟩;apply U.m;rintro e w1 ⟨rfl,N,s,H,I,O⟩;have hz:=H.size;have ap:=λk g=>(h.apart k g).1;have m:=h.ref.aside H ap;have W:=H.on (λk g=>⟨(h.book k g).1,λS=>(h.apart k S).2 g⟩);have R:∀k,fpD N k->¬Bl.or K (fpR q M) k/\¬Bk k:=λk g=>⟨mQ (w:=w) ap h.ref.lies I k g,mQ (w:=w) (λk g=>(h.apart k g).2) (λk g=>(h.book k g).1) I k g⟩;have a0:aO w1 0 N:=by
  rcases O with⟨_,A⟩|⟨j,t,Z,_,_,_,_,_,_,A⟩
  .exact A.db
  .exact(A (.bool false) (.bool false)).db
 refine⟨rfl,m,W,hz,⟨N,s.2.1,a0,s.2.2.1,R⟩,λJ=>?_,λL X G=>?_⟩
 .rcases O with⟨_,A⟩|⟨j,t,Z,_,_,_,_,q1,q2,_⟩
  .exact h.bothS s H I A ω m (AE _ _) (λk g=>.inl g) rfl rfl rfl rfl rfl ⟨rfl,rfl,rfl,rfl,rfl⟩ ⟨rfl,rfl,rfl⟩
  .exact absurd (q2.t q1.symm) J
 have a1:=G.size;have F:=m.below G;have C:∀t∈M.ts,t.l.length<=1000000:=λt ht=>by have:=(hb.2.2 t ht).2.1;omega
 have E:∀{w':World}{K':Bl}{M':RM},Fr (fpR q M) X w'->On Bk w w':=λy=>W.t ((vV G (λk g=>by have:=(h.book k g).1;omega)).t (y.on (λk g=>⟨by have:=(h.book k g).1;omega,λS=>(h.book k g).2 (.inr S)⟩)));rcases O with⟨u,A⟩|⟨j,t,Z,rfl,hw,g,hg,u,_,A⟩
 .rw[L]at u;refine(qJa F x key r ho ω C u).m ?_;rintro e w' ⟨rfl,rfl⟩;have fr:Fr (fpR q M) w1 w':=AB G;exact⟨rfl,W.t (vV G (λk g=>by have:=(h.book k g).1;omega)),h.bothS s H I A ω F fr (λk g=>.inl g) rfl rfl rfl rfl rfl ⟨rfl,rfl,rfl,rfl,rfl⟩ ⟨rfl,rfl,rfl⟩⟩
 .have ht:=BI ho.1;rw[u];apply(qJb F x key j t ho ω (C t ht) ζ hw g Z hg C).m;rintro e w' ⟨rfl,K',v1,vc,V,y,Y⟩;refine⟨rfl,E (K':=K') (M':=M) y,h.bothS s H I (A v1 vc) ω V ((AB G).t y) (λk g=>(Y k g).imp id (λh'=>ω)) rfl rfl rfl rfl rfl ⟨rfl,rfl,rfl,rfl,rfl⟩ ⟨rfl,rfl,rfl⟩⟩
end
section
variable {n B:Nat}{w:World}{q:Nat}{Bk K:Bl}{D:Db}{v:Nat}{o ao:Option (Nat×T)}{ots:List (Option (Nat×T))}{M:RM}
theorem qJh(h:Wd n B w q Bk K D v o ao ots M)(hB:B<=400000)(x key val r)(ho:cI M.ts x r):
  cL 13 #[.p D.d 0,.i x,.t key,.t val] w λe w1=>e=.r (.i (mU r key val))/\aV w1 K q M/\On Bk w w1/\w.1.size<=w1/\(∃D1,D1.β=D.β/\aO w1 0 D1/\D1.fs=D.fs/\∀k,fpD D1 k->¬Bl.or K (fpR q M) k/\¬Bk k) /\
   ∀X,bW w1 X->cL 25 #[.p q 2,.i x,.t key,.t val] X λe w'=>e=.r (.i (mU r key val))/\On Bk w w'/\Lw n (B+1) w' q Bk M.p9:=by
 have V:=h.lk.bounds;have h8:=h.lk.n8;apply(qJg h.lk ω x key val r ho).m;rintro e w1 ⟨rfl,E,c,A,C,S⟩;have hz:=A.size;have U:=λk a=>(h.apart k a).1;have f:=h.ref.aside A U;have J:=A.on (λk a=>⟨(h.book k a).1,λH=>(h.apart k H).2 a⟩);have G:∀k,fpD E k->¬Bl.or K (fpR q M) k/\¬Bk k:=λk a=>⟨mQ (w:=w) U h.ref.lies C k a,mQ (w:=w) (λk a=>(h.apart k a).2) (λk a=>(h.book k a).1) C k a⟩;have Q:aO w1 0 E:=by
  rcases S with⟨_,y⟩|⟨j,t,_,_,_,_,_,y⟩
  .exact y.db
  .exact(y (.bool false) (.bool false)).db
 refine⟨rfl,f,J,hz,⟨E,c.2.1,Q,c.2.2.1,G⟩,λX z=>?_⟩;have Y:=z.size;have u:=f.below z;have O:∀t∈M.ts,t.l.length<=1000000:=λt R=>by have:=(V.2.2 t R).2.1;omega
 have s:∀{w':World}{K':Bl}{M':RM},Fr (fpR q M) X w'->On Bk w w':=λb=>J.t ((vV z (λk a=>by have:=(h.book k a).1;omega)).t (b.on (λk a=>⟨by have:=(h.book k a).1;omega,λH=>(h.book k a).2 (.inr H)⟩)));rcases S with⟨m,y⟩|⟨j,t,rfl,hw,a,F,m,y⟩
 .refine(qIx u x key val r ho ω m).m ?_;rintro e w' ⟨rfl,rfl⟩;have Z:Fr (fpR q M) w1 w':=AB z;exact⟨rfl,J.t (vV z (λk a=>by have:=(h.book k a).1;omega)),h.bothS c A C y ω u Z (λk a=>.inl a) rfl rfl rfl rfl rfl ⟨rfl,rfl,rfl,rfl,rfl⟩ ⟨rfl,rfl,rfl⟩⟩
 .have R:=BI ho.1;rw[m];apply(qIy u x key val j t ho ω (O t R) ζ hw a F).m;rintro e w' ⟨rfl,K',v1,W,I,b,L⟩;refine⟨rfl,s (K':=K') (M':=M) b,h.bothS c A C (y v1 W) ω I ((AB z).t b) (λk a=>(L k a).imp id (λh'=>ω)) rfl rfl rfl rfl rfl ⟨rfl,rfl,rfl,rfl,rfl⟩ ⟨rfl,rfl,rfl⟩⟩
def yV(M:RM):Int×Int:=if M.ts.length<8 then (M.last+1,0) else (0,6)
theorem qAx(h:Wd n B w q Bk K D v o ao ots M)(N:B<=400000)(g):
  cL 12 #[.p D.d 0,.bool g] w λe f=>e=.r (.tuple #[.i (yV M).1,.i (yV M).2])/\aV f K q M/\On Bk w f/\w.1.size<=f /\
   ∀X,bW f X->cL 22 #[.p q 2,.bool g] X λe w'=>e=.r (.tuple #[.i (yV M).1,.i (yV M).2])/\On Bk w w'/\Lw n (B+1) w' q Bk M.p9:=by
 have r:=h.lk.bounds;have J:=h.lk.n8;have P:=h.lk.len;have A:=λa b=>(h.apart a b).1;have u:=h.lk.last0;have Q:=h.lk.last1;unfold yV;by_cases hn:M.ts.length<8
 .simp only[hn,LU];refine(Jh h.lk ω g hn).m ?_;rintro e f ⟨rfl,O,C,c,E,F⟩;have p:=c.size;have m:=h.ref.aside c A;have i:=c.on (λa b=>⟨(h.book a b).1,λk=>(h.apart a k).2 b⟩);refine⟨rfl,m,i,p,λX d=>?_⟩;have y:=d.size;refine(Yd (m.below d) g hn (η r.1) ⟨u,ω⟩).m ?_;rintro e w' ⟨rfl,I,z,H,G,l,x⟩;exact⟨rfl,i.t ((vV d (λa b=>by have:=(h.book a b).1;omega)).t (l.on (λa b=>⟨by have:=(h.book a b).1;omega,λk=>(h.book a b).2 (.inr k)⟩))),h.bothS C c E (F z H) ω G ((AB d).t l) (λa b=>(x a b).imp id (λL=>ω)) rfl rfl rfl rfl rfl ⟨rfl,rfl,rfl,rfl,rfl⟩ ⟨rfl,rfl,rfl⟩⟩
 .simp only[hn,KA];refine(qAw D g w h.lk.db ω).m ?_;rintro e f ⟨rfl,s,c⟩;have t:Fr (Bl.one D.d) w f:=c.m (λ_ h=>h.elim);have j:=h.still s t (KS B 1);have i:=c.on (λa b=>⟨(h.book a b).1,λh=>h⟩);refine⟨rfl,j.ref,i,c.size,λX d=>?_⟩;have y:=d.size;have p:=c.size;refine(Rr (j.ref.below d) g ω).m ?_;rintro e w' ⟨rfl,rfl⟩;exact⟨rfl,i.t (vV d (λa b=>by have:=(h.book a b).1;omega)),K,D,v,o,ao,ots,M,j.below d,rfl⟩
def qPj(r:Option (Nat×RT)):Int:=if r.isSome=true then 0 else 3
theorem qAz(h:Wd n B w q Bk K D v o ao ots M)(N:B<=400000)(x r)(k:cI M.ts x r):
  cL 27 #[.p D.d 0,.i x] w λe f=>e=.r (.i (qPj r))/\aV f K q M/\On Bk w f/\w.1.size<=f /\
   ∀X,bW f X->cL 28 #[.p q 2,.i x] X λe w'=>e=.r (.i (qPj r))/\On Bk w w'/\Lw n (B+1) w' q Bk M.p9:=by
 have J:=h.lk.n8;have P:=h.lk.len;have m:=λa b=>(h.apart a b).1;cases r with
 |none =>
  refine(qAy D x w h.lk.db ω (h.lk.miss k)).m ?_;rintro e f ⟨rfl,G,d⟩;have l:=d.size;have g:=h.ref.aside d m;have j:=d.on (λa b=>⟨(h.book a b).1,λi=>(h.apart a i).2 b⟩);refine⟨rfl,g,j,l,λX c=>?_⟩;have H:=c.size;refine(qNr (g.below c) x k ω).m ?_;rintro e w' ⟨rfl,rfl⟩;exact⟨rfl,j.t (vV c (λa b=>by have:=(h.book a b).1;omega)),h.bothS Db.sm_rfl d (CS _ _) (h.lk.more G (KS B 1)) ω (g.below c) (AB c) (λa b=>.inl b) rfl rfl rfl rfl rfl ⟨rfl,rfl,rfl,rfl,rfl⟩ ⟨rfl,rfl,rfl⟩⟩
 |some p =>
  obtain⟨t,u⟩:=p;refine(Ws h.lk x t u k).m ?_;rintro e f ⟨rfl,O,E,d,y,z⟩;have l:=d.size;have g:=h.ref.aside d m;have j:=d.on (λa b=>⟨(h.book a b).1,λi=>(h.apart a i).2 b⟩);refine⟨rfl,g,j,l,λX c=>?_⟩;have H:=c.size;refine(yU (g.below c) x t u k ω).m ?_;rintro e w' ⟨rfl,F,A,I,C⟩;have s:Fr (fpR q M) X w':=I.m (λa b=>.inl (.inl b));exact⟨rfl,j.t ((vV c (λa b=>by have:=(h.book a b).1;omega)).t (s.on (λa b=>⟨by have:=(h.book a b).1;omega,λi=>(h.book a b).2 (.inr i)⟩))),h.bothS E d y (z F) ω A ((AB c).t s) (λa b=>(C a b).imp id (λL=>ω)) rfl rfl rfl rfl rfl ⟨rfl,rfl,rfl,rfl,rfl⟩ ⟨rfl,rfl,rfl⟩⟩
end
variable {K:Bl} {M:RM} {c:List RT} {i q:Nat} {w:World}
theorem aV.notK (h:aV w K q M){k}(f:fpR q M k):¬K k:=λe=>by
 have⟨_,b,c,d⟩:=h.kp k e;rcases f with a|a|⟨i,g,a⟩
 .exact b a
 .exact c a
 .exact d i g a
theorem Wr (h:c.Pairwise (λa b=>∀k,fpX a k->¬fpX b k)){j t}(m:c[j]?=some t):∀s∈c.eraseIdx j,∀k,fpX s k->¬fpX t k:=λs p k d e=>by
 obtain⟨i,f,o,rfl⟩:=MT.1 p;obtain⟨g,rfl⟩:=AD.1 m;rcases Nat.lt_or_gt_of_ne o with n|l
 .exact BC.1 h i j f g n k d e
 .exact BC.1 h j i g f l k e d
structure Upd (E:List RT) (ks:List ByteArray) (i m:Nat) (ts:List RT):Prop where
 len:ts.length=E.length
 each:∀a (h:a<E.length) (h':a<ts.length),ts[a].num=E[a].num/\ts[a].wr=E[a].wr/\ts[a].bg=E[a].bg/\ts[a].l=E[a].l/\ts[a].ch=E[a].ch/\ts[a].oth=E[a].oth++(if a<i then ks else if a=i then ks.take m else [])
theorem Upd.start(b ks):Upd b ks 0 0 b:=⟨rfl,λa c d=>⟨rfl,rfl,rfl,rfl,rfl,by by_cases e:a=0<;>simp[e]⟩⟩
theorem Upd.next {ks:List ByteArray}{d:List RT}(h:Upd c ks i ks d):Upd c ks (i+1) 0 d:=⟨h.len,λa m n=>by
 have⟨e,f,g,j,k,l⟩:=h.each a m n;refine⟨e,f,g,j,k,l.t ?_⟩;congr 1;rcases JE a i with b|b|b
 .rw[AU b,AU ω]
 .rw[AQ ω,AU b,AU ω,BN]
 .rw[AQ ω,AQ ω,AQ ω];split<;>simp⟩
theorem Upd.step {ks:List ByteArray}{i m:Nat}{b:List RT}(h:Upd c ks i m b)(hi:i<b)(p:m<ks)(q):Upd c ks i (m+1) (b.set i (b[i].lost ks[m] q)):=⟨by rw[BQ];exact h.len,λa o n=>by
 rw[BQ]at n;have⟨d,f,g,j,k,l⟩:=h.each a o n;rw[DK];by_cases e:i=a
 .subst e;rw[AU rfl];refine⟨d,f,g,j,k,?_⟩;show b[i].oth++[ks[m]]=_;rw[l,AQ ω,AU rfl,AQ ω,AU rfl,AJ p,CA]
 .rw[AQ e];refine⟨d,f,g,j,k,l.t ?_⟩;congr 1;by_cases e2:a<i
  .rw[AU e2,AU e2]
  .rw[AQ e2,AQ e2,AQ ω,AQ ω]⟩
structure vH (W X:World) (K:Bl) (q:Nat) (M:RM) (b:Nat) (ob:Obj) (ca:Option Addr) (cc:Nat) (ch:List Ch) (ts:List RT):Prop where
 ref:aV X K q {M with ts:=ts}
 fr:Fr (fpR q M) W X
 gr:∀k,Bl.or K (fpR q {M with ts:=ts}) k->Bl.or K (fpR q M) k\/W.1.size<=k
 box:X.1[b]?=some ob
 row:aH X (λk=>(Value.slice ca ch.length cc).ownBlock=some k) ca (ch.flatMap Ch.cells)
 nx:∀k,(k=b\/(Value.slice ca ch.length cc).ownBlock=some k)->k<X.1.size/\¬fpR q {M with ts:=ts} k
theorem vH.lose {W X X3:World}{b:Nat}{t:Obj}{n:Option Addr}{o:Nat}{p:List Ch}{j:List RT}(h:vH W X K q M b t n o p j){s:RT}(hi:j[i]?=some s){g c:Nat}(e:M.ov=.q g j c)(key){l:Value}(u:fO 9 1 s.vo s.oth (s.oth.map .string) [.t key] 1 X.drew l X3):
  vH W (X3.setCell (aD g (i * 7+6)) l) K q M b t n o p (j.set i (s.lost key l)):=by
 have⟨R,F,m⟩:=(h.ref.on (CM _ _).drew).lose hi e key u rfl;have k:=(AE _ X).drew.t F;have w:∀d,fpR q {M with ts:=j} d->fpR q M d\/W<=d:=λd f=>by
  rcases h.gr d (.inr f) with(a|a)|a
  .exact absurd a (h.ref.notK f)
  .exact .inl a
  .exact .inr a
 have v:=k.on h.nx;refine⟨R,h.fr.grow k w,λd f=>?_,v.heap h.box (.inl rfl),h.row.on (v.m (λd f=>.inr f)),λd f=>⟨jY (h.nx d f).1 k.size,λr=>?_⟩⟩
 .rcases m d f with a|a
  .exact h.gr d a
  .have:=h.fr.size;exact .inr (vJ this a)
 .rcases m d (.inr r) with(a|a)|a
  .exact absurd a (R.notK r)
  .exact(h.nx d f).2 a
  .have y:=(h.nx d f).1;have:X.drew.1.size=X:=rfl;omega
theorem qEq (h:aV w K q M)(x j t)(ho:cI M.ts x (some (j,t)))(hn:M.ts.length<=8)(hl:M.now.length+t.ch<=1000000)(hv:M.nv<1000000000/\0<=M.nv)(hch:0<t.ch.length)(hoth:∀s∈M.ts,s.oth.length<=1000000):
  cL 80 #[.p q 2,.i x] w λe w'=>e=.r (.tuple #[])/\∃K' v vo ts',aV w' K' q {M with va:=M.vn,av:=M.nv,ah:=M.now,vn:=v,nv:=M.nv+1,now:=t.ch.foldl dS M.now,ov:=vo,ts:=ts'}/\Upd (M.ts.eraseIdx j) (t.ch.map (·.key)) (M.ts.eraseIdx j).length 0 ts'/\Fr (fpR q M) w w'/\∀k,Bl.or K' (fpR q {M with va:=M.vn,av:=M.nv,ah:=M.now,vn:=v,nv:=M.nv+1,now:=t.ch.foldl dS M.now,ov:=vo,ts:=ts'}) k->Bl.or K (fpR q M) k\/w<=k:=by
 have HF:Hid (∀X,bW w X->cL 66 #[.pointer (some (aD q 2)),.int .i64 x] X λe w'=>e=.returned (.int .i64 (j:Int))/\w'=X):=λX hX=>iD h ho hn X hX;have HA:Hid (∀X,bW w X->cL 79 #[.pointer (some (aD q 2)),.int .i64 x] X λe w'=>∃v,e=.returned (.agg #[v,.int .i64 (M.nv+1)])/\w'.ownsRow 0 71 2 v (t.ch.foldl dS M.now).length (aJ (t.ch.foldl dS M.now))/\bW X w'/\∀k,v.ownBlock=some k->X<=k):=λX hX=>xG (h.below hX) x j t ho hn hl hv;have hj:=ho.1;have hjl:=(AD.1 hj).1;have hmem:=BI hj;obtain⟨L,hL⟩:=nM (t.ch.foldl dS M.now);rw[hL]at HA⊢;obtain⟨E,hE⟩:=nM (M.ts.eraseIdx j);rw[hE];obtain⟨ba,bc,e1,_⟩:=(h.each t hmem).bg;obtain⟨la,lc,e2,_⟩:=(h.each t hmem).l;obtain⟨ca,cc,e3⟩:=aG (h.each t hmem).ch;obtain⟨oa,oc,e4⟩:=aG (h.each t hmem).oth;have hvc:=(h.each t hmem).ch;obtain⟨num,wrb,bg,bv,tl,ch,oth,vb,vl,vc,vo⟩:=t;dsimp only at e1 e2 e3 e4 hl hch hvc⊢;subst e1 e2 e3 e4;obtain⟨g,c,hc,hTX⟩:=h.txCells hj;obtain⟨na,nc,hvn,_⟩:=h.now;have HTX:Hid (∀X,bW w X->Fb X q j M ⟨num,wrb,bg,bv,tl,ch,oth,.slice ba bg.length bc,.slice la tl.length lc,.slice ca ch.length cc,.slice oa oth.length oc⟩ g c):=hTX;have B0:bW w w:=AC _ _
 have hql:=(gL h.box);have HW4:Hid (∀W2 W3 (v3:Value),bW w W2->W2.1[w.1.size]?=some (.cells #[.int .i64 num,.bool wrb,.slice ba bg.length bc,.int .i64 bv,.slice la tl.length lc,.slice ca ch.length cc,.slice oa oth.length oc] 119)->bW W2 W3->W3.ownsRow 0 71 2 v3 L.length (aJ L)->(∀k,v3.ownBlock=some k->W2<=k)->∃W4 W5 W6,W3.alloc (.cells #[v3,.int .i64 (M.nv+1)] 32)=W4/\(W4.setCell (aD q 4) (.slice na M.now.length nc)).setCell (aD q 5) (.int .i64 M.nv)=W5/\(W5.setCell (aD q 2) v3).setCell (aD q 3) (.int .i64 (M.nv+1))=W6/\W4.1[q]?=some M.obj/\(∃ob,W5.1[q]?=some (.cells ob 43)/\W5.cell? (aD q 2)=some M.vn/\W5.cell? (aD q 3)=some (.int .i64 M.nv))/\W4.1[W3.1.size]?=some (.cells #[v3,.int .i64 (M.nv+1)] 32)/\W5.1[W3.1.size]?=some (.cells #[v3,.int .i64 (M.nv+1)] 32)/\aV W6 (λk=>K k\/v3.ownBlock=some k) q {M with va:=M.vn,av:=M.nv,ah:=M.now,vn:=v3,nv:=M.nv+1,now:=L}/\W6.1[w.1.size]?=some (.cells #[.int .i64 num,.bool wrb,.slice ba bg.length bc,.int .i64 bv,.slice la tl.length lc,.slice ca ch.length cc,.slice oa oth.length oc] 119)/\Fr (Bl.one q) w W6):=by
  intro W2 W3 v3 hB2 x2 hB3 hO3 hl3;have hB4:=hB2.tm hB3;have z3:=hB4.size;have BA:bW w (W3.alloc (.cells #[v3,.int .i64 (M.nv+1)] 32)):=hB4.alloc hB4.size _;obtain⟨W4,hW4,-,y4,-⟩:=al1 W3 (.cells #[v3,.int .i64 (M.nv+1)] 32);rw[hW4]at BA;have hR4:=h.below BA;have q5:=aC (aC hR4.box 4 (.slice na M.now nc)) 5 (.int .i64 M.nv);obtain⟨W5,hW5⟩:=nM ((W4.setCell (aD q 4) (.slice na M.now.length nc)).setCell (aD q 5) (.int .i64 M.nv));rw[hW5]at q5;have f5:=hW5▸((AE (Bl.one q) W4).s q 4).s q 5;have q6:=aC (aC q5 2 v3) 3 (.int .i64 (M.nv+1));obtain⟨W6,hW6⟩:=nM ((W5.setCell (aD q 2) v3).setCell (aD q 3) (.int .i64 (M.nv+1)));rw[hW6]at q6;have f6:=hW6▸((AE (Bl.one q) W5).s q 2).s q 3;have hO4:=hW4▸CG (w:=W3) hO3 _;have hq3:W3≠q:=λe=>by omega
  have RN:=hR4.renow (v:=v3) (L:=L) hO4 (λk hk hf=>by
   have h1:=hl3 k hk;have h2:=h.lies k (.inr hf);have:=hB2.size;omega) (M.nv+1) (w':=W6) (f5.t f6) (by rw[<-hvn]at q6;simpa using q6)
  have x3:=hB3.kp x2;have x4:=aP (.cells #[v3,.int .i64 (M.nv+1)] 32) x3;rw[hW4]at x4;have x6:=(f5.t f6).heap x4 φ;exact⟨W4,W5,W6,hW4,hW5,hW6,hR4.box,⟨_,q5,by simp[World.cell?,q5],by simp[World.cell?,q5]⟩,y4,f5.heap y4 hq3,RN,x6,(AB BA).t (f5.t f6)⟩
 have HEn:Hid (∀X (v3:Value),aV X (λk=>K k\/v3.ownBlock=some k) q {M with va:=M.vn,av:=M.nv,ah:=M.now,vn:=v3,nv:=M.nv+1,now:=L}->cL 28 #[.pointer (some (aD q 2)),.int .i64 x] X λe w'=>e=.returned (.int .i64 0)/\∃v,aV w' (λk=>K k\/v3.ownBlock=some k) q {M with va:=M.vn,av:=M.nv,ah:=M.now,vn:=v3,nv:=M.nv+1,now:=L,ov:=v,ts:=E}/\Fr (Bl.one q) X w'/\∀k,Bl.or (λk=>K k\/v3.ownBlock=some k) (fpR q {M with ov:=v,ts:=E}) k->Bl.or (λk=>K k\/v3.ownBlock=some k) (fpR q M) k\/X<=k):=λX v3 hR=>by rw[<-hE];exact yU hR x j _ ho hn
 have HVN:Hid (M.vn=.slice na M.now nc):=hvn;clear hTX hvn;go_enter func80,ntmps80;go_wp2;obtain⟨b6,c0,c1,c2,c3,c4,c5,c6⟩:=HTX.o w B0;go_region_held3 (λX=>X.cell? (aD q 6)=some (.slice (some (aD g 0)) M.ts.length c)/\X.cell? (aD g (j * 7))=some (.int .i64 num)/\X.cell? (aD g (j * 7+1))=some (.bool wrb)/\X.cell? (aD g (j * 7+2))=some (.slice ba bg bc)/\X.cell? (aD g (j * 7+3))=some (.int .i64 bv)/\X.cell? (aD g (j * 7+4))=some (.slice la tl lc)/\X.cell? (aD g (j * 7+5))=some (.slice ca ch cc)/\X.cell? (aD g (j * 7+6))=some (.slice oa oth oc))
  ((refine HTX.o _ ?_;(repeat (first|exact B0|(refine KE ?_)|(refine LV ?_ (by first|omega|(simp;omega)|exact jU _) _)|(refine KI ?_ (by first|omega|(simp;omega)|exact jU _) _)))))
  (((with_reducible refine Calls.m (HF.o _ ?_) ?_);(first|exact B0.drew|exact(B0.alloc B0.size _).drew|exact B0.drew.alloc B0.size _);rintro e w' ⟨rfl,hw⟩;subst w'))
 all_goals
  obtain⟨W2,hW2⟩:=nM ((w.alloc (.cells #[.int .i64 num,.bool wrb,.slice ba bg.length bc,.int .i64 bv,.slice la tl.length lc,.slice ca ch.length cc,.slice oa oth.length oc] 119)).drew);have B2:=hW2▸(B0.alloc (jU _) _).drew;have x2:W2.1[w.1.size]?=some (.cells #[.int .i64 num,.bool wrb,.slice ba bg.length bc,.int .i64 bv,.slice la tl.length lc,.slice ca ch.length cc,.slice oa oth.length oc] 119):=by rw[<-hW2,JH];exact aB w _
  obtain⟨y0,y1,y2,y3,y4,y5,y6⟩:=qMs x2;have hA:=HA.o W2 B2;clear b6 c0 c1 c2 c3 c4 c5 c6;go_wp2_with (first
   |(apply Calls.m hA;rintro e W3 ⟨v3,rfl,hO3,hB3,hl3⟩;obtain⟨a3,d3,rfl⟩:=aG hO3;obtain⟨W4,W5,W6,hW4,hW5,hW6,q4,⟨ob5,q5,q52,q53⟩,s4,s5,hR6,x6,hF6⟩:=HW4.o W2 W3 _ B2 x2 hB3 hO3 hl3;obtain⟨_,_,m2,m3,m4,m5,_⟩:=dC q4;rw[HVN.o]at m2;have f4:=aF q4;have f5:=aF q5;obtain⟨r0,r1⟩:=cM s4;obtain⟨r2,r3⟩:=cM s5;have hEn:=HEn.o W6 _ hR6)
   |(apply Calls.m hEn;rintro e W7 ⟨rfl,vo,hR7,hF7,hG7⟩))
  obtain⟨M7,hM7⟩:∃M7:RM,{M with va:=M.vn,av:=M.nv,ah:=M.now,vn:=.slice a3 L d3,nv:=M.nv+1,now:=L,ov:=vo,ts:=E}=M7:=⟨_,rfl⟩;have F07:=hF6.t hF7;have D7:vH W7 W7 (λk=>K k\/(Value.slice a3 L.length d3).ownBlock=some k) q M7 w.1.size (.cells #[.int .i64 num,.bool wrb,.slice ba bg.length bc,.int .i64 bv,.slice la tl.length lc,.slice ca ch.length cc,.slice oa oth.length oc] 119) ca cc ch E:=by
   have x7:=hF7.heap x6 φ;have lv:∀k,(Value.slice ca ch.length cc).ownBlock=some k->k<w/\¬Bl.one q k:=λk hk=>⟨aL hvc hk,λe=>by cases e;exact aQ hvc h.box δ hk⟩;have hvc7:=aS hvc (F07.on lv) (λk hk=>hk);obtain⟨ca',cc',ec,_,hrow⟩:=cA hvc7;simp only[AR,CV]at ec;obtain⟨rfl,rfl⟩:=ec;refine⟨by rw[<-hM7];exact hR7,AE _ _,λk hk=>.inl (by rw[<-hM7]at hk⊢;exact hk),x7,hrow,λk hk=>?_⟩;rw[<-hM7];rcases hk with rfl|hk
   .refine⟨(gL x7),λhf=>?_⟩
    rcases hG7 _ (.inr hf) with(h1|h1)|h1
    .exact hR7.notK hf h1
    .exact absurd (h.lies _ (.inr h1)) ω
    .have:=(gL x6);omega
   .refine⟨aL hvc7 hk,λhf=>?_⟩
    rcases hf with e|e|⟨s,hs,e⟩
    .exact(lv k hk).2 e
    .rcases dU hvc7 hR7.row δ with h1|h1
     .rw[h1]at hk;cases hk
     .exact h1 (hk.t e.symm)
    .rw[<-hE]at hs
     exact Wr h.apart hj s hs k e (.inl hk)
  have HFN:Hid (∀X ts',Upd E (ch.map (·.key)) E.length 0 ts'->vH W7 X (λk=>K k\/(Value.slice a3 L d3).ownBlock=some k) q M7 w (.cells #[.int .i64 num,.bool wrb,.slice ba bg.length bc,.int .i64 bv,.slice la tl.length lc,.slice ca ch.length cc,.slice oa oth.length oc] 119) ca cc ch ts'->∃K' v vo ts',aV X K' q {M with va:=M.vn,av:=M.nv,ah:=M.now,vn:=v,nv:=M.nv+1,now:=L,ov:=vo,ts:=ts'}/\Upd E (ch.map (·.key)) E.length 0 ts'/\Fr (fpR q M) w X/\∀k,Bl.or K' (fpR q {M with va:=M.vn,av:=M.nv,ah:=M.now,vn:=v,nv:=M.nv+1,now:=L,ov:=vo,ts:=ts'}) k->Bl.or K (fpR q M) k\/w<=k):=by
   intro X ts' hU hD;have hz7:=F07.size;have G0:∀k,Bl.or (λk=>K k\/(Value.slice a3 L.length d3).ownBlock=some k) (fpR q M7) k->Bl.or K (fpR q M) k\/w<=k:=λk hk=>by
    rw[<-hM7]at hk;have hv3:∀k,(Value.slice a3 L.length d3).ownBlock=some k->w<=k:=λk hk=>by have:=hl3 k hk;have:=B2.size;omega
    rcases hG7 k hk with(h1|h1)|h1
    .exact h1.imp (λh'=>.inl h') (hv3 k)
    .exact .inl (.inr h1)
    .have:=hF6.size;exact .inr ω
   refine⟨(λk=>K k\/(Value.slice a3 L d3).ownBlock=some k),.slice a3 L.length d3,vo,ts',by have:=hD.ref;rw[<-hM7]at this;exact this,hU,(F07.m (λk hk=>.inl (.inl hk))).grow hD.fr (λk hk=>?_),λk hk=>?_⟩
   .rcases G0 k (.inr hk) with(h1|h1)|h1
    .exact absurd (Or.inl h1) (D7.ref.notK (by rw[<-hM7]at hk⊢;exact hk))
    .exact .inl h1
    .exact .inr h1
   .rcases hD.gr k (by rw[<-hM7];exact hk) with h1|h1
    .exact G0 k h1
    .exact .inr ω
  have HOE:Hid (∀s∈E,s.oth.length<=1000000):=λs hs=>hoth s (by rw[<-hE]at hs;exact(DG _ _).subset hs);have HD7:Hid (vH W7 W7 (λk=>K k\/(Value.slice a3 L.length d3).ownBlock=some k) q M7 w.1.size (.cells #[.int .i64 num,.bool wrb,.slice ba bg.length bc,.int .i64 bv,.slice la tl.length lc,.slice ca ch.length cc,.slice oa oth.length oc] 119) ca cc ch E):=D7;obtain⟨oA,oC,hov⟩:=aG (show W7.ownsRow 0 119 7 M7.ov E _ from D7.ref.row);have HOV:Hid (M7.ov=.slice oA E oC):=hov;have HB6:Hid (∀X ts',vH W7 X (λk=>K k\/(Value.slice a3 L d3).ownBlock=some k) q M7 w (.cells #[.int .i64 num,.bool wrb,.slice ba bg.length bc,.int .i64 bv,.slice la tl.length lc,.slice ca ch.length cc,.slice oa oth.length oc] 119) ca cc ch ts'->X.cell? (aD q 6)=some (.slice oA E oC)/\X.cell? (aD w.1.size 5)=some (.slice ca ch.length cc)):=λX ts' hD=>by
   have:=(dC hD.ref.box).2.2.2.2.2.2.1;rw[show({M7 with ts:=ts'}:RM).ov=M7.ov from rfl,hov]at this;exact⟨this,(qMs hD.box).2.2.2.2.2.1⟩
  have hE8:E.length<=8:=by rw[<-hE,CJ hjl];omega
  clear hov D7 h ho hj hmem hR7 hF7 hG7 hF6 hR6 x6 hvc hEn hA hO3 hB3 hl3 hW4 hW5 hW6 q4 q5 s4 s5 m2 m3 m4 m5 f4 f5 r0 r1 r2 r3 q52 q53 x2 y0 y1 y2 y3 y4 y5 y6 hoth hM7 HW4 HEn HA HF HTX;go_loopw [6,7] (λi k wr=>∃(a:Nat) (ts':List RT),i=.int .i64 a/\a<=E/\Hid (Upd E (ch.map (·.key)) a 0 ts'/\vH W7 wr (λk=>K k\/(Value.slice a3 L.length d3).ownBlock=some k) q M7 w.1.size (.cells #[.int .i64 num,.bool wrb,.slice ba bg.length bc,.int .i64 bv,.slice la tl.length lc,.slice ca ch.length cc,.slice oa oth.length oc] 119) ca cc ch ts')) (λi _ _=>E.length-(intOf i).toNat)
  case atStart=>exact⟨0,E,rfl,AG _,Upd.start _ _,HD7.o⟩
  case round =>
   obtain⟨a,ts',rfl,ha,HH⟩:=hrel;obtain⟨r6,r5⟩:=HB6.o wr ts' HH.o.2;rcases BT a E.length with hlt|hge
   .have hji:(a:Int)<(E.length:Int):=ω
    go_wp2;go_loopw [7] (λk wr=>∃(m:Nat) (ts':List RT),k=.int .i64 m/\m<=ch/\Hid (Upd E (ch.map (·.key)) a m ts'/\vH W7 wr (λk=>K k\/(Value.slice a3 L d3).ownBlock=some k) q M7 w (.cells #[.int .i64 num,.bool wrb,.slice ba bg.length bc,.int .i64 bv,.slice la tl.length lc,.slice ca ch.length cc,.slice oa oth.length oc] 119) ca cc ch ts')) (λk _=>ch.length-(intOf k).toNat)
    case atStart=>exact⟨0,ts',rfl,AG _,HH.o⟩
    case round =>
     clear r6 r5 HH;obtain⟨m,ts',rfl,hm,HH⟩:=hrel;obtain⟨r6,r5⟩:=HB6.o wr ts' HH.o.2;rcases BT m ch.length with hlt2|hge2
     .have hji2:(m:Int)<(ch.length:Int):=ω
      obtain⟨hU,hD⟩:=HH.o;have hlen:=hU.len;have hal:a<ts':=ω
      have hsi:=jQ hal;obtain⟨s,hs⟩:=nM (ts'[a]);obtain⟨g1,c1,e1,hc1,k6⟩:=hD.ref.tx hsi;replace k6:=k6.2.2.2.2.2.2;rw[show({M7 with ts:=ts'}:RM).ov=M7.ov from rfl,HOV.o]at e1;simp only[AR]at e1;replace e1:=e1.1;subst e1;rw[hs]at k6;have hmem:=hs▸AA hal;have hso:=(hD.ref.each s hmem).oth;obtain⟨sa,sc,hsv⟩:=aG hso;obtain⟨sn,hsn⟩:=nM (s.oth.length);rw[hsv,hsn]at hso;rw[hsv,hsn]at k6;have hsl:sn<=2000000:=by
       have e6:=(hU.each a hlt hal).2.2.2.2.2;have:=HOE.o _ (AA hlt);rw[hs]at e6;rw[<-hsn,e6,jK,AQ ω,AU rfl,AX,AF];omega
      obtain⟨cb,co,rfl,hcb,d0,d1,d2⟩:=hD.row.ch hlt2;obtain⟨ck,hck⟩:=nM ((ch[m]).key);rw[hck]at d0;have hrow:=hD.ref.row;obtain⟨gcur,hgc⟩:=lM (show wr.ownsRow 0 119 7 (.slice (some (aD g1 0)) E oC) _ _ by rw[<-HOV.o,<-hlen];exact hrow);have lg:=(gL hgc);have lq:=(gL hD.ref.box);have lb:=(gL hD.box);have hcl:=(hD.nx cb (.inr (hcb))).1;have nb:=λk hk e=>(hD.nx k hk).2 (.inr (.inr ⟨s,hmem,.inr (by rw[hsv,hsn];exact e)⟩));have HS:Hid (∀X,bW wr X->X.cell? (aD q 6)=some (.slice (some (aD g1 0)) E.length oC)/\X.cell? (aD g1 (a * 7+6))=some (.slice sa sn sc)/\X.cell? (aD w 5)=some (.slice (some (aD cb co)) ch cc)/\X.cell? (aD cb (co+m * 3))=some (.string ck)):=λX hX=>⟨(hX.cell (p:=(aD q 6)) lq).t r6,(hX.cell (p:=(aD g1 (a * 7+6))) lg).t k6,(hX.cell (p:=(aD w 5)) lb).t r5,(hX.cell (p:=(aD cb (co+m * 3))) hcl).t d0⟩;have HO:Hid (wr.drew.ownsRow 0 9 1 (.slice sa sn sc) sn (s.oth.map .string)):=World.ownsRow.drew hso;have HS9:Hid (∀X v9,fO 9 1 (.slice sa sn sc) sn (s.oth.map .string) [.string ck] 1 wr.drew v9 X->X.cell? (aD q 6)=some (.slice (some (aD g1 0)) E.length oC)/\X.cell? (aD g1 (a * 7+6))=some (.slice sa sn sc)/\X.cell? (aD w 5)=some (.slice (some (aD cb co)) ch cc)/\X.cell? (aD cb (co+m * 3))=some (.string ck)):=λX v9 A=>by
       obtain⟨z1,z2,z3,z4⟩:=HS.o wr.drew (AC _ wr).drew;exact⟨(A.fr.cell lq (aQ hso hD.ref.box δ)).t z1,(A.fr.cell lg (aQ hso hgc δ)).t z2,(A.fr.cell lb (nb _ (.inl rfl))).t z3,(A.fr.cell hcl (nb _ (.inr (hcb)))).t z4⟩
      have HFR:Hid (∀X v9,fO 9 1 (.slice sa sn sc) sn (s.oth.map .string) [.string ck] 1 wr.drew v9 X->∀i,X.frozen? (aD g1 i)=false):=λX v9 A=>aF (A.fr.heap hgc (aQ hso hgc δ));have HEND:Hid (∀X v9,fO 9 1 (.slice sa sn sc) sn (s.oth.map .string) [.string ck] 1 wr.drew v9 X->Upd E (ch.map (·.key)) a (m+1) (ts'.set a (s.lost ck v9))/\vH W7 (X.setCell (aD g1 (a * 7+6)) v9) (λk=>K k\/(Value.slice a3 L.length d3).ownBlock=some k) q M7 w.1.size (.cells #[.int .i64 num,.bool wrb,.slice ba bg.length bc,.int .i64 bv,.slice la tl.length lc,.slice (some (aD cb co)) ch.length cc,.slice oa oth.length oc] 119) (some (aD cb co)) cc ch (ts'.set a (s.lost ck v9))):=λX v9 A=>by
       have hu:=hU.step hal (by rw[AF];exact hlt2) v9;rw[EF,hck,hs]at hu;exact⟨hu,hD.lose (by rw[hsi,hs]) (by rw[HOV.o,hlen]) ck (by rw[hsv,hsn];exact A)⟩
      clear HH hU hD hc1 hlen hsi hs k6 hso hsv hrow hgc d0 d1 d2 hcb nb hmem;go_wp2;refine cY (S:=(λX:World=>X.cell? (aD q 6)=some (.slice (some (aD g1 0)) E.length oC)/\X.cell? (aD g1 (a * 7+6))=some (.slice sa sn sc)/\X.cell? (aD w.1.size 5)=some (.slice (some (aD cb co)) ch.length cc)/\X.cell? (aD cb (co+m * 3))=some (.string ck))) 23 κ ?_;have hHeld:=HS.o _ (AC _ wr).drew;refine tks [(0,.pointer (some (aD q 2))),(1,.pointer (some (aD q 2))),(2,.pointer (some (aD q 6))),(3,.slice (some (aD g1 0)) E.length oC),(4,.int .i64 (a:Int)),(5,.pointer (some (aD q 2))),(6,.pointer (some (aD q 2))),(7,.pointer (some (aD q 6))),(8,.slice (some (aD g1 0)) E.length oC),(9,.int .i64 (a:Int)),(10,.pointer (some (aD g1 (a * 7)))),(11,.pointer (some (aD g1 (a * 7+6)))),(12,.slice sa sn sc),(13,.pointer (some (aD w.1.size 5))),(14,.slice (some (aD cb co)) ch.length cc),(15,.int .i64 (m:Int)),(16,.pointer (some (aD cb (co+m * 3)))),(17,.pointer (some (aD cb (co+m * 3)))),(18,.string ck)] hHeld ?_;iterate 19 (refine tk1 rfl ?_;try simp only[pS])
      refine tke ?_;refine aR (i:=19) κ rfl (λK hK=>?_);go_simp;refine hK.out _ _ (λ_=>HS.o _ ((AC _ wr).drew.alloc (jU _) _)) ?_;clear hK K;try simp only[pS]
      refine aR (i:=20) κ rfl (λK hK=>?_);(refine kA wr.drew rfl (.tmp 66) (.tmp 73) 60 9 _ 1 16 rfl underlying60 sV rfl δ (.slice sa sn sc) sn _ ξ HO.o [.string ck] ξ rfl υ ω ω ?_;intro v9 X9 A9;obtain⟨g9,k9,rfl⟩:=A9.shape δ;have hS9:=HS9.o X9 _ A9;have gfr:=HFR.o X9 _ A9);refine hK.out _ _ (λ_=>hS9) ?_;clear hK K;try simp only[pS]
      have hHeld:=hS9;obtain⟨p1,p2,p3,p4⟩:=hS9;refine tks [(21,.pointer (some (aD g1 (a * 7)))),(22,.pointer (some (aD g1 (a * 7+6))))] hHeld ?_;iterate 2 (refine tk1 rfl ?_;try simp only[pS])
      refine tke ?_;refine aR (i:=23) κ rfl (λK hK=>?_);go_simp;refine hK.out _ _ (λe=>by cases e) ?_;clear hK K;try simp only[pS]
      refine dF κ ?_ _;have hfin:=HEND.o X9 _ A9;obtain⟨X10,hX10⟩:=nM (X9.setCell (aD g1 (a * 7+6)) (.slice (some (aD g9 0)) (sn+1) k9));rw[hX10]at hfin⊢;have HFI:Hid (Upd E (ch.map (·.key)) a (m+1) (ts'.set a (s.lost ck (.slice (some (aD g9 0)) (sn+1) k9)))/\vH W7 X10 (λk=>K k\/(Value.slice a3 L.length d3).ownBlock=some k) q M7 w.1.size (.cells #[.int .i64 num,.bool wrb,.slice ba bg.length bc,.int .i64 bv,.slice la tl.length lc,.slice (some (aD cb co)) ch.length cc,.slice oa oth.length oc] 119) (some (aD cb co)) cc ch (ts'.set a (s.lost ck (.slice (some (aD g9 0)) (sn+1) k9)))):=hfin;clear hfin p1 p2 p3 p4 gfr A9 hX10 hHeld;go_wp2;exact⟨⟨m+1,_,σ,ω,HFI.o⟩,θ⟩
     .obtain rfl:m=ch:=ω
      have HN:Hid (Upd E (ch.map (·.key)) (a+1) 0 ts'):=Upd.next (by have:=HH.o.1;rw[AF];exact this);go_wp2;exact⟨⟨a+1,ts',σ,ω,HN.o,HH.o.2⟩,θ⟩
   .obtain rfl:a=E:=ω
    have hfin:=HFN.o wr ts' HH.o.1 HH.o.2;go_wp2;go_end0;exact⟨rfl,hfin⟩
theorem dO {b a c d e f g i t}(h:cW w b #[a,c,d,e,f,g,i] t):w.c b 0=some a/\w.c b 1=some c/\w.c b 2=some d/\w.c b 3=some e/\w.c b 4=some f/\w.c b 5=some g/\w.c b 6=some i:=qMs h
theorem qCg {D}(d:aV w K q M)(f:M.f=.p D.β 0)(g:∃b,M.p4=.bool b)(c:aO w 0 D)(z)(h10:z≠10):
  cL 60 #[.p q 0,.i z] w λe w'=>e=.r (.bool (z==9&&D.fs.life==0))/\w'=w:=by
 have⟨a,_,_,_,_,_,_,_,_,_,_,_,b,_⟩:=dC d.box;obtain⟨sp,g⟩:=g;rw[f]at a;rw[g]at b;exact qOg q D.β D.sv D.lv D.fs w c.file a sp b z (by simpa using h10)
theorem Ro(r key):(eG r key).2≠9:=by
 unfold eG;grind
theorem Rq(r key):gP r key≠9:=by
 have:=Ro r key;unfold gP bZ;grind
theorem Ax(r key):(eG r key).2≠10:=by
 unfold eG;grind
theorem qEr(r key):gP r key≠10:=by
 have:=Ax r key;unfold gP bZ;grind
section
variable {n B:Nat}{w:World}{q:Nat}{Bk K:Bl}{D:Db}{v:Nat}{o ao:Option (Nat×T)}{ots:List (Option (Nat×T))}{M:RM}
theorem Vb(h:Wd n B w q Bk K D v o ao ots M)(a4:B<=400000)(c:OpV):
  cL 26 #[.p q 0,.agg c.cells] w λe w'=>e=.r (.bool true)/\On Bk w w'/\Lw n (B+1) w' q Bk M.p9:=by
 have⟨L,a,P,Q,E,O,I,N,J⟩:=c;have⟨r,H⟩:=Ge M.ts a;obtain⟨b,G,z,k,-⟩:=al1 w (.cells #[.i L,.i a,.t P,.t Q,.i E,.bool O,.s I N J] 46);have x:=h.box (.cells #[.i L,.i a,.t P,.t Q,.i E,.bool O,.s I N J] 46);rw[G]at x;have A:bW b b:=AC _ _;have C:Hid (∀X,bW b X->X.c q 1=some (.p D.d 0)/\X.c w 1=some (.i a)/\X.c w 2=some (.t P)):=λX i=>by
  have p:=(dC (x.ref.below i).box).2.1;rw[h.x]at p;have⟨_,s,t,_⟩:=dO (i.kp k);exact⟨p,s,t⟩
 have⟨zd,hz,hu⟩:=qLv (x.below A.drew) a4 a P r H;have hz10:zd≠10:=by have:=qEr r P;grind
 have u:Hid (cL 71 #[.p D.d 0,.i a,.t P] b.drew λe f=>e=.r (.i zd)/\Hid (On Bk w f/\(zd≠gP r P->Lw n (B+1) f q Bk M.p9)/\(∀d,bW f d->(d.c q 1=some (.p D.d 0)/\d.c w 1=some (.i a)/\d.c w 2=some (.t P))/\(cL 72 #[.p q 2,.i a,.t P] d λe w'=>e=.r (.i (pV r P))/\w'=d)/\(cL 60 #[.p q 0,.i zd] d λe w'=>e=.r (.bool (zd==9&&D.fs.life==0))/\w'=d)/\(zd=gP r P->cL 73 #[.p q 2,.i a,.t P] d λe w'=>e=.r (.i zd)/\(w'.c w 1=some (.i a)/\w'.c w 2=some (.t P))/\On Bk w w'/\Lw n (B+1) w' q Bk M.p9)))):=by
  apply hu.m;rintro e f ⟨rfl,F,S,ae,⟨a0,ac,R,ab,ad⟩,af,a5⟩;have i:=A.drew;have U:=vV (z.tm i) (λy j=>(h.book y j).1);refine⟨rfl,U.t (S.m (λy j=>.inl j)),λq1=>?_,λd m=>⟨?_,Yc (F.below m) a P r H h.lk.n8,ab▸qCg (D:=a0) (F.below m) (by rw[ac];exact h.f) h.spoiled (R.bl m) _ hz10,λq1=>?_⟩⟩
  .have⟨K',D',v',o',ag,a3,M',a9,a2⟩:=af q1
   exact⟨K',D',v',o',ag,a3,M',a9.less (λy j=>.inl j),a2⟩
  .have Z:=S.heap (i.kp k) (.inr rfl)
   have⟨_,s,t,_⟩:=dO (m.kp Z);have p:=(dC (F.below m).box).2.1;rw[h.x]at p;exact⟨p,s,t⟩
  .apply(a5 q1 d m).m
   rintro e w' ⟨rfl,T,a1,D',v',o',ag,a3,M',a9,a2⟩;have⟨_,s,t,_⟩:=dO (T.heap (i.kp k) (.inr rfl));exact⟨by rw[q1],⟨s,t⟩,U.t (T.m (λy j=>.inl j)),a1,D',v',o',ag,a3,M',a9.less (λy j=>.inl j),a2⟩
 have⟨V,W,Y⟩:=C b A;rcases hz with hz|⟨rfl,hl,hc⟩
 .have hb:(zd==9&&D.fs.life==0)=false:=by
   have:=Rq r P;rw[<-hz]at this;simp[this]
  rw[hb]at u;have ah:Hid (zd=gP r P):=hz;clear hz;generalize pV r P=zc at u;clear h x k H hu;go_enter func26,ntmps26;go_wp2;go_region_held3 (λX=>X.c q 1=some (.p D.d 0)/\X.c w 1=some (.i a)/\X.c w 2=some (.t P))
   (first|exact C _ A.drew|exact(g.2.2 _ (AC _ _)).1)
   ((go_at_call 71;apply Calls.m u;rintro e f ⟨rfl,g⟩))
  all_goals
   clear V W Y u C z;have l:bW f f:=AC _ _;have⟨V,W,Y⟩:=(g.2.2 f l).1;go_wp2;go_region_held3 (λX=>X.c w 1=some (.i a)/\X.c w 2=some (.t P))
    (exact(g.2.2 _ l.drew).1.2)
    ((go_at_call 72;apply Calls.w (g.2.2 _ l.drew).2.1))
   go_wp2_with (go_at_call 60;apply Calls.w (g.2.2 _ l.drew).2.2.1);go_region_held3 (λX=>X.c w 1=some (.i a)/\X.c w 2=some (.t P))
    (first|exact(g.2.2 _ l.drew.drew).1.2|exact a6)
    ((go_at_call 73;apply Calls.m ((g.2.2 _ l.drew.drew).2.2.2 ah);rintro e af ⟨rfl,a6,a8,a7⟩))
   go_wp2;go_ret;exact⟨rfl,a8,a7⟩
 .have hb:((9:Int)==9&&D.fs.life==0)=true:=by simp[hl]
  have hn:Hid (9≠gP r P):=λe=>Rq r P e.symm;rw[hb,hc]at u;go_enter func26,ntmps26;go_wp2;go_region_held3 (λX=>X.c q 1=some (.p D.d 0)/\X.c w 1=some (.i a)/\X.c w 2=some (.t P))
   (first|exact C _ A.drew|exact(g.2.2 _ (AC _ _)).1)
   ((go_at_call 71;apply Calls.m u;rintro e f ⟨rfl,g⟩))
  all_goals
   have l:bW f f:=AC _ _;have⟨V,W,Y⟩:=(g.2.2 f l).1;go_wp2;go_region_held3 (λX=>X.c w 1=some (.i a)/\X.c w 2=some (.t P))
    (exact(g.2.2 _ l.drew).1.2)
    ((go_at_call 72;apply Calls.w (g.2.2 _ l.drew).2.1))
   go_wp2_with (go_at_call 60;apply Calls.w (g.2.2 _ l.drew).2.2.1);go_ret;have⟨K',D',v',o',ag,a3,M',a9,a2⟩:=g.2.1 hn;refine⟨rfl,g.1.t (vV l.drew (λy j=>?_)),K',D',v',o',ag,a3,M',a9.below l.drew,a2⟩;exact(a9.book y j).1
end
variable {ps:List Value} {vp:Value} {w:World}
theorem Sg(n:Nat)(z w)(g:n<=1000000000)(f:z=(n:Int)):
  cL 30 #[.i z] w λe w'=>e=.r (.t (nH n))/\bW w w':=by
 subst f;have a:=qHd w (UInt8.ofNat n) (UInt8.ofNat (n / 256));have b:((UInt8.ofNat n).toNat:Int)=(n:Int) % 256:=σ;have c:((UInt8.ofNat (n / 256)).toNat:Int)=(n:Int) / 256 % 256:=σ;rw[b,c]at a;have d:(⟨#[126,UInt8.ofNat n,UInt8.ofNat (n / 256)]⟩:ByteArray)=nH n:=rfl;rw[d]at a;go_enter func30,ntmps30;go_wp2;go_ret;exact⟨rfl,bA _ _⟩
theorem qHs{P ops s o a Q}(w)(E:o.guard=none)(t x T b zero z bytes)(J:o.op=.call {callee:=.builtin .append,args:=#[t,x],argTypes:=#[T,T]})(k:P.underlying T=some (.slice b))(hi:(P.info? b).map (λi=>(i.zero,i.size,i.bytes))=some (some zero,z,bytes))(r:zero.cells.size=z)(p:0<z)(v n xs)(M:a.eval t=v)(q:w.ownsRow 0 b z v n xs)(c)(O:a.eval x=.q w.1.size 1 1)(H:c.length=z)(j:∀u∈c,u.oneCell'=true)(C:n+1<=140737488355328)(l:(n+1) * bytes<=140737488355328)(h:∀v' w',fO b z v n xs c 1 w v' w'->(∀d e g,w.ownsRow 0 b z e d g->(e.ownBlock≠v.ownBlock\/d<=n)->w'.ownsRow 0 b z e d g)->wpList P ops Q s (a.put o.dst v') w'):
  wpList P ops Q (o :: s) a (w.alloc (.cells c.toArray b)):=by
 refine FH E λK D=>?_;have⟨v',w',m,y⟩:=Aj (P:=P) w T o.type b zero z bytes k hi r p v n xs q c H j C l;have⟨V,F,R,S,U⟩:=FL hi;have I:∀f u,c[f]?=some u->(w.alloc (.cells c.toArray b)).cell? (((aD w 0):Addr).add f)=some u:=λf u N=>by
  have A:((aD w 0):Addr).add f=(aD w f):=by unfold Addr.add;split<;>simp_all
  rw[A];simp only[World.cell?,aB w (.cells c.toArray b)];simpa using N
 unfold Oper.wp execOp;simp only[J,resolve,invoke,builtin,EK,ED,DN,DQ,BE,DB,M,O,m];exact D _ _ (h v' w' y (λd e g (B:w.ownsRow 0 b z e d g) L=>Qe (P:=P) (w.alloc (.cells c.toArray b)) 0 T o.type b V zero z bytes k F R S U r p v n xs (CG q _) (aD w 0) 1 1 c ω I j δ (by unfold maxLen;omega) l v' w' m 0 d e g (CG B _) L))
abbrev qGy(j:Nat):List Value:=[.string (nH (j / 4)),.string ⟨#[]⟩]
def mrk(j n:Nat):List Value:=(List.replicate n (qGy j)).flatten
theorem qCe(j n):(mrk j n)=n * 2:=by simp[mrk]
theorem Yq(j):∀(n k i:Nat),k<n->i<2->(mrk j n)[k * 2+i]?=(qGy j)[i]?
 |0,_,_,h,_=>by omega
 |n+1,0,i,_,hi=>by
  rw[mrk,List.replicate_succ,FU,EO,EA,BK (by simpa using hi)]
 |n+1,k+1,i,h,hi=>by
  rw[mrk,List.replicate_succ,FU,AZ χ];have a:(k+1) * 2+i-(qGy j)=k * 2+i:=χ
  rw[a];exact Yq j n k i ω hi
theorem Sd(j n):mrk j (n+1)=mrk j n++qGy j:=by rw[mrk,List.replicate_succ',List.flatten_append];simp[mrk]
theorem qOb(j i n)(xs:List Value)(c:xs.length=n * 2)(hi:i<n):((mrk j i++xs.drop (i * 2)).set (i * 2) (.t (nH (j / 4)))).set (i * 2+1) .e=mrk j (i+1)++xs.drop ((i+1) * 2):=by
 have a:xs.drop (i * 2)=xs[i * 2]'(by omega):: xs[i * 2+1]'(by omega):: xs.drop ((i+1) * 2):=by
  rw[BZ (by omega:i * 2<xs.length),BZ (by omega:i * 2+1<xs.length),show i * 2+1+1=(i+1) * 2 by omega]
 have b:=qCe j i;rw[a,FK _ _ ω,FK _ _ ω,b,Sd,CA,show i * 2-i * 2=0 by omega,show i * 2+1-i * 2=1 by omega];rfl
structure jW (w:World) (vp:Value) (ps:List Value):Prop where
 row:w.ownsRow 0 30 1 vp ps.length ps
 four:ps.length % 4=0
 cut:∀j (h:j<ps.length),∃n,n<=1100000/\w.ownsRow 0 71 2 ps[j] n (mrk j n)
def fpK(vp:Value)(ps:List Value):Bl:=λk=>vp.ownBlock=some k\/∃u∈ps,u.ownBlock=some k
theorem jW.on {w w'}(h:jW w vp ps)(c:On (fpK vp ps) w w'):jW w' vp ps :=
 ⟨aS h.row c (λg a=>.inl a),h.four,λf b=>by have⟨n,e,d⟩:=h.cut f b;exact⟨n,e,aS d c (λg a=>.inr ⟨_,AA b,a⟩)⟩⟩
theorem jW.lies (h:jW w vp ps):∀k,fpK vp ps k->k<w:=by
 rintro k (a|⟨f,d,a⟩)
 .exact aL h.row a
 .obtain⟨e,c,rfl⟩:=AW d;have⟨n,_,b⟩:=h.cut e c;exact aL b a
theorem jW.bl {w x:World}(h:jW w vp ps)(d:bW w x):jW x vp ps:=h.on (vV d h.lies)
theorem jW.none(w:World):jW w .n []:=⟨AO _ _ _ _,rfl,λb a=>absurd a (FQ _)⟩
theorem qPk(j:Nat)(h:j<=1000000000):IntKind.i64.wrap ((j:Int).tdiv 4)=((j / 4:Nat):Int):=by
 rw[CQ,KD ω];omega
theorem qPl(j:Nat):(j:Int) / 4=((j / 4:Nat):Int):=ω
theorem xJ {B:Nat}{e:TypeId}{z:Nat}{v:Value}{n:Nat}{xs:List Value}(h:w.ownsRow B e z v n xs):∃a c,v=.s a n c/\(n≠0->∃g,a=some (aD g 0)/\g<w/\∀j u,xs[j]?=some u->w.c g j=some u):=by
 obtain⟨m,⟨rfl,rfl⟩|⟨g,k,l,rfl,_⟩⟩:=id h
 .exact⟨none,0,rfl,λh=>absurd rfl h⟩
 .refine⟨_,_,rfl,λ_=>⟨g,rfl,((EQ (w:=w) h) g rfl).2,λj u i=>?_⟩⟩;have:=(λg d=>DH (w:=w) h (g:=g) d) g rfl j u i;have e:((aD g 0):Addr).add j=(aD g j):=by unfold Addr.add;split<;>simp_all
  rw[e]at this;exact this
theorem qOf {q:Nat}(h:jW w vp ps)(hn:ps.length<=10000000)(hq:q<w)(c14:w.c q 14=some .n)(c15:w.c q 15=some .n)(c16:w.c q 16=some .n)(c17:w.c q 17=some vp):
  cL 10 #[.p q 14] w λe w'=>e=.r (.bool true)/\bW w w':=by
 obtain⟨pa,pc,rfl,hp⟩:=xJ h.row;have HQ:Hid (∀X,bW w X->X.c q 17=some (.s pa ps pc)):=λX hX=>(hX.cell (p:=(aD q 17)) hq).t c17;have H:Hid (jW w (.s pa ps pc) ps):=h;clear h;go_enter func10,ntmps10;go_wp2;go_loopw [3,4] (λi k wr=>i=.i 0/\w=wr) (λ_ _ _=>0)
 case atStart=>exact⟨rfl,rfl⟩
 case round =>
  obtain⟨rfl,hwr⟩:=hrel;subst hwr;go_wp2;go_loopw [5,6] (λi k wr2=>i=.i 0/\w=wr2) (λ_ _ _=>0)
  case atStart=>exact⟨rfl,rfl⟩
  case round =>
   obtain⟨rfl,hwr⟩:=hrel;subst hwr;go_wp2;go_loopw [7,8] (λi k wr2=>i=.i 0/\w=wr2) (λ_ _ _=>0)
   case atStart=>exact⟨rfl,rfl⟩
   case round =>
    obtain⟨rfl,hwr⟩:=hrel;subst hwr;go_wp2;go_loopw [9,10] (λi k wr=>∃j:Nat,j<=ps/\i=.i j/\bW w wr) (λi _ _=>ps-(intOf i).toNat)
    case atStart=>exact⟨0,AG _,rfl,AC _ _⟩
    case round =>
     obtain⟨j,hj,rfl,hb⟩:=hrel;have q17:=HQ.o wr hb;rcases BT j ps with hlt|hge
     .have hji:(j:Int)<(ps.length:Int):=ω
      obtain⟨g,rfl,hg,hcell⟩:=hp ω;have hrow0:=hcell j _ (jQ hlt);obtain⟨n,hn1,hcut⟩:=H.o.cut j hlt;obtain⟨a,c,hv,hnz⟩:=xJ hcut;rw[hv]at hrow0;have HR:Hid (∀X,bW w X->X.c g j=some (.s a n c)):=λX hX=>(hX.cell (p:=(aD g j)) hg).t hrow0;have HE:Hid (∀X m,bW w X->m<n->∃ga,a=some (aD ga 0)/\X.c ga (m * 2)=some (.t (nH (j / 4)))/\X.c ga (m * 2+1)=some .e):=λX m hX hm=>by
       obtain⟨ga,e,hga,hc⟩:=hnz ω;exact⟨ga,e,(hX.cell (p:=(aD ga (m * 2))) hga).t (hc _ _ (Yq j n m 0 hm δ)),(hX.cell (p:=(aD ga (m * 2+1))) hga).t (hc _ _ (Yq j n m 1 hm δ))⟩
      have HM:Hid (∀z X,z=((j / 4:Nat):Int)->cL 30 #[.i z] X λe w'=>e=.r (.t (nH (j / 4)))/\bW X w'):=λz X hz=>Sg (j / 4) z X ω hz;have hr:=HR.o wr hb;go_wp2;go_loopw [10] (λk wr=>∃m:Nat,m<=n/\k=.i m/\bW w wr) (λk _=>n-(intOf k).toNat)
      case atStart=>exact⟨0,AG _,rfl,hb⟩
      case round =>
       obtain⟨m,hm,rfl,hb⟩:=hrel;have q17:=HQ.o wr hb;have hr:=HR.o wr hb;rcases BT m n with hlt2|hge2
       .have hji2:(m:Int)<(n:Int):=ω
        obtain⟨ga,hga,e0,e1⟩:=HE.o wr m hb hlt2;subst hga;go_wp2;go_region_held3 (λX=>X.c q 17=some (.q g ps pc)/\X.c g j=some (.q ga n c)/\X.c ga (m * 2)=some (.t (nH (j / 4)))/\X.c ga (m * 2+1)=some .e)
         (first|exact⟨q17,hr,e0,e1⟩|(exact⟨HQ.o _ hbw,HR.o _ hbw,by obtain⟨ga',e',h1,h2⟩:=HE.o _ m hbw hlt2;cases e';exact⟨h1,h2⟩⟩))
         (((with_reducible refine Calls.m (HM.o _ _ ?_) ?_);(first|exact qPk j ω|exact qPl j);rintro e w3 ⟨rfl,hb3⟩;have hbw:=hb.drew.t (hb3.m hb.size)))
        all_goals go_wp2
        all_goals exact⟨⟨m+1,ω,σ,hbw⟩,θ⟩
       .obtain rfl:m=n:=ω;go_wp2;exact⟨⟨j+1,ω,σ,hb⟩,θ⟩
     .obtain rfl:j=ps:=ω;go_wp2;go_ret;exact⟨rfl,hb⟩
structure KpS (w X:World) (q:Nat) (M:RM) (mb:Nat) (vl:Value) (n:Nat) (vp:Value) (ps:List Value) (a b:Nat) (g vq:Value) (qs:List Value):Prop where
 box:X.1[q]?=some ({M with p9:=vq}:RM).obj
 mbx:X.1[mb]?=some (.cells #[.string (nH (ps.length / 4)),.string ⟨#[]⟩] 71)
 row:X.ownsRow 0 30 1 vq qs.length qs
 len:qs.length=ps.length+b
 cut:∀j (h:j<qs.length),∃m,m<=1100000/\X.ownsRow 0 71 2 qs[j] m (mrk j m)/\(qs[j].ownBlock≠g.ownBlock\/m<=n+a)
 gx:X.ownsRow 0 71 2 g (n+a) (mrk ps.length (n+a))
 gm:g.ownBlock≠some mb
 fr:Fr (λk=>k=q\/vp.ownBlock=some k\/vl.ownBlock=some k) w X
 gr:∀k,fpK vq qs k->fpK vp ps k\/vl.ownBlock=some k\/w.1.size<=k
 gb:∀k,g.ownBlock=some k->vl.ownBlock=some k\/w.1.size<=k
 vb:∀k,vq.ownBlock=some k->vp.ownBlock=some k\/w.1.size<=k
section
variable {w X X3:World}{q:Nat}{M:RM}{mb:Nat}{vl:Value}{n:Nat}{vp:Value}{ps:List Value}{a b:Nat}{g vq v3:Value}{qs:List Value}
theorem KpS.lay(h:KpS w X q M mb vl n vp ps a a g vq qs)(J:ps.length % 4=0)(K:a<4)(N:n<=1000000)(d:fO 30 1 vq qs qs [g] 1 X v3 X3):KpS w (X3.setCell (aD q 17) v3) q M mb vl n vp ps a (a+1) g v3 (qs++[g]):=by
 have t:=d.fr.heap h.box (aQ h.row h.box δ);have o:Fr (Bl.one q) X3 (X3.setCell (aD q 17) v3):=(AE (Bl.one q) X3).s q 17;have A:=aC t 17 v3;have y:∀{m:TypeId}{z f:Nat}{v:Value}{l:List Value},X3.ownsRow 0 m z v f l->m≠43->(X3.setCell (aD q 17) v3).ownsRow 0 m z v f l:=λi H=>aS i (o.on (Z:=λc=>_=some c) (λc b=>⟨aL i b,λu=>by cases u;exact aQ i t (λe=>H e.symm) b⟩)) (λc b=>b);have s:∀{f:Nat}{v:Value}{l:List Value},X.ownsRow 0 71 2 v f l->(X3.setCell (aD q 17) v3).ownsRow 0 71 2 v f l:=λi=>y (d.keeps i (dU i h.row δ)) δ;have G:mb≠q:=λe=>by have:=h.mbx;rw[e,h.box]at this;simp at this
 refine⟨by simpa using A,o.heap (d.fr.heap h.mbx (aQ h.row h.mbx δ)) (λe=>G e),by have:=y d.row δ;rw[jK];exact this,by rw[jK,h.len];rfl,λr E=>?_,s h.gx,h.gm,(h.fr.grow d.fr (λc b=>(h.vb c b).imp (λB=>.inr (.inl B)) id)).grow o (λc b=>.inl (.inl b)),?_,h.gb,?_⟩
 .rw[jK,AP]at E
  rcases BT r qs with x|L
  .have⟨f,F,C,D⟩:=h.cut r x;rw[GX x];exact⟨f,F,s C,D⟩
  .obtain rfl:r=qs:=ω;rw[GU (jU _)];simp only[JX,CX];refine⟨n+a,ω,?_,.inr (jU _)⟩;have e:mrk qs (n+a)=mrk ps (n+a):=by
    have:qs.length / 4=ps / 4:=by rw[h.len];omega
    simp only[mrk,qGy,this]
   rw[e];exact s h.gx
 .rintro c (b|⟨I,j,b⟩)
  .rcases d.lies c b with k|k
   .exact h.gr c (.inl k)
   .have:=h.fr.size;exact .inr (.inr ω)
  .rcases AN.1 j with j|j
   .exact h.gr c (.inr ⟨I,j,b⟩)
   .rw[AL]at j;subst j;exact .inr (h.gb c b)
 .intro c b;rcases d.lies c b with k|k
  .exact h.vb c k
  .have:=h.fr.size;exact .inr ω
theorem KpS.ext(h:KpS w X q M mb vl n vp ps a b g vq qs)(d:fO 71 2 g (n+a) (mrk ps (n+a)) (qGy ps) 1 X v3 X3)(l:∀o p t,X.ownsRow 0 71 2 p o t->(p.ownBlock≠g.ownBlock\/o<=n+a)->X3.ownsRow 0 71 2 p o t):KpS w X3 q M mb vl n vp ps (a+1) b v3 vq qs:=by
 have C:=(gL h.mbx);refine⟨d.fr.heap h.box (aQ h.gx h.box δ),d.fr.heap h.mbx h.gm,d.keeps h.row (dU h.row h.gx δ),h.len,λm x=>?_,by have:=d.row;rw[<-Sd]at this;exact this,λj=>?_,h.fr.grow d.fr (λi l=>(h.gb i l).imp (λu=>.inr (.inr u)) id),h.gr,λi y=>?_,h.vb⟩
 .have⟨s,z,k,f⟩:=h.cut m x;refine⟨s,z,l _ _ _ k f,?_⟩;rcases f with f|f
  .by_cases j:qs[m].ownBlock=v3.ownBlock
   .cases hb:qs[m].ownBlock with
    |none =>
     have:s=0:=by
      obtain⟨_,⟨_,v⟩|⟨B,c,r,A,_⟩⟩:=k
      .exact v
      .rw[A]at hb;simp[Value.ownBlock]at hb
     exact .inr ω
    |some i =>
     rw[hb]at j;rcases d.lies i j.symm with e|e
     .rw[hb,e]at f;exact absurd rfl f
     .have:=aL k hb;omega
   .exact .inl j
  .exact .inr ω
 .rcases d.lies mb j with e|e
  .exact h.gm e
  .omega
 .rcases d.lies i y with e|e
  .exact h.gb i e
  .have:=h.fr.size;exact .inr ω
end
theorem qGi:(prog.info? 30).map (λi=>(i.zero,i.size,i.bytes))=some (some .n,1,24):=κ
theorem Kd{w:World}{q:Nat}{M:RM}{vp:Value}{ps:List Value}(hbox:w.1[q]?=some M.obj)(hp:M.p9=vp)(h:jW w vp ps)(hn:ps.length<=10000000){vl:Value}{n:Nat}{xs:List Value}(hl:w.ownsRow 0 71 2 vl n xs)(hn1:n<=1000000)(hap:∀k,vl.ownBlock=some k->∀u∈ps,u.ownBlock≠some k):
  cL 64 #[.p q 14,vl] w λe w'=>e=.r (.tuple #[])/\∃vq qs,jW w' vq qs/\qs.length=ps.length+4/\w'.1[q]?=some ({M with p9:=vq}:RM).obj/\Fr (λk=>k=q\/vp.ownBlock=some k\/vl.ownBlock=some k) w w'/\∀k,fpK vq qs k->fpK vp ps k\/vl.ownBlock=some k\/w<=k:=by
 obtain⟨pa,pc,D⟩:=aG h.row;obtain⟨la,lc,Z⟩:=aG hl;have C:w.c q 17=some M.p9:=by simp[World.cell?,hbox]
 rw[hp,D]at C;have HM:Hid (∀z X,z=((ps / 4:Nat):Int)->cL 30 #[.i z] X λe w'=>e=.r (.t (nH (ps / 4)))/\bW X w'):=λz X hz=>Sg (ps / 4) z X ω hz;have HW:Hid (∀W1,bW w W1->∃W2,W1.alloc (.cells #[.t (nH (ps / 4)),.e] 71)=W2/\cW W2 W1 #[.t (nH (ps / 4)),.e] 71/\bW w W2/\w.1.size<=W1):=λW1 hW=>⟨_,rfl,aB W1 _,hW.alloc hW.size _,hW.size⟩;have H:Hid (jW w vp ps/\M.p9=vp/\vp=.s pa ps pc/\vl=.s la n lc/\w.ownsRow 0 71 2 vl n xs/\(∀k,vl.ownBlock=some k->∀u∈ps,u.ownBlock≠some k)/\w.1[q]?=some M.obj):=⟨h,hp,D,Z,hl,hap,hbox⟩;have E:=hl.1;have R:Hid (xs=n * 2):=E;subst Z;clear D h hp hap hbox E;go_enter func64,ntmps64;go_wp2_with ((with_reducible refine Calls.m (HM.o _ _ ?_) ?_);(first|exact qPk _ ω|exact qPl _);rintro e W1 ⟨rfl,hB1⟩;obtain⟨W2,hW2,x2,hB2,z1⟩:=HW.o W1 hB1;obtain⟨y0,y1⟩:=cM x2;have yfr:=aF x2;have hss:W2.setCell (aD W1 1) .e=W2:=cH x2 rfl);have HL2:Hid (W2.ownsRow 0 71 2 (.s la n lc) n xs):=aS hl (vV (Y:=λk=>(Value.s la n lc).ownBlock=some k) hB2 (λk hk=>aL hl hk)) (λk hk=>hk);have HN:Hid (∀k,(Value.s la n lc).ownBlock=some k->k<w):=λk hk=>aL hl hk;have HX2:Hid (∀X,Fr (λk=>(Value.s la n lc).ownBlock=some k) W2 X->cW X W1 #[.t (nH (ps / 4)),.e] 71):=λX hX=>hX.heap x2 (λe=>by have:=HN.o _ e;omega);clear hl y0 y1 yfr C hss;go_loopw [5] (λi wr=>∃m:Nat,i=.i m/\m<=n/\Hid (wr.ownsRow 0 71 2 (.s la n lc) n (mrk ps m++xs.drop (m * 2))/\Fr (λk=>(Value.s la n lc).ownBlock=some k) W2 wr)) (λi _=>n-(intOf i).toNat)
 case atStart=>exact⟨0,rfl,AG _,by simpa[mrk] using HL2.o,AE _ _⟩
 case round =>
  obtain⟨m,rfl,hm,HH⟩:=hrel;obtain⟨y0,y1⟩:=cM (HX2.o wr HH.o.2);rcases BT m n with K|ad
  .have a5:(m:Int)<(n:Int):=ω;obtain⟨N,hF⟩:=HH.o;obtain⟨a',c',e',O⟩:=xJ N;obtain⟨B,rfl,aj,V⟩:=O ω;simp only[AR,CV]at e';obtain⟨rfl,rfl⟩:=e';have ae:=qCe ps m;have E:=R.o;obtain⟨u0,k0⟩:∃u,wr.c B (m * 2)=some u:=⟨_,V (m * 2) _ (jQ (by rw[jK,BJ];omega))⟩;obtain⟨u1,k1⟩:∃u,wr.c B (m * 2+1)=some u:=⟨_,V (m * 2+1) _ (jQ (by rw[jK,BJ];omega))⟩;obtain⟨af,a7⟩:=lM N;have ai:=aF a7;have a1:Hid ((wr.setCell (aD B (m * 2)) (.t (nH (ps / 4)))).setCell (aD B (m * 2+1)) .e |>.ownsRow 0 71 2 (.q B n lc) n (mrk ps (m+1)++xs.drop ((m+1) * 2))):=by
    have o1:=dT N (m * 2) (by rw[jK,BJ];omega) (.t (nH (ps / 4)));have o2:=dT o1 (m * 2+1) (by rw[BQ,jK,BJ];omega) .e;rw[qOb ps m n xs E K]at o2;exact o2
   have HF:Hid (Fr (λk=>(Value.q B n lc).ownBlock=some k) W2 ((wr.setCell (aD B (m * 2)) (.t (nH (ps / 4)))).setCell (aD B (m * 2+1)) .e)):=(hF.s B (m * 2)).s B (m * 2+1);go_wp2;exact⟨⟨m+1,σ,ω,a1.o,HF.o⟩,θ⟩
  .obtain rfl:m=n:=ω;have Q:Hid (KpS w wr q M W1 (.s la m lc) m vp ps 0 0 (.s la m lc) vp ps):=by
    obtain⟨N,hF⟩:=HH.o;obtain⟨hB,h9,D,_,hl,hap,hbox⟩:=H.o;have F0:=(AB hB2).t hF;have nK:∀k,fpK vp ps k->¬(Value.s la m lc).ownBlock=some k:=by
     rintro k (hk|⟨u,hu,hk⟩) e
     .rcases dU hB.row hl δ with h1|h1
      .rw[h1]at hk;cases hk
      .exact h1 (hk.t e.symm)
     .exact hap k e u hu hk
    have S:=hB.on (F0.on (λk hk=>⟨hB.lies k hk,nK k hk⟩));have an:=R.o;rw[CW ω,EY]at N;refine⟨by have:=F0.heap hbox (aQ hl hbox δ);rw[<-h9];exact this,HX2.o wr hF,S.row,rfl,λj hj=>?_,N,λe=>by have:=HN.o _ e;omega,F0.m (λk hk=>.inl (.inr (.inr hk))),λk hk=>.inl hk,λk hk=>.inl hk,λk hk=>.inl hk⟩;obtain⟨m',L,O⟩:=S.cut j hj;refine⟨m',L,O,?_⟩;by_cases e:ps[j].ownBlock=(Value.s la m lc).ownBlock
    .cases hb:ps[j].ownBlock with
     |none =>
      have:m'=0:=by
       obtain⟨_,⟨_,h0⟩|⟨g',c,r,hv,_⟩⟩:=O
       .exact h0
       .rw[hv]at hb;simp[Value.ownBlock]at hb
      exact .inr ω
     |some k=>exact absurd (e▸hb) (nK k (.inr ⟨_,AA hj,hb⟩))
    .exact .inl e
   have H4:Hid _:=H.o.1.four;clear HH y0 y1 H HX2 HN HL2;go_wp2;go_loopw [6,7] (λg i wr=>∃(a:Nat) (I:Option Addr) (G:Nat) (vq:Value) (qs:List Value),i=.i a/\a<=4/\g=.s I (m+a) G/\Hid (KpS w wr q M W1 (.s la m lc) m vp ps a a (.s I (m+a) G) vq qs)) (λ_ i _=>4-(intOf i).toNat)
   case atStart=>exact⟨0,la,lc,vp,ps,rfl,ω,rfl,Q.o⟩
   case round =>
    clear Q;obtain⟨a,I,G,vq,qs,rfl,ha,rfl,Q⟩:=hrel;rcases BT a 4 with K|ad
    .have a5:(a:Int)<4:=ω;have l:=Q.o;have al:=l.len;have y:=l.row;obtain⟨xa,xc,x⟩:=aG y;obtain⟨nq,T⟩:=nM (qs.length);have C:wr.c q 17=some vq:=by simp[World.cell?,l.box]
     rw[T]at x y;rw[x]at C y;have ag:nq<=10000010:=ω;have a8:Hid (∀F W,fO 30 1 (.s xa nq xc) nq qs [.s I (m+a) G] 1 wr W F->F.c q 17=some (.s xa nq xc)/\(∀i,F.frozen? (aD q i)=false)/\KpS w (F.setCell (aD q 17) W) q M W1 (.s la m lc) m vp ps a (a+1) (.s I (m+a) G) W (qs++[.s I (m+a) G])):=λF W A=>by
      have b3:=A.fr.heap l.box (aQ y l.box δ);exact⟨by simp[World.cell?,b3,x],aF b3,l.lay H4.o K hn1 (by rw[x,T];exact A)⟩
     clear l x Q;go_wp2_with (first
      |(at_builtin;refine gQ wr rfl (.tmp 35) (.tmp 37) 39 30 _ 1 24 rfl underlying39 qGi rfl δ (.s xa nq xc) nq qs rfl y [.s I (m+a) G] rfl rfl υ ω ω ?_;intro W F A3;obtain⟨g3,k3,rfl⟩:=A3.shape δ;obtain⟨am,ak,HK4⟩:=a8.o F _ A3;obtain⟨X4,a4⟩:=nM (F.setCell (aD q 17) (.q g3 (nq+1) k3));rw[a4]at HK4;obtain⟨y0,y1⟩:=cM HK4.mbx;have a6:=HK4.gx;replace HK4:=(show Hid _ from HK4))
      |(at_builtin;refine qHs X4 rfl (.tmp 41) (.tmp 43) 30 71 _ 2 32 rfl underlying30 fR rfl δ (.s I (m+a) G) (m+a) (mrk ps (m+a)) rfl a6 [.t (nH (ps / 4)),.e] rfl rfl υ ω ω ?_;intro v5 X5 A5 ac;obtain⟨g5,k5,rfl⟩:=A5.shape δ;have aa:=(show Hid _ from HK4.o.ext A5 ac)))
     exact⟨⟨a+1,_,_,_,_,σ,ω,rfl,aa.o⟩,θ⟩
    .obtain rfl:a=4:=ω;go_wp2;go_end0;have l:=Q.o;refine⟨rfl,vq,qs,⟨l.row,by rw[l.len];have:=H4.o;omega,λj hj=>?_⟩,l.len,l.box,l.fr,l.gr⟩;obtain⟨m',L,O,_⟩:=l.cut j hj;exact⟨m',L,O⟩
