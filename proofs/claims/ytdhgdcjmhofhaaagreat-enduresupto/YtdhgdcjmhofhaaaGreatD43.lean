import Derived.Test.YtdhgdcjmhofhaaaGreatD42
set_option linter.all false
set_option maxRecDepth 100000
set_option maxHeartbeats 8000000
namespace Go.Proofs.YtdhgdcjmhofhaaaGreat.Tree
open Go.RowKit Pages
def qDt{a:Type}{p}:∀(l:List a),(∀x∈l,p x=true)->l.takeWhile p=l
 |[],_=>rfl
 |x :: l,h=>by rw[JE,AU (h x (by simp)),qDt l (λc b=>h c (by simp[b]))]
def qAi(l m)(h:l.length<=m):sC l ⟨#[]⟩ ⟨#[]⟩ m=l:=by
 have b:rat l ⟨#[]⟩=0:=by
  cases l with
  |nil=>rfl
  |cons a l =>
   have:lt a.1 ⟨#[]⟩=false:=by
    unfold lt;cases h:a.1.toList<;>simp[Op.bytesLess]
   simp[rat,this]
 have c:∀a∈l,Sp.below ⟨#[]⟩ a.1=true:=λa _=>by unfold Sp.below;rw[lZ.2 rfl];rfl
 unfold sC;rw[b,FX,qDt l c,CQ h]
section
variable {n B:Nat}{w:World}{q:Nat}{K:Bl}{D:Db}{v:Nat}{o ao:Option (Nat×T)}{M0:RM}
def IsQ(n B:Nat)(w:World)(D:Db)(v:Nat)(o ao:Option (Nat×T))(L:KV)(X:World):Prop:=Fr (fpD D) w X/\∃D' M',D'.d=D.d/\D'.fs=D.fs/\aJ w (fpD D) (fpD D')/\Lk n B X D' v o ao [] M'/\M'.ts=[]/\M'.now=L
def qGn(h:Lk n B w D v o ao [] M0)(ab:B<=400000)(M:M0.ts=[])(al:(D.fs.life==0)=false)(N L)(u:Int)(A:fM w K N L)(hu:u=v->L=M0.now)(p:∀k,K k->k<w.heap.size/\¬fpD D k):
  cL 52 #[.p q 0,.p D.d 0,.agg #[N,.i u]] w λe w'=>e=.r (.bool (decide (u=v)))/\IsQ n (B+2) w D v o ao M0.now w':=by
 obtain⟨j,l,rfl,ac⟩:=id A
 obtain⟨c,F,g,O,-⟩:=al1 w (.cells #[.s j L.length l,.i u] 32)
 have m:=h.more (h.db.on (vV g h.db.lies)) (jU _)
 have ag:=(gL O)
 have s:Hid (M0.now.length<=400000):=by have:=h.bounds.1;show _<=_;omega
 obtain⟨hd,hdE⟩:=nM (M0.last+1)
 have a4:cL 18 #[.p D.d 0] c λe w'=>e=.r (.i v)/\Hid (Lk n B w' D v o ao [] M0/\Fr (fpD D) c w'):=by
  apply(sH D c m.db).m
  rintro e w' ⟨rfl,t,d⟩
  exact⟨by rw[m.ver],m.more t (jU _),d.m (λk b=>b.elim)⟩
 have V:Hid (∀X,Lk n B X D v o ao [] M0/\Fr (fpD D) c X->cL 12 #[.p D.d 0,.bool false] X λe w'=>e=.r (.tuple #[.i hd,.i 0])/\∃D',D'.d=D.d/\Hid (D'.fs=D.fs/\Lk n (B+1) w' D' v o ao [o] {M0 with last:=hd,ov:=.bool false,ts:=[M0.begun hd false (.bool false)]}/\Fr (fpD D) c w'/\aJ c (fpD D) (fpD D'))):=λX a=>by
  apply(Hb a.1 (by omega) false (by rw[M];simp)).m
  rintro e w' ⟨rfl,D',⟨i,_,ad,_⟩,d,a2,a3⟩
  have C:=a3 (.bool false) (.bool false)
  rw[hdE,M]at C
  have ar:=a.2.size
  exact⟨by rw[hdE],D',i,ad,C,a.2.t d,λk b=>(a2 k b).imp id (λa9=>by omega)⟩
 have H:cD [M0.begun hd false (.bool false)] hd (some (0,M0.begun hd false (.bool false))):=⟨rfl,Oa (by simp) (by simp[RM.begun]) (λm b e=>by omega)⟩
 have a0:Hid (∀X D',D'.fs=D.fs/\Lk n (B+1) X D' v o ao [o] {M0 with last:=hd,ov:=.bool false,ts:=[M0.begun hd false (.bool false)]}/\Fr (fpD D) c X/\aJ c (fpD D) (fpD D')->cL 61 #[.p D'.d 0,.i hd,.e,.e,.i 1099511627776] X λe w'=>∃vl,e=.r (.tuple #[vl,.i 0])/\w'.ownsRow 0 71 2 vl M0.now.length (aI M0.now)/\Hid ((∀k,vl.ownBlock=some k->¬fpD D' k)/\D'.fs=D.fs/\Lk n (B+1) w' D' v o ao [o] {M0 with last:=hd,ov:=.bool false,ts:=[M0.begun hd false (.bool false)]}/\Fr (fpD D) c w'/\aJ c (fpD D) (fpD D'))):=λX D' ⟨a,a1,a2,a3⟩=>by
  have y:cZ (some (0,M0.begun hd false (.bool false))) ⟨#[]⟩ ⟨#[]⟩ 1099511627776=(M0.now,0):=by
   simp only[cZ]
   rw[AU ⟨by decide,by decide,by decide⟩]
   have:sC M0.now ⟨#[]⟩ ⟨#[]⟩ 1099511627776=M0.now:=qAi _ _ (by have:=s.o;omega)
   exact Prod.ext this rfl
  obtain⟨G,g1,g2⟩:=Lj a1 (by omega) hd ⟨#[]⟩ ⟨#[]⟩ 1099511627776 (by decide) _ H
  obtain rfl:=g1.resolve_right (λe=>by rw[a]at e;simp[e.2.1]at al)
  apply(g2 X a1.db).m
  rintro e w' ⟨vl,rfl,t,d,L,a6⟩
  rw[y]at L
  refine⟨vl,by rw[y],L,λk b i=>by have m:=a6 k b;have aa:=a1.db.lies k i;omega,a,a1.more t (jU _),a2.grow d (λk b=>?_),a3⟩
  simp only[Bl.one]at b
  exact a3 k (.inl b)
 have bS:Hid (∀X Y,IsQ n (B+2) c D v o ao M0.now X->bW X Y->IsQ n (B+2) c D v o ao M0.now Y):=λX Y ⟨a,D',M',b,d,e,f,t⟩ r=>⟨a.t (AB r),D',M',b,d,e,f.more (f.db.on (vV r f.db.lies)) (jU _),t⟩
 have U:Hid (∀X D' vl,X.ownsRow 0 71 2 vl M0.now.length (aI M0.now)->D'.d=D.d->(∀k,vl.ownBlock=some k->¬fpD D' k)/\D'.fs=D.fs/\Lk n (B+1) X D' v o ao [o] {M0 with last:=hd,ov:=.bool false,ts:=[M0.begun hd false (.bool false)]}/\Fr (fpD D) c X/\aJ c (fpD D) (fpD D')->cL 27 #[.p D'.d 0,.i hd] X λe w'=>e=.r (.i 0)/\Hid (IsQ n (B+2) c D v o ao M0.now w'/\w'.ownsRow 0 71 2 vl M0.now.length (aI M0.now))):=λX D' vl f z ⟨a,a1,a2,a3,a5⟩=>by
  apply(Tf a2 hd 0 _ H).m
  rintro e w' ⟨rfl,a8,⟨y1,_,y2,_⟩,d,y3,y4⟩
  exact⟨rfl,⟨a3.grow d a5,a8,_,y1.t z,y2.t a1,aJ.t a5 a3.size y3,y4 (.bool false),rfl,rfl⟩,aS (Y:=λk=>vl.ownBlock=some k) f (d.on (λk b=>⟨aK f b,a k b⟩)) (λk b=>b)⟩
 have x:Hid (∀X,IsQ n (B+2) c D v o ao M0.now X->cW X w.heap.size #[.s j L.length l,.i u] 32/\fM X K (.s j L.length l) L):=λX ⟨a,_⟩=>by
  refine⟨a.heap O (λi=>by have:=h.db.lies _ i;omega),(A.on (vV g (λk b=>(p k b).1))).on (a.on (λk b=>⟨jY (p k b).1 g.size,(p k b).2⟩))⟩
 have W:Hid (∀X,IsQ n (B+2) c D v o ao M0.now X->IsQ n (B+2) w D v o ao M0.now X):=λX ⟨a,D',M',b,d,e,f⟩=>⟨(AB g).t a,D',M',b,d,λk r=>(e k r).imp id (λt=>by have:=g.size;omega),f⟩
 have x1:Hid (lW K c):=λk b=>by have:=(p k b).1;have:=g.size;omega
 by_cases huv:u=v
 .obtain rfl:=hu huv
  subst huv
  have Z:Hid (∀X vl,IsQ n (B+2) c D v o ao M0.now X/\X.ownsRow 0 71 2 vl M0.now.length (aI M0.now)->cL 102 #[.agg #[.s j M0.now.length l,.i v]] X λe w'=>∃v',e=.r v'/\w'.ownsRow 0 71 2 v' M0.now.length (aI M0.now)/\Hid (IsQ n (B+2) c D v o ao M0.now w'/\w'.ownsRow 0 71 2 vl M0.now.length (aI M0.now))):=λX vl a=>by
   refine(Uc _ v M0.now K X (x.o X a.1).2 (λk b=>by have:=x1.o k b;have:=a.1.1.size;omega) (by have:=s.o;omega)).m ?_
   rintro e w' ⟨v',rfl,f,r,_⟩
   exact⟨v',rfl,f,bS.o _ _ a.1 r,aS (Y:=λk=>vl.ownBlock=some k) a.2 (vV r (λk b=>aK a.2 b)) (λk b=>b)⟩
  have a1:Hid (∀X vl v',X.ownsRow 0 71 2 v' M0.now.length (aI M0.now)->IsQ n (B+2) c D v o ao M0.now X/\X.ownsRow 0 71 2 vl M0.now.length (aI M0.now)->cL 63 #[vl,v'] X λe w'=>e=.r (.bool true)/\Hid (IsQ n (B+2) c D v o ao M0.now w')):=λX vl v' f a=>by
   apply(Iy vl v' M0.now _ _ X (JT a.2) (JT f) (by have:=s.o;omega)).m
   rintro e w' ⟨rfl,r⟩
   exact⟨rfl,bS.o _ _ a.1 r⟩
  rw[CU rfl]
  clear h m A p hu
  go_enter Tryz.func52,Tryz.ntmps52
  go_wp2_with (first
   |(go_at_call 18;apply Calls.m a4;rintro e ai ⟨rfl,P⟩)
   |(go_at_call 12;apply Calls.m (V.o _ P.o);rintro e aj ⟨rfl,D',G,Q⟩;have E:=a0.o _ D' Q.o;rw[G]at E)
   |(go_at_call 61;apply Calls.m E;rintro e ak ⟨vl,rfl,J,R⟩;obtain⟨ae,af,rfl⟩:=aG J;have z:=U.o _ D' _ J G R.o;rw[G]at z)
   |(go_at_call 27;apply Calls.m z;rintro e al ⟨rfl,u⟩;have⟨ap,aq⟩:=bY (x.o _ u.o.1).1)
   |(go_at_call 102;apply Calls.m (Z.o _ _ u.o);rintro e am ⟨ah,rfl,a7,S⟩)
   |(go_at_call 63;apply Calls.m (a1.o _ _ _ a7 S.o);rintro e an ⟨rfl,T⟩))
  go_ret
  exact⟨rfl,W.o _ T.o⟩
 .have hb:((v:Int) != u)=true:=by simp;omega
  rw[EP huv]
  clear h m A p hu
  go_enter Tryz.func52,Tryz.ntmps52
  go_wp2_with (first
   |(go_at_call 18;apply Calls.m a4;rintro e ai ⟨rfl,P⟩)
   |(go_at_call 12;apply Calls.m (V.o _ P.o);rintro e aj ⟨rfl,D',G,Q⟩;have E:=a0.o _ D' Q.o;rw[G]at E)
   |(go_at_call 61;apply Calls.m E;rintro e ak ⟨vl,rfl,J,R⟩;obtain⟨ae,af,rfl⟩:=aG J;have z:=U.o _ D' _ J G R.o;rw[G]at z)
   |(go_at_call 27;apply Calls.m z;rintro e al ⟨rfl,T⟩;have⟨ap,aq⟩:=bY (x.o _ T.o.1).1))
  go_ret
  exact⟨rfl,W.o _ T.o.1⟩
end
structure Wc (n B:Nat) (w:World) (q:Nat) (Bk K:Bl) (β:Nat) (sv lv:Value) (fs:Fs) (v:Nat) (o:Option (Nat×T)) (M:RM):Prop where
 ref:aY w K q M
 f:M.f=.p β 0
 file:aF w β sv lv fs
 well:fs.dy
 len:fs.safe.length=n
 sz:(∀s∈fs.safe,s.size=256)/\(∀x∈fs.late,x.2.size=256)/\fs.fits
 safe:40<=n->Safe n fs v o M
 nv:M.nv=v
 vB:v<=B
 now:kvB (aU o)=M.now
 few:M.now.length<=B/\M.ah.length<=B
 tw:∃b,M.p2=.bool b
 fl:Fl B fs M
 spoiled:M.p4=.bool false
 meta':M.p5=.bool false/\M.p6=.slice none 0 0/\M.p7=.slice none 0 0/\M.p8=.slice none 0 0
 apart:∀k,fpF β sv lv k->¬Bl.or K (fpR q M) k/\¬Bk k
 book:∀k,Bk k->k<w.heap.size/\¬Bl.or K (fpR q M) k
def Wd.wc{n B w q Bk K D v o ao ots M}(h:Wd n B w q Bk K D v o ao ots M):Wc n B w q Bk K D.β D.sv D.lv D.fs v o M :=
 ⟨h.ref,h.f,h.lk.db.file,h.lk.well,h.lk.store.len,(by have⟨_,a,_⟩:=h.safe;exact⟨a.size,a.lsize,a.fits⟩),λ_=>h.safe,h.lk.nv,h.lk.vB,h.lk.now,⟨h.lk.bounds.1,h.lk.bounds.2.1⟩,⟨_,h.twice⟩,h.fl,h.spoiled,h.meta',λb a=>h.apart b (.inr (.inl a)),h.book⟩
def Lc(n B:Nat)(w:World)(q:Nat)(Bk:Bl)(vp:Value):Prop:=∃K β sv lv fs v o M,Wc n B w q Bk K β sv lv fs v o M/\M.x=.pointer none/\M.p9=vp
section
variable {n B:Nat}{w:World}{q:Nat}{Bk K:Bl}{β:Nat}{sv lv:Value}{fs:Fs}{v:Nat}{o:Option (Nat×T)}{M:RM}
structure OpS (n B:Nat) (w X:World) (q:Nat) (Bk K:Bl) (β:Nat) (sv lv:Value) (fs:Fs) (v:Nat) (o:Option (Nat×T)) (M:RM):Prop where
 wc:Wc n B X q Bk K β sv lv fs v o {M with f:=.p β 0,x:=.pointer none}
 on:On Bk w X
 new:∀k,fpF β sv lv k->w.heap.size<=k
def qHs(h:Wc n B w q Bk K β sv lv fs v o M):cL 15 #[.p β 0] w λe d=>∃c m l,e=.r (.p c 0)/\(∃D y,d.c q 0=some D/\d.c q 1=some y/\(d.setCell (aD q 0) (.p c 0)).cell? (aD q 1)=some y)/\(∀i,d.frozen? (aD q i)=false)/\(∀i,(d.setCell (aD q 0) (.p c 0)).frozen? (aD q i)=false)/\Hid (OpS n B w ((d.setCell (aD q 0) (.p c 0)).setCell (aD q 1) (.pointer none)) q Bk K c m l fs v o M):=by
 apply(Gp β sv lv fs w h.file).m;rintro e d ⟨c,m,l,rfl,z,k,p⟩;have g:=h.ref.below k;have⟨E,C,_⟩:=dE g.box;have u:=aB g.box 0 (.p c 0);have H:=aB u 1 (.pointer none);have j:Fr (Bl.one q) d ((d.setCell (aD q 0) (.p c 0)).setCell (aD q 1) (.pointer none)):=((AE (Bl.one q) d).s q 0).s q 1;have I:=(gL h.ref.box);have F:¬fpF c m l q:=λa=>by have:=p q a;omega
 have⟨A,i2⟩:=g.keep j;exact⟨c,m,l,rfl,⟨_,_,E,C,by simp[World.cell?,u]⟩,aA g.box,aA u,⟨g.reobj (M':={M with f:=.p c 0,x:=.pointer none}) j (by simpa using H) (λb a=>a) i2 (g.now.on A) (g.ah.on A) (.inl ⟨rfl,rfl⟩),rfl,z.on (j.on (λb a=>⟨z.lies b a,λe=>by simp only[Bl.one]at e;subst e;exact F a⟩)),h.well,h.len,h.sz,h.safe,h.nv,h.vB,h.now,h.few,h.tw,h.fl,h.spoiled,h.meta',λb a=>⟨λt=>by have r:=p b a;have s:=h.ref.lies b t;omega,λt=>by have r:=p b a;have s:=(h.book b t).1;omega⟩,λb a=>⟨by have r:=(h.book b a).1;have s:=k.size;have G:=j.size;omega,(h.book b a).2⟩⟩,(vV k (λb a=>(h.book b a).1)).t (j.on (λb a=>⟨by have r:=(h.book b a).1;have s:=k.size;omega,λe=>(by simp only[Bl.one]at e;subst e;exact(h.book _ a).2 (.inr (.inl rfl)))⟩)),p⟩
def OpS.trouble{X:World}(h:OpS n B w X q Bk K β sv lv fs v o M)(z):cL 51 #[.p q 0,.i z] X λe w'=>e=.r (.bool (decide (z<fs.failed)||fs.life==0))/\w'=X:=sI q β sv lv fs X h.wc.file (dE h.wc.ref.box).1 z
def OpS.pages{X:World}(h:OpS n B w X q Bk K β sv lv fs v o M):cL 31 #[.p β 0] X λe w'=>e=.r (.i n)/\w'=X:=by
 have i:=nN β sv lv fs X h.wc.file;rw[h.wc.len]at i;exact i
def qBf(h:Wc n B w q Bk K β sv lv fs v o M)(z:n<40):
  cL 20 #[.p q 0] w λe w'=>e=.r (.bool true)/\On Bk w w'/\Lc n B w' q Bk M.p9:=by
 have A:=(dE h.ref.box).1
 rw[h.f]at A
 have G:(n:Int)<40:=by omega
 have p:Hid (∀X a c b,OpS n B w X q Bk K a c b fs v o M->X.c q 0=some (.p a 0)/\(cL 49 #[.p a 0] X λe w'=>e=.r (.bool (fs.life==0))/\w'=X)/\(cL 50 #[.p a 0] X λe w'=>e=.r (.i fs.failed)/\w'=X)/\(cL 11 #[.p a 0] X λe w'=>e=.r (.tuple #[.pointer none,.i 1])/\w'=X)):=λX a c b d=>⟨(dE d.wc.ref.box).1,fU a c b fs X d.wc.file,oQ a c b fs X d.wc.file,qFs a c b fs X d.wc.file (by rw[h.len];exact z)⟩
 have s:Hid (∀X a c b,OpS n B w X q Bk K a c b fs v o M->(cL 51 #[.p q 0,.i fs.failed] X λe w'=>(∃m,e=.r (.bool m))/\w'=X)/\(cL 31 #[.p a 0] X λe w'=>e=.r (.i n)/\w'=X)):=λX a c b d=>⟨(d.trouble _).m (λe w' l=>⟨⟨_,l.1⟩,l.2⟩),d.pages⟩
 generalize (fs.life==0)=gn at p
 go_enter Tryz.func20,Tryz.ntmps20
 go_wp2_with (first
  |(go_at_call 15;apply Calls.m (qHs h);rintro e r ⟨a,c,b,rfl,⟨C,D,I,J,L⟩,E,F,f⟩;have⟨k,y⟩:=nM ((r.setCell (aD q 0) (.p a 0)).setCell (aD q 1) (.pointer none));rw[y]at f;have⟨H,g,t,u⟩:=p k _ _ _ f;have⟨x,i⟩:=s k _ _ _ f)
  |(go_at_call 49;apply Calls.m g;rintro e w' ⟨rfl,j⟩;subst w')
  |(go_at_call 50;apply Calls.m t;rintro e w' ⟨rfl,j⟩;subst w')
  |(go_at_call 11;apply Calls.m u;rintro e w' ⟨rfl,j⟩;subst w')
  |(go_at_call 51;apply Calls.m x;rintro e w' ⟨⟨m,rfl⟩,j⟩;subst w')
  |(go_at_call 31;apply Calls.m i;rintro e w' ⟨rfl,j⟩;subst w'))
 go_ret
 exact⟨rfl,f.on,K,a,c,b,fs,v,o,_,f.wc,rfl,rfl⟩
end
structure OqS (w X:World) (q:Nat) (Bk K:Bl) (D:Db) (M:RM):Prop where
 ref:aY X K q {M with f:=.pointer (some (aD D.β 0)),x:=.pointer none}
 db:aO X 0 D
 on:On Bk w X
 new:∀k,fpD D k->w.heap.size<=k
structure OpP (n:Nat) (fs:Fs) (D:Db) (v:Nat) (o ao:Option (Nat×T)):Prop where
 ver:D.ver=v
 root:D.root=rootOf o
 aroot:D.aroot=rootOf ao
 failed:D.failed=false
 last:D.last=0
 ts:D.ts=[]
 dy:D.fs.dy
 al:(D.fs.life==0)=false
 fl:D.fs.failed=fs.failed
 st:fA [] n D.fs v o ao
def qMc(n B:Nat)(w:World)(q:Nat)(Bk:Bl)(M:RM)(D:Db)(l:World):Prop:=((∃c,l.c q 1=some c)/\(∀m,l.frozen? (aD q m)=false))/\∀g G H,l.setCell (aD q 1) (.p D.d 0)=g->g.setCell (aD q 10) (.bool false)=G->G.setCell (aD q 11) (.bool false)=H->((∃c,g.c q 10=some c)/\(∀m,g.frozen? (aD q m)=false)/\(∃c,G.c q 11=some c)/\(∀m,G.frozen? (aD q m)=false)/\(∃c,H.c q 13=some c)/\(∀m,H.frozen? (aD q m)=false))/\∀W,H.setCell (aD q 13) (.bool false)=W->On Bk w W/\Lw n (B+1) W q Bk M.p9
section
variable {n B:Nat}{w X:World}{q:Nat}{Bk K:Bl}{β:Nat}{sv lv:Value}{fs:Fs}{v v1:Nat}{o o1 ao1:Option (Nat×T)}{M:RM}{D:Db}
def OqS.on'{Y:World}(h:OqS w X q Bk K D M)(g:Wc n B w q Bk K β sv lv fs v o M){Z}(f:Fr Z X Y)(i:∀k,Z k->w.heap.size<=k/\¬fpD D k):OqS w Y q Bk K D M:=by
 have s:=h.on.size;exact⟨h.ref.aside f (λk a b=>by have c:=(i k a).1;have d:=g.ref.lies k b;omega),h.db.aside f (λk a=>(i k a).2),h.on.t (f.on (λk a=>⟨by have:=(g.book k a).1;omega,λb=>by have c:=(i k b).1;have d:=(g.book k a).1;omega⟩)),h.new⟩
def OqS.fin{l:World}{C E:Value}{A p:KV}{O:Int}(d:OqS w X q Bk K D M)(c:Wc n B w q Bk K β sv lv fs v o M)(P:OpP n fs D v1 o1 ao1)(a3:v1<=B+1)(T:∃u:Int,M.p1=.i u)(j:kvB (aU o1)=A)(k:kvB (aU ao1)=p\/ao1=o1)(a8:A.length<=B)(a9:p.length<=B)(a6:∀x∈p,x.2.size<=400)(a4:fM X K C A)(a5:fM X K E p)(a0:(((((X.setCell (aD q 2) C).setCell (aD q 3) (.i v1)).setCell (aD q 4) E).setCell (aD q 5) (.i O)).setCell (aD q 6) .n).setCell (aD q 7) (.i 0)=l):
  qMc n B w q Bk M D l:=by
 have I:=aB (aB (aB (aB (aB (aB d.ref.box 2 C) 3 (.i v1)) 4 E) 5 (.i O)) 6 .n) 7 (.i 0);rw[a0]at I;refine⟨⟨⟨.pointer none,by simp[World.cell?,I]⟩,aA I⟩,?_⟩;rintro g G H U V Y
 have J:=aB I 1 (.p D.d 0);rw[U]at J;have L:=aB J 10 (.bool false);rw[V]at L;have N:=aB L 11 (.bool false);rw[Y]at N;refine⟨⟨⟨M.p2,by simp[World.cell?,J]⟩,aA J,⟨M.p3,by simp[World.cell?,L]⟩,aA L,⟨M.p5,by simp[World.cell?,N]⟩,aA N⟩,λW Z=>?_⟩
 have a1:=aB N 13 (.bool false);rw[Z]at a1
 have F:Fr (Bl.one q) X W:=by
  rw[<-Z,<-Y,<-V,<-U,<-a0];exact((((((((((AE (Bl.one q) X).s q 2).s q 3).s q 4).s q 5).s q 6).s q 7).s q 1).s q 10).s q 11).s q 13
 have⟨S,m2⟩:=d.ref.keep F;have R:=d.ref.reobj (M':={M with f:=.p D.β 0,x:=.p D.d 0,vn:=C,nv:=v1,now:=A,va:=E,av:=O,ah:=p,ov:=.n,ts:=[],last:=0,p2:=.bool false,p3:=.bool false,p5:=.bool false}) F (by simpa using a1) (λb a=>a) m2 (a4.on S) ⟨a5.on S,d.ref.ah.2.on S⟩ (.inr ⟨rfl,rfl⟩)
 have t:=(gL c.ref.box);have l:=d.db.aside F (λa b r=>by simp only[Bl.one]at b;subst b;have:=d.new _ r;omega);have i:∀a,Bl.or K (fpR q ({M with f:=.p D.β 0,x:=.p D.d 0,vn:=C,nv:=v1,now:=A,va:=E,av:=O,ah:=p,ov:=.n,ts:=[],last:=0,p2:=.bool false,p3:=.bool false,p5:=.bool false}:RM)) a->Bl.or K (fpR q M) a:=by
  rintro a (b|rfl|b|⟨u,s,_⟩)
  .exact .inl b
  .exact .inr (.inl rfl)
  .simp[Value.ownBlock]at b
  .cases s
 have y:=d.on.size;have z:=F.size;obtain⟨aa,a7,a2⟩:=P.st.hold;obtain⟨u,T⟩:=T;have Q:=c.fl
 exact⟨d.on.t (F.on (λa b=>⟨by have:=(c.book a b).1;omega,λh=>by simp only[Bl.one]at h;subst h;exact(c.book _ b).2 (.inr (.inl rfl))⟩)),K,D,v1,o1,ao1,[],_,⟨R,Lk.opened l P.dy P.st P.ver P.root P.aroot P.last P.ts rfl rfl rfl j k a3 (by show A.length<=_;omega) (by show p.length<=_;omega),rfl,rfl,by rw[P.failed],by rw[P.failed],⟨_,a2,⟨u,T,λe=>by simp at e⟩,λv' t a=>⟨λe=>(by have:=a.1;omega),λ_=>by rw[a.2];exact k⟩⟩,⟨by rw[P.fl];exact Q.1,by rw[P.fl];have:=Q.2.1;omega,by have:=Q.2.2.1;show M.oth.length<=_;omega,a6⟩,c.spoiled,⟨rfl,c.meta'.2⟩,λa b=>⟨λe=>by have j:=d.new a b;have k:=c.ref.lies a (i a e);omega,λe=>by have j:=d.new a b;have k:=(c.book a e).1;omega⟩,λa b=>⟨by have:=(c.book a b).1;omega,λe=>(c.book a b).2 (i a e)⟩⟩,rfl⟩
def qBg(h:Wc n B w q Bk K β sv lv fs v o M)(bz:B<=390000)(ag:40<=n):
  cL 20 #[.p q 0] w λe w'=>e=.r (.bool true)/\On Bk w w'/\(Lc n (B+1) w' q Bk M.p9\/Lw n (B+1) w' q Bk M.p9):=by
 have c0:=qHs h
 have bw:=(dE h.ref.box).1
 rw[h.f]at bw
 have cu:¬(n:Int)<40:=by omega
 obtain⟨C,hH,⟨u,ai,hu⟩,hC⟩:=h.safe ag
 obtain⟨tb,ad⟩:=h.tw
 have vB:=h.vB
 have fl:=h.fl
 have J:Hid (∀X D,OqS w X q Bk K D M->X.c q 0=some (.p D.β 0)/\X.c q 2=some M.vn/\X.c q 3=some (.i v)/\X.c q 8=some M.p0/\X.c q 9=some (.i u)/\X.c q 10=some (.bool tb)/\X.c q 13=some (.bool false)):=λX D b=>by
  obtain⟨au,_,a4,a5,_,_,_,_,a6,a7,a2,_,_,a3⟩:=dE b.ref.box
  exact⟨au,a4,by rw[a5];exact CI (λz=>some (Value.i z)) h.nv,a6,by rw[a7];exact CI some ai,by rw[a2];exact CI some ad,by rw[a3];exact CI some h.meta'.1⟩
 have bo:Hid (∀X r G F,OpS n B w X q Bk K r G F fs v o M->X.c q 0=some (.p r 0)/\(cL 49 #[.p r 0] X λe w'=>e=.r (.bool (fs.life==0))/\w'=X)/\(cL 50 #[.p r 0] X λe w'=>e=.r (.i fs.failed)/\w'=X)/\(cL 11 #[.p r 0] X λe w'=>(e=.r (.tuple #[.pointer none,.i 9])/\Hid (w'.c q 0=some (.p r 0)/\(cL 51 #[.p q 0,.i fs.failed] w' λe X=>e=.r (.bool true)/\X=w')/\(cL 31 #[.p r 0] w' λe X=>e=.r (.i n)/\X=w')/\On Bk w w'/\Lc n (B+1) w' q Bk M.p9))\/(∃(D:Db) (U:Nat) (o1 N:Option (Nat×T)),e=.r (.tuple #[.p D.d 0,.i 0])/\D.β=r/\(fs.life==0)=false/\Hid (OpP n fs D U o1 N)/\Hid ((U=v/\o1=o/\(N=o\/∃v',v'≠v+1/\C v' N))\/(U=v+1/\N=o/\C (v+1) o1))/\Hid (OqS w w' q Bk K D M)))):=λX r G F b=>by
  have bg:=b.on.size
  refine⟨(dE b.wc.ref.box).1,fU r G F fs X b.wc.file,oQ r G F fs X b.wc.file,(Oo hH ag (by omega) h.well r G F X b.wc.file).m ?_⟩
  rintro e w' ⟨hF,⟨rfl,ax,b0,C',q1,q2,q3,_,q4,q5,q6⟩|⟨D,U,o1,N,rfl,hD,rfl,_,a1,a2,a3,a4,a5,a6,a7,a8,a9,a10,bx,cc,bs⟩⟩
  .have hw:wrap64 (fs.failed+1)=fs.failed+1:=qW (by have:=fl.1;omega) (by have:=fl.2.1;omega)
   rw[hw]at q4
   have nw:∀k,fpF r G b0 k->w.heap.size<=k:=λk a=>(q2 k a).elim (b.new k) (λe=>by omega)
   have oX:=b.on.t (hF.on (λa d=>⟨by have:=(h.book a d).1;omega,λaf=>by have m:=b.new a af;have b1:=(h.book a d).1;omega⟩))
   have S:OpS n (B+1) w w' q Bk K r G b0 ax v o M:=⟨⟨b.wc.ref.aside hF (λa d af=>(b.wc.apart a d).1 af),rfl,q1,q3,q5.len,⟨q5.size,q5.lsize,q5.fits⟩,λ_=>⟨C',q5,⟨u,ai,hu⟩,λv' t a=>(q6 v' t a).elim (hC v' t) (λe=>⟨λi=>by omega,λ_=>.inr e.2⟩)⟩,h.nv,by omega,h.now,⟨by have:=h.few.1;show M.now.length<=_;omega,by have:=h.few.2;show M.ah.length<=_;omega⟩,h.tw,⟨by have:=fl.1;omega,by have:=fl.2.1;omega,by have:=fl.2.2.1;show M.oth.length<=_;omega,fl.2.2.2⟩,h.spoiled,h.meta',λk a=>⟨λt=>by have r:=nw k a;have s:=h.ref.lies k t;omega,λt=>by have r:=nw k a;have s:=(h.book k t).1;omega⟩,λk a=>⟨by have:=(h.book k a).1;have:=oX.size;omega,(h.book k a).2⟩⟩,oX,nw⟩
   refine .inl ⟨rfl,(dE S.wc.ref.box).1,?_,S.pages,oX,K,r,G,b0,ax,v,o,_,S.wc,rfl,rfl⟩
   have:=S.trouble fs.failed
   rw[show(decide (fs.failed<ax.failed)||ax.life==0)=true by rcases q4 with e|e;(·simp[e.1]);(·rw[e];simp;omega)]at this
   exact this
  .refine .inr ⟨D,U,o1,N,rfl,rfl,?_,⟨a1,a2,a3,a4,a5,a6,a7,a8,a9,bx⟩,cc,b.wc.ref.aside hF (λa d af=>(b.wc.apart a d).1 af),hD,b.on.t (hF.on (λa d=>⟨by have:=(h.book a d).1;omega,λaf=>by have m:=b.new a af;have b1:=(h.book a d).1;omega⟩)),λa d=>(bs a d).elim (b.new a) (λe=>by omega)⟩
   replace a10:=a10.1
   unfold Fs.chOk at a10
   simp at a10
   simpa using a10.1
 have bp:Hid (∀X D U o1 N,OqS w X q Bk K D M->OpP n fs D U o1 N->(cL 51 #[.p q 0,.i fs.failed] X λe w'=>(∃ba,e=.r (.bool ba))/\w'=X)/\(cL 31 #[.p D.β 0] X λe w'=>e=.r (.i n)/\w'=X)/\(cL 15 #[.p D.β 0] X λe w'=>∃i j k,e=.r (.p i 0)/\Hid (OqS w w' q Bk K D M/\aF w' i j k D.fs/\∀a,fpF i j k a->w.heap.size<=a/\¬fpD D a))):=λX D U o1 N b p=>by
  have A:=b.db.file
  have R:=nN D.β D.sv D.lv D.fs X A
  rw[p.st.len]at R
  refine⟨(sI q D.β D.sv D.lv D.fs X A (J.o X D b).1 _).m (λe w' b3=>⟨⟨_,b3.1⟩,b3.2⟩),R,(Gp D.β D.sv D.lv D.fs X A).m ?_⟩
  rintro e w' ⟨i,j,k,rfl,cg,ce,b4⟩
  have bg:=b.on.size
  exact⟨i,j,k,rfl,b.on' h (Z:=Bl.none) (AB ce) (λa d=>d.elim),cg,λa d=>⟨by have:=b4 a d;omega,λH=>by have m:=b4 a d;have b1:=b.db.lies a H;omega⟩⟩
 have bn:Hid (∀X D U o1 N i j k,OpP n fs D U o1 N->OqS w X q Bk K D M/\aF X i j k D.fs/\(∀a,fpF i j k a->w.heap.size<=a/\¬fpD D a)->cL 16 #[.p i 0,.n] X λe w'=>∃O,e=.r O/\Hid (OqS w w' q Bk K D M/\aF w' i j .n D.fs.calm/\∀a,fpF i j .n a->w.heap.size<=a/\¬fpD D a)):=λX D U o1 N i j k p b=>by
  refine(Gn i j k D.fs none 0 0 X b.2.1 p.st.late).m ?_
  rintro e w' ⟨⟨O,rfl⟩,A,C⟩
  refine⟨O,rfl,b.1.on' h C (λa d=>b.2.2 a (.inl d)),A,λa d=>?_⟩
  rcases d with d|d|d
  .exact b.2.2 a (.inl d)
  .exact b.2.2 a (.inr (.inl d))
  .simp[Value.ownBlock]at d
 have ar:Hid (∀X D U o1 N i j k L,OpP n fs D U o1 N->U<=B+1->(aU o1).length<=B->(kvB (aU N)=L\/N=o1)->L.length<=B->((v:Int)=U->M.now=kvB (aU o1))->(tb=true->u=U->M.oth=kvB (aU o1))->OqS w X q Bk K D M/\aF X i j k D.fs.calm/\(∀a,fpF i j k a->w.heap.size<=a/\¬fpD D a)->cL 11 #[.p i 0] X λe w'=>∃a7:Nat,e=.r (.tuple #[.p a7 0,.i 0])/\Hid (OqS w w' q Bk K D M)/\(cL 52 #[.p q 0,.p a7 0,.agg #[M.vn,.i v]] w' λe bb=>e=.r (.bool (decide ((v:Int)=U)))/\Hid (OqS w bb q Bk K D M)/\(tb=true->cL 52 #[.p q 0,.p a7 0,.agg #[M.p0,.i u]] bb λe X=>e=.r (.bool (decide (u=U)))/\Hid (OqS w X q Bk K D M)))):=λX D U o1 N i j k L p h1 h2 h3 h4 h5 h6 b=>by
  refine(Yl (B:=B+1) (L:=L) (fA.eq (fs:=D.fs) rfl rfl p.st:fA [] n D.fs.calm U o1 N) ag ⟨rfl,rfl⟩ i j k X b.2.1 h1 (by omega) (by omega) h3 (by omega)).m ?_
  rintro e w' ⟨am,cf,rfl,a8,_,al,C,a9,Q⟩;replace al:=LF al
  have bg:=b.1.on.size
  have T:=b.1.on' h C b.2.2
  have ab:=Q {M with ts:=[],last:=0,nv:=U,now:=kvB (aU o1),ah:=L} rfl rfl rfl rfl rfl
  have b6:∀a,fpD am a->w.heap.size<=a/\¬fpD D a:=λa d=>by
   rcases a9 a d with m|m
   .exact b.2.2 a m
   .exact⟨by omega,λH=>by have:=b.1.db.lies a H;omega⟩
  have kp:∀{Y:World},On Bk w Y->lW K Y:=λo a d=>by have:=(h.ref.kp a d).1;have:=o.size;omega
  refine⟨am.d,rfl,T,(qGn (q:=q) (K:=K) ab (by omega) rfl al M.vn M.now v T.ref.now h5 (λa d=>⟨kp T.on a d,λH=>by have m:=(b6 a H).1;have b1:=(h.ref.kp a d).1;omega⟩)).m ?_⟩
  rintro e bb ⟨rfl,c1,D',M',c2,c3,c4,c5,c6,c7⟩
  have T2:=T.on' h c1 b6
  have b7:∀a,fpD D' a->w.heap.size<=a/\¬fpD D a:=λa d=>by
   rcases c4 a d with m|m
   .exact b6 a m
   .exact⟨by have:=T.on.size;omega,λH=>by have:=T.db.lies a H;omega⟩
  refine⟨rfl,T2,λht=>?_⟩
  rw[<-c2]
  refine(qGn (q:=q) (K:=K) c5 (by omega) c6 (by rw[c3];exact al) M.p0 M.oth u T2.ref.ah.2 (λe=>by rw[c7];exact h6 ht e) (λa d=>⟨kp T2.on a d,λH=>by have m:=(b7 a H).1;have b1:=(h.ref.kp a d).1;omega⟩)).m ?_
  rintro e Y ⟨rfl,d1,_⟩
  exact⟨rfl,T2.on' h d1 b7⟩
 obtain⟨x0,y0,e0,_⟩:=h.ref.now
 obtain⟨x1,y1,e1,_⟩:=h.ref.ah.1
 obtain⟨x2,y2,e2,_⟩:=h.ref.ah.2
 have aq:Hid (∀X D,OqS w X q Bk K D M->OqS w X.drew q Bk K D M):=λX D b=>b.on' h (Z:=Bl.none) (AE _ _).drew (λa d=>d.elim)
 have bm:Hid (∀X Y D,OqS w X q Bk K D M->bW X Y->OqS w Y q Bk K D M):=λX Y D b cd=>b.on' h (Z:=Bl.none) (AB cd) (λa d=>d.elim)
 have W:Hid (∀X D,OqS w X q Bk K D M->X.heap[q]?=some ({M with f:=.p D.β 0,x:=.pointer none}:RM).obj/\(X.c q 2=some (.s x0 M.now.length y0)/\X.c q 3=some (.i v)/\X.c q 4=some (.s x1 M.ah.length y1)/\X.c q 5=some (.i M.av))/\(X.c q 8=some (.s x2 M.oth.length y2)/\X.c q 9=some (.i u)/\X.c q 2=some (.s x0 M.now.length y0)/\X.c q 3=some (.i v))/\X.c q 6=some M.ov/\X.c q 7=some (.i M.last)):=λX D b=>by
  obtain⟨_,_,a4,a5,bt,bu,bv,a6,b8,b9,_⟩:=dE b.ref.box
  have c2:X.c q 2=some (.s x0 M.now.length y0):=by rw[a4];exact CI some e0
  have c3:X.c q 3=some (.i v):=by rw[a5];exact CI (λz=>some (Value.i z)) h.nv
  exact⟨b.ref.box,⟨c2,c3,by rw[bt];exact CI some e1,bu⟩,⟨by rw[b8];exact CI some e2,by rw[b9];exact CI some ai,c2,c3⟩,bv,a6⟩
 rw[e0,e2]at J
 rw[e0,e2]at ar
 obtain⟨gn,br⟩:=nM ((fs.life==0))
 rw[br]at bo
 clear br
 have HH:Hid (Wc n B w q Bk K β sv lv fs v o M/\(∀v' t,C v' t->(v'=v+1->M.p2=.bool true/\kvB (aU t)=M.oth)/\(v'≠v+1->kvB (aU t)=M.ah\/t=o))/\M.p2=.bool tb/\(M.p2=.bool true->u=v+1)/\∃u:Int,M.p1=.i u):=⟨h,hC,ad,hu,u,ai⟩
 have E0:Hid (M.vn=.s x0 M.now.length y0/\M.va=.s x1 M.ah.length y1/\M.p0=.s x2 M.oth.length y2):=⟨e0,e1,e2⟩
 clear h hH hC ad hu ai fl vB e0 e1 e2
 go_enter Tryz.func20,Tryz.ntmps20
 go_wp2_with (first
  |(go_at_call 15;(with_reducible refine Calls.m c0 ?_);rintro e cl ⟨r,G,F,rfl,⟨cn,co,d2,d3,d4⟩,cr,cs,a0⟩;obtain⟨a1,cb⟩:=nM ((cl.setCell (aD q 0) (.p r 0)).setCell (aD q 1) (.pointer none));rw[cb]at a0;obtain⟨cy,P,c7,ac⟩:=bo.o a1 _ _ _ a0.o)
  |(go_at_call 49;(with_reducible refine Calls.m P ?_);rintro e w' ⟨rfl,aj⟩;subst w')
  |(go_at_call 50;(with_reducible refine Calls.m c7 ?_);rintro e w' ⟨rfl,aj⟩;subst w'))
 go_at_call 11
 (with_reducible refine Calls.m ac ?_)
 rintro e dj (⟨rfl,H9⟩|⟨D,U,o1,N,rfl,rfl,gl,hP,hc,an⟩)
 .obtain⟨f1,f2,f3,f4,f5⟩:=H9.o
  clear c0 bo P c7 ac cy cn co d2 d3 d4 cr cs cb
  go_wp2_with (first
   |(go_at_call 51;(with_reducible refine Calls.m f2 ?_);rintro e w' ⟨rfl,aj⟩;subst w')
   |(go_at_call 31;(with_reducible refine Calls.m f3 ?_);rintro e w' ⟨rfl,aj⟩;subst w'))
  go_ret
  exact⟨rfl,f4,.inl f5⟩
 .subst gl
  clear c0 bo P c7 ac cy cn co d2 d3 d4 cr cs cb
  obtain⟨ca,R,c1⟩:=bp.o _ _ _ _ _ an.o hP.o
  obtain⟨cv,-,-,-,-,-,-⟩:=J.o _ _ an.o
  rcases hc.o with⟨rfl,rfl,bi⟩|⟨rfl,rfl,ay⟩
  .have OP:Hid (∀X i j k,OqS w X q Bk K D M/\aF X i j k D.fs.calm/\(∀a,fpF i j k a->w.heap.size<=a/\¬fpD D a)->cL 11 #[.p i 0] X λe w'=>∃a7:Nat,e=.r (.tuple #[.p a7 0,.i 0])/\Hid (OqS w w' q Bk K D M)/\(cL 52 #[.p q 0,.p a7 0,.agg #[.s x0 M.now.length y0,.i U]] w' λe bb=>e=.r (.bool true)/\Hid (OqS w bb q Bk K D M)/\Hid (tb=true->cL 52 #[.p q 0,.p a7 0,.agg #[.s x2 M.oth.length y2,.i u]] bb λe X=>e=.r (.bool (decide (u=U)))/\Hid (OqS w X q Bk K D M)))):=λX i j k b=>by
    obtain⟨h,hC,ad,hu,_⟩:=HH.o
    have:=ar.o X D U o1 N i j k M.ah hP.o (by have:=h.vB;omega) (by have:=h.few.1;rw[<-h.now,pH]at this;exact this) (bi.elim .inr (λ⟨v',hn,hc'⟩=>(hC v' N hc').2 hn)) h.few.2 (λ_=>h.now.symm) (λht hv=>by have:=hu (by rw[ad,ht]);omega) b
    rw[CU rfl]at this
    exact this
   have az:Hid (∀X l,OqS w X q Bk K D M->(((((X.setCell (aD q 2) (.s x0 M.now.length y0)).setCell (aD q 3) (.i U)).setCell (aD q 4) (.s x1 M.ah.length y1)).setCell (aD q 5) (.i M.av)).setCell (aD q 6) .n).setCell (aD q 7) (.i 0)=l->qMc n B w q Bk M D l):=λX l d hl=>by
    obtain⟨h,hC,ad,hu,ai⟩:=HH.o
    refine d.fin h hP.o (by have:=h.vB;omega) ai h.now (bi.elim .inr (λ⟨v',hn,hc'⟩=>(hC v' N hc').2 hn)) h.few.1 h.few.2 h.fl.2.2.2 ?_ ?_ hl
    .have:=d.ref.now;dsimp only at this;rw[E0.o.1]at this;exact this
    .have:=d.ref.ah.1;dsimp only at this;rw[E0.o.2.1]at this;exact this
   clear HH ar
   cases tb
   all_goals
    go_wp2_with (first
    |(go_at_call 51;(with_reducible refine Calls.m ca ?_);rintro e w' ⟨⟨ba,rfl⟩,aj⟩;subst w')
    |(go_at_call 31;(with_reducible refine Calls.m R ?_);rintro e w' ⟨rfl,aj⟩;subst w')
    |(go_at_call 15;(with_reducible refine Calls.m c1 ?_);rintro e dk ⟨i,j,k,rfl,bj⟩;have c4:=bn.o _ _ _ _ _ _ _ _ hP.o bj.o)
    |(go_at_call 16;(with_reducible refine Calls.m c4 ?_);rintro e dl ⟨O,rfl,bk⟩)
    |(go_at_call 11;(with_reducible refine Calls.m (OP.o _ _ _ _ bk.o) ?_);rintro e ak ⟨a7,rfl,bl,c9⟩;obtain⟨d5,d8,d9,d6,d7,d10,aw⟩:=J.o _ _ bl.o)
    |(go_at_call 52;(with_reducible refine Calls.m c9 ?_);rintro e ak ⟨rfl,V,bh⟩;obtain⟨d5,d8,d9,d6,d7,d10,aw⟩:=J.o _ _ V.o)
    |(go_at_call 52;(with_reducible refine Calls.m (bh.o trivial) ?_);rintro e ak ⟨rfl,V⟩;obtain⟨d5,d8,d9,d6,d7,d10,aw⟩:=J.o _ _ V.o))
    refine cS (S:=(λX:World=>X.c q 2=some (.s x0 M.now.length y0)/\X.c q 3=some (.i U)/\X.c q 4=some (.s x1 M.ah.length y1)/\X.c q 5=some (.i M.av))) 14 (by kernel_rfl) ?_
    have c8:=(show(λX:World=>X.c q 2=some (.s x0 M.now.length y0)/\X.c q 3=some (.i U)/\X.c q 4=some (.s x1 M.ah.length y1)/\X.c q 5=some (.i M.av)) ak.drew from (W.o _ _ (aq.o _ _ V.o)).2.1)
    refine tks [(0,.p q 0),(1,.p q 0),(2,.p q 0),(3,.p q 2),(4,.p q 2),(5,.agg #[.s x0 M.now.length y0,.i U]),(6,.p q 0),(7,.p q 0),(8,.p q 2),(9,.p q 4),(10,.agg #[.s x1 M.ah.length y1,.i M.av])] (by assumption) ?_
    iterate 11 (refine⟨_,rfl,by kernel_rfl,λ_ _ _ h=>h,.inl ⟨by rfl,λw ae=>by(try dsimp only at ae);go_simp⟩,?_⟩;try simp only[pS])
    refine tke ?_
    refine aR (i:=11) (by kernel_rfl) rfl (λK aa=>?_)
    go_simp
    go_at_call 53
    (with_reducible refine Calls.m (Aj x0 x1 M.now.length y0 M.ah.length y1 U M.av ak.drew) ?_)
    rintro e al ⟨rfl,a6⟩
    have ap:=(show Hid _ from bm.o _ _ _ (aq.o _ _ V.o) a6)
    obtain⟨cj,c2,_,dt,du⟩:=W.o _ _ ap.o
    obtain⟨bc,bd,be,bf⟩:=c2
    have dv:=aA cj
    simp only[]
    refine aa.out _ _ (λ_=>⟨bc,bd,be,bf⟩) ?_
    try simp only[pS]
    have c8:=(show(λX:World=>X.c q 2=some (.s x0 M.now.length y0)/\X.c q 3=some (.i U)/\X.c q 4=some (.s x1 M.ah.length y1)/\X.c q 5=some (.i M.av)) al from ⟨bc,bd,be,bf⟩)
    refine tks [(12,.p q 0),(13,.p q 2)] (by assumption) ?_
    iterate 2 (refine⟨_,rfl,by kernel_rfl,λ_ _ _ h=>h,.inl ⟨by rfl,λw ae=>by(try dsimp only at ae);go_simp⟩,?_⟩;try simp only[pS])
    refine tke ?_
    obtain⟨l,b2⟩:=nM ((((((al.setCell (aD q 2) (.s x0 M.now.length y0)).setCell (aD q 3) (.i U)).setCell (aD q 4) (.s x1 M.ah.length y1)).setCell (aD q 5) (.i M.av)).setCell (aD q 6) .n).setCell (aD q 7) (.i 0))
    obtain⟨⟨⟨dn,dm⟩,cp⟩,c3⟩:=az.o al l ap.o b2
    refine aR (i:=14) (by kernel_rfl) rfl (λK aa=>?_)
    go_simp
    refine aa.out _ _ (λe=>by cases e) ?_
    try simp only[pS]
    refine dC (by kernel_rfl) ?_ _
    obtain⟨g,i0⟩:=nM (l.setCell (aD q 1) (.p D.d 0))
    obtain⟨g1,i1⟩:=nM (g.setCell (aD q 10) (.bool false))
    obtain⟨g2,i2⟩:=nM (g1.setCell (aD q 11) (.bool false))
    obtain⟨⟨⟨j1,k1⟩,k2,⟨j3,k3⟩,k4,⟨j5,k5⟩,k6⟩,c5⟩:=c3 g g1 g2 i0 i1 i2
    try rw[b2]
    go_wp2
    go_ret
    exact⟨rfl,(c5 _ rfl).1,.inr (c5 _ rfl).2⟩
  .have HT:tb=true/\u=((v+1:Nat):Int):=by
    obtain⟨h,hC,ad,hu,_⟩:=HH.o
    have e:=((hC _ _ ay).1 rfl).1
    rw[ad]at e
    exact⟨by simpa using e,by have:=hu ((hC _ _ ay).1 rfl).1;omega⟩
   obtain⟨rfl,bq⟩:=HT
   have HU:Hid (u=((v+1:Nat):Int)):=bq
   clear bq
   have OP:Hid (∀X i j k,OqS w X q Bk K D M/\aF X i j k D.fs.calm/\(∀a,fpF i j k a->w.heap.size<=a/\¬fpD D a)->cL 11 #[.p i 0] X λe w'=>∃a7:Nat,e=.r (.tuple #[.p a7 0,.i 0])/\Hid (OqS w w' q Bk K D M)/\(cL 52 #[.p q 0,.p a7 0,.agg #[.s x0 M.now.length y0,.i v]] w' λe bb=>e=.r (.bool false)/\Hid (OqS w bb q Bk K D M)/\Hid (True->cL 52 #[.p q 0,.p a7 0,.agg #[.s x2 M.oth.length y2,.i u]] bb λe X=>e=.r (.bool true)/\Hid (OqS w X q Bk K D M)))):=λX i j k b=>by
    obtain⟨h,hC,ad,hu,_⟩:=HH.o
    have hO:=((hC _ _ ay).1 rfl).2
    have:=ar.o X D (v+1) o1 N i j k M.now hP.o (by have:=h.vB;omega) (by have:=h.fl.2.2.1;rw[<-hO,pH]at this;exact this) (.inl h.now) h.few.1 (λe=>by omega) (λ_ _=>hO.symm) b
    rw[EP (by omega),CU HU.o]at this
    exact this.m (λe w' ⟨a,b,c,d⟩=>⟨a,b,c,d.m (λe w' ⟨a,b,c⟩=>⟨a,b,λ_=>c rfl⟩)⟩)
   have az:Hid (∀X l,OqS w X q Bk K D M->(((((X.setCell (aD q 2) (.s x2 M.oth.length y2)).setCell (aD q 3) (.i u)).setCell (aD q 4) (.s x0 M.now.length y0)).setCell (aD q 5) (.i v)).setCell (aD q 6) .n).setCell (aD q 7) (.i 0)=l->qMc n B w q Bk M D l):=λX l d hl=>by
    obtain⟨h,hC,ad,hu,ai⟩:=HH.o
    rw[HU.o]at hl
    have hO:=((hC _ _ ay).1 rfl).2
    refine d.fin h hP.o (by have:=h.vB;omega) ai hO (.inl h.now) h.fl.2.2.1 h.few.1 (by rw[<-h.now];exact xQ (gO hP.o.st.ahead.rooted hP.o.st.ahead.flat)) ?_ ?_ hl
    .have:=d.ref.ah.2;dsimp only at this;rw[E0.o.2.2]at this;exact this
    .have:=d.ref.now;dsimp only at this;rw[E0.o.1]at this;exact this
   clear HH ar
   go_wp2_with (first
    |(go_at_call 51;(with_reducible refine Calls.m ca ?_);rintro e w' ⟨⟨ba,rfl⟩,aj⟩;subst w')
    |(go_at_call 31;(with_reducible refine Calls.m R ?_);rintro e w' ⟨rfl,aj⟩;subst w')
    |(go_at_call 15;(with_reducible refine Calls.m c1 ?_);rintro e dk ⟨i,j,k,rfl,bj⟩;have c4:=bn.o _ _ _ _ _ _ _ _ hP.o bj.o)
    |(go_at_call 16;(with_reducible refine Calls.m c4 ?_);rintro e dl ⟨O,rfl,bk⟩)
    |(go_at_call 11;(with_reducible refine Calls.m (OP.o _ _ _ _ bk.o) ?_);rintro e ak ⟨a7,rfl,bl,c9⟩;obtain⟨d5,d8,d9,d6,d7,d10,aw⟩:=J.o _ _ bl.o)
    |(go_at_call 52;(with_reducible refine Calls.m c9 ?_);rintro e ak ⟨rfl,V,bh⟩;obtain⟨d5,d8,d9,d6,d7,d10,aw⟩:=J.o _ _ V.o)
    |(go_at_call 52;(with_reducible refine Calls.m (bh.o trivial) ?_);rintro e ak ⟨rfl,V⟩;obtain⟨d5,d8,d9,d6,d7,d10,aw⟩:=J.o _ _ V.o))
   refine cS (S:=(λX:World=>X.c q 8=some (.s x2 M.oth.length y2)/\X.c q 9=some (.i u)/\X.c q 2=some (.s x0 M.now.length y0)/\X.c q 3=some (.i v))) 13 (by kernel_rfl) ?_
   have c8:=(show(λX:World=>X.c q 8=some (.s x2 M.oth.length y2)/\X.c q 9=some (.i u)/\X.c q 2=some (.s x0 M.now.length y0)/\X.c q 3=some (.i v)) ak.drew from (W.o _ _ (aq.o _ _ V.o)).2.2.1)
   refine tks [(0,.p q 0),(1,.p q 0),(2,.p q 0),(3,.p q 8),(4,.agg #[.s x2 M.oth.length y2,.i u]),(5,.p q 0),(6,.p q 0),(7,.p q 2),(8,.p q 2),(9,.agg #[.s x0 M.now.length y0,.i v])] (by assumption) ?_
   iterate 10 (refine⟨_,rfl,by kernel_rfl,λ_ _ _ h=>h,.inl ⟨by rfl,λw ae=>by(try dsimp only at ae);go_simp⟩,?_⟩;try simp only[pS])
   refine tke ?_
   refine aR (i:=10) (by kernel_rfl) rfl (λK aa=>?_)
   go_simp
   go_at_call 53
   (with_reducible refine Calls.m (Aj x2 x0 M.oth.length y2 M.now.length y0 u v ak.drew) ?_)
   rintro e al ⟨rfl,a6⟩
   have ap:=(show Hid _ from bm.o _ _ _ (aq.o _ _ V.o) a6)
   obtain⟨cj,⟨_,_,b4,b5⟩,c2,dt,du⟩:=W.o _ _ ap.o
   obtain⟨bc,bd,be,bf⟩:=c2
   have dv:=aA cj
   simp only[]
   refine aa.out _ _ (λ_=>⟨bc,bd,be,bf⟩) ?_
   try simp only[pS]
   have c8:=(show(λX:World=>X.c q 8=some (.s x2 M.oth.length y2)/\X.c q 9=some (.i u)/\X.c q 2=some (.s x0 M.now.length y0)/\X.c q 3=some (.i v)) al from ⟨bc,bd,be,bf⟩)
   refine tks [(11,.p q 0),(12,.p q 2)] (by assumption) ?_
   iterate 2 (refine⟨_,rfl,by kernel_rfl,λ_ _ _ h=>h,.inl ⟨by rfl,λw ae=>by(try dsimp only at ae);go_simp⟩,?_⟩;try simp only[pS])
   refine tke ?_
   obtain⟨l,b2⟩:=nM ((((((al.setCell (aD q 2) (.s x2 M.oth.length y2)).setCell (aD q 3) (.i u)).setCell (aD q 4) (.s x0 M.now.length y0)).setCell (aD q 5) (.i v)).setCell (aD q 6) .n).setCell (aD q 7) (.i 0))
   obtain⟨⟨⟨dn,dm⟩,cp⟩,c3⟩:=az.o al l ap.o b2
   refine aR (i:=13) (by kernel_rfl) rfl (λK aa=>?_)
   go_simp
   refine aa.out _ _ (λe=>by cases e) ?_
   try simp only[pS]
   refine dC (by kernel_rfl) ?_ _
   obtain⟨g,i0⟩:=nM (l.setCell (aD q 1) (.p D.d 0))
   obtain⟨g1,i1⟩:=nM (g.setCell (aD q 10) (.bool false))
   obtain⟨g2,i2⟩:=nM (g1.setCell (aD q 11) (.bool false))
   obtain⟨⟨⟨j1,k1⟩,k2,⟨j3,k3⟩,k4,⟨j5,k5⟩,k6⟩,c5⟩:=c3 g g1 g2 i0 i1 i2
   try rw[b2]
   go_wp2
   go_ret
   exact⟨rfl,(c5 _ rfl).1,.inr (c5 _ rfl).2⟩
end
def FsQ(fs d:Fs):Prop:=d.safe=fs.safe/\d.late=fs.late/\d.failed=fs.failed/\d.dy
abbrev OpV.ob(c:OpV):Obj:=.cells c.cells 46
def qHc(f)(g:f=54\/f=55)(β sv lv fs n w)(h:aF w β sv lv fs)(e:fs.dy)(i:n<=9223372036854775807):
  cL f #[.p β 0,.i n] w λe w'=>(∃v,e=.r v)/\(∃d,FsQ fs d/\aF w' β sv lv d)/\Fr (Bl.one β) w w':=by
 have⟨a,b,c,d⟩:=e;rcases g with rfl|rfl
 .exact(qHd β sv lv fs n w h).m (λe w' ⟨k,⟨j,o,l⟩,m⟩=>⟨k,⟨{fs with wait:=j},⟨rfl,rfl,rfl,by show -1<=j;omega,by show j<=_;omega,c,d⟩,l⟩,m⟩)
 .exact(qKd β sv lv fs n w h).m (λe w' ⟨k,⟨j,o,l⟩,m⟩=>⟨k,⟨{fs with life:=j},⟨rfl,rfl,rfl,a,b,by show -1<=j;omega,by show j<=_;omega⟩,l⟩,m⟩)
section
variable {n B:Nat}{w w':World}{q:Nat}{Bk K:Bl}{D:Db}{v:Nat}{o ao:Option (Nat×T)}{ots:List (Option (Nat×T))}{M:RM}{β:Nat}{sv lv:Value}{fs d:Fs}
def Safe.refs(h:Safe n fs v o M)(e:FsQ fs d):Safe n d v o M:=by
 have⟨C,a,b⟩:=h;exact⟨C,by rw[e.1,e.2.1];exact a,b⟩
def Fl.refs(h:Fl B fs M)(e:FsQ fs d):Fl B d M:=by unfold Fl;rw[e.2.2.1];exact h
def Wd.refs(h:Wd n B w q Bk K D v o ao ots M)(e:FsQ D.fs d)(a:aF w' D.β D.sv D.lv d)(b:Fr (Bl.one D.β) w w'):Wd n B w' q Bk K {D with fs:=d} v o ao ots M:=by
 have g:Fr (fpF D.β D.sv D.lv) w w':=b.m (λf c=>.inl (.inl c));have l:=h.lk;exact{h with ref:=h.ref.aside g (λf c=>(h.apart f (.inr (.inl c))).1),lk:={l with db:=l.db.refile a g,well:=e.2.2.2,failed:=λc=>(l.failed c).eq e.1 e.2.1,store:=⟨by rw[e.1];exact l.store.len,by unfold gE;unfold Fs.at;rw[e.1,e.2.1];exact l.store.m0,l.store.sure.eq e.1 e.2.1,l.store.ahead.eq e.1 e.2.1⟩,each:=λi c=>{l.each i c with tr:=(l.each i c).tr.eq e.1 e.2.1}},safe:=h.safe.refs e,fl:=h.fl.refs e,book:=λf c=>⟨jY (h.book f c).1 b.size,(h.book f c).2⟩}
def Wc.refs(h:Wc n B w q Bk K β sv lv fs v o M)(e:FsQ fs d)(a:aF w' β sv lv d)(b:Fr (Bl.one β) w w'):Wc n B w' q Bk K β sv lv d v o M:=
 {h with ref:=h.ref.aside b (λf c=>(h.apart f (.inl c)).1),file:=a,well:=e.2.2.2,len:=by rw[e.1];exact h.len,sz:=by unfold Fs.fits;rw[e.1,e.2.1];exact h.sz,safe:=λa=>(h.safe a).refs e,fl:=h.fl.refs e,book:=λf c=>⟨jY (h.book f c).1 b.size,(h.book f c).2⟩}
def Wc.below(a:Wc n B w q Bk K β sv lv fs v o M)(b:bW w w'):Wc n B w' q Bk K β sv lv fs v o M:={a with ref:=a.ref.below b,file:=a.file.on (vV b a.file.lies),book:=λd c=>⟨jY (a.book d c).1 b.size,(a.book d c).2⟩}
def Lc.less{b:Bl}{vp:Value}(h:Lc n B w q Bk vp)(c:∀k,b k->Bk k):Lc n B w q b vp:=by
 have⟨K,y,t,u,m,v,o,M,a,d⟩:=h;exact⟨K,y,t,u,m,v,o,M,{a with apart:=λk e=>⟨(a.apart k e).1,λf=>(a.apart k e).2 (c k f)⟩,book:=λk e=>a.book k (c k e)},d⟩
def Wc.nil(h:Wc n B w q Bk K β sv lv fs v o M):Wc n B (w.setCell (aD q 1) (.pointer none)) q Bk K β sv lv fs v o {M with x:=.pointer none}/\On Bk w (w.setCell (aD q 1) (.pointer none)):=by
 have d:Fr (Bl.one q) w (w.setCell (aD q 1) (.pointer none)):=(AE (Bl.one q) w).s q 1;have i:=aB h.ref.box 1 (.pointer none);have⟨a,b⟩:=h.ref.keep d;exact⟨{h with ref:=h.ref.reobj (M':={M with x:=.pointer none}) d (by simpa using i) (λb a=>a) b (h.ref.now.on a) (h.ref.ah.on a) (.inl ⟨rfl,rfl⟩),file:=h.file.on (d.on (λe c=>⟨h.file.lies e c,λf=>(h.apart e c).1 (.inr (.inl f))⟩)),book:=λg c=>⟨jY (h.book g c).1 d.size,(h.book g c).2⟩},d.on (λe c=>⟨(h.book e c).1,λf=>(h.book e c).2 (.inr (.inl f))⟩)⟩
def qKe(h:Wc n B w q Bk K β sv lv fs v o M)(x:M.x=.pointer none)(ka kc)(f:List Int)(p:aH w Bk ka (f.map (.int .i64)))(l:f.length<=9223372036854775807):
  cL 16 #[.p β 0,.s ka f.length kc] w λe w'=>(∃v,e=.r v)/\On Bk w w'/\aY w' K q M/\Lc n B w' q Bk M.p9:=by
 have⟨a,b,c⟩:=h.sz;apply(qCz β sv lv fs ka kc f Bk w h.file (λj i=>a _ (AA i)) b c p (λd i=>⟨(h.book d i).1,λe=>(h.apart d e).2 i⟩) l).m;intro e w' ⟨i,s,g,d,m⟩;have R:=h.ref.aside m (λd c=>(h.apart d c).1);refine⟨i,m.on (λd c=>⟨(h.book d c).1,λe=>(h.apart d e).2 c⟩),R,K,β,sv,.n,_,v,o,M,{h with ref:=R,file:=d,well:=⟨KX _,by simp,KX _,by simp⟩,len:=g.len.t h.len,sz:=⟨g.sizes,nofun,nofun⟩,safe:=λa=>?_,fl:=h.fl,apart:=λd c=>h.apart d ?_,book:=λd c=>⟨jY (h.book d c).1 m.size,(h.book d c).2⟩},x,rfl⟩
 .have⟨C,j,t⟩:=h.safe a
  exact⟨C,j.crash g,t⟩
 .rcases c with c|c|c
  .exact .inl c
  .exact .inr (.inl c)
  .simp[Value.ownBlock]at c
def qNc(c:OpV){R:World->Prop}(f:M.f=.p β 0)(i:(w.alloc c.ob).heap[q]?=some M.obj)(j:q<w.heap.size)(h:((c.kind=11\/c.kind=12)/\∀f,f=54\/f=55->∀X,bW (w.alloc c.ob) X->cL f #[.p β 0,.i c.n] X λe w'=>(∃v,e=.r v)/\Hid (w'.c q 0=some (.p β 0)/\w'.c w.heap.size 4=some (.i c.n)/\R w'))\/(c.kind=13/\∀X,bW ((w.alloc c.ob).setCell (aD q 1) (.pointer none)) X->cL 16 #[.p β 0,.s c.ka c.kn c.kc] X λe w'=>(∃v,e=.r v)/\Hid (w'.c q 0=some (.p β 0)/\w'.c w.heap.size 6=some (.s c.ka c.kn c.kc)/\R w'))):
  cL 21 #[.p q 0,.agg c.cells] w λe w'=>(∃v,e=.r v)/\R w':=by
 have⟨z,m,P,Q,o,n,s,x,t⟩:=c
 have k:=aC w (OpV.ob ⟨z,m,P,Q,o,n,s,x,t⟩)
 dsimp only[OpV.ob]at h k i
 have⟨g,E⟩:=nM (w.alloc (.cells #[.i z,.i m,.t P,.t Q,.i o,.bool n,.s s x t] 46))
 rw[E]at h k i
 have F:q≠w.heap.size:=by omega
 have A:Hid (∀X,bW g X->X.c q 0=some (.p β 0)/\X.c w.heap.size 4=some (.i o)):=λX b=>by
  have a:=(dE ((b.block _ (gL i)).t i)).1
  rw[f]at a
  exact⟨a,(dY ((b.block _ (gL k)).t k)).2.2.2.2.1⟩
 have⟨d,C⟩:=nM (g.setCell (aD q 1) (.pointer none))
 have u:=aB i 1 (.pointer none)
 rw[C]at u h
 have B:cW d w.heap.size #[.i z,.i m,.t P,.t Q,.i o,.bool n,.s s x t] 46:=C▸((AE (Bl.one q) g).s q 1).heap k (λe=>F e.symm)
 have D:Hid (∀X,bW d X->X.c q 0=some (.p β 0)/\X.c w.heap.size 6=some (.s s x t)):=λX b=>by
  have a:X.c q 0=some M.f:=by simp[World.cell?,(b.block _ (gL u)).t u]
  rw[f]at a
  exact⟨a,(dY ((b.block _ (gL B)).t B)).2.2.2.2.2.2⟩
 have I:=aA i
 have G:=(dE i).2.1
 have J:=(dY k).1
 have p:bW g g:=AC _ _
 have y:bW d d:=AC _ _
 have⟨K,L⟩:=A g p
 have⟨N,O⟩:=D d y
 rcases h with⟨rfl|rfl,H⟩|⟨rfl,H⟩
 .have r:Hid _:=H 54 (.inl rfl)
  go_enter Tryz.func21,Tryz.ntmps21
  go_wp2
  go_region_held3 (λX=>X.c q 0=some (.p β 0)/\X.c w.heap.size 4=some (.i o))
   (first|exact A _ p.drew|exact⟨l.1,l.2.1⟩)
   ((go_at_call 54;apply Calls.m (r _ p.drew);rintro e b ⟨⟨v,rfl⟩,l⟩))
  all_goals go_wp2
  all_goals go_end0
  all_goals exact⟨⟨_,rfl⟩,l.2.2⟩
 .have r:Hid _:=H 55 (.inr rfl)
  go_enter Tryz.func21,Tryz.ntmps21
  go_wp2
  go_region_held3 (λX=>X.c q 0=some (.p β 0)/\X.c w.heap.size 4=some (.i o))
   (first|exact A _ p.drew|exact⟨l.1,l.2.1⟩)
   ((go_at_call 55;apply Calls.m (r _ p.drew);rintro e b ⟨⟨v,rfl⟩,l⟩))
  all_goals go_wp2
  all_goals go_end0
  all_goals exact⟨⟨_,rfl⟩,l.2.2⟩
 .have r:Hid _:=H
  go_enter Tryz.func21,Tryz.ntmps21
  go_wp2
  go_region_held3 (λX=>X.c q 0=some (.p β 0)/\X.c w.heap.size 6=some (.s s x t))
   (first|exact D _ y.drew|exact⟨l.1,l.2.1⟩)
   ((go_at_call 16;apply Calls.m (r _ y.drew);rintro e b ⟨⟨v,rfl⟩,l⟩))
  all_goals go_wp2
  all_goals go_end0
  all_goals exact⟨⟨_,rfl⟩,l.2.2⟩
end
variable {B B' n:Nat} {w:World}
def Lk.up {D v o ao ots M}(h:Lk n B w D v o ao ots M)(a:B<=B'):Lk n B' w D v o ao ots M:=h.more h.db a
def Lw.up {q Bk vp}(h:Lw n B w q Bk vp)(c:B<=B'):Lw n B' w q Bk vp:=by
 have⟨K,D,v,o,l,j,M,a,b⟩:=h;exact⟨K,D,v,o,l,j,M,{a with lk:=a.lk.up c,fl:=a.fl.more c},b⟩
def Lc.up {q Bk vp}(h:Lc n B w q Bk vp)(b:B<=B'):Lc n B' w q Bk vp:=by
 have⟨K,t,l,s,j,v,o,M,a,c⟩:=h;exact⟨K,t,l,s,j,v,o,M,{a with vB:=vJ a.vB b,few:=⟨vJ a.few.1 b,vJ a.few.2 b⟩,fl:=a.fl.more b},c⟩
structure qMv (c:OpV):Prop where
 ok:Nb c
 p:c.p.size<=2000000
 q:c.q.size<=2000000
 k:c.kind<=13
def Xr(w:World)(Ar:Bl)(c:OpV):Prop:=∃keep:List Int,c.kn=keep.length/\aH w Ar c.ka (keep.map (.int .i64))/\keep.length<=9223372036854775807
def LSt(n B:Nat)(w:World)(q:Nat)(Ar:Bl):Prop:=∃Bk vp ps,((Lw n B w q Bk vp/\40<=n)\/Lc n B w q Bk vp)/\kS w vp ps/\ps.length<=4 * B/\(∀k,fpK vp ps k->Bk k/\¬Ar k)/\∀k,Ar k->Bk k
section
variable {n B:Nat}{w w':World}{q:Nat}{Bk K Ar:Bl}{D:Db}{v:Nat}{o ao:Option (Nat×T)}{ots:List (Option (Nat×T))}{M:RM}{ps:List Value}
def LSt.of(f:kS w M.p9 ps)(h:ps.length<=4 * B)(b:∀k,fpK M.p9 ps k->Bk k/\¬Ar k)(a:∀k,Ar k->Bk k)(c:On Bk w w')(g:(Lw n (B+1) w' q Bk M.p9/\40<=n)\/Lc n (B+1) w' q Bk M.p9):On Ar w w'/\LSt n (B+1) w' q Ar :=
 ⟨c.m a,Bk,M.p9,ps,g,f.on (c.m (λk d=>(b k d).1)),by omega,b,a⟩
def Wc.box{β sv lv fs}(h:Wc n B w q Bk K β sv lv fs v o M)(e):Wc n B (w.alloc e) q (Bl.or Bk (Bl.one w.heap.size)) K β sv lv fs v o M:=by
 have d:bW w (w.alloc e):=bA _ _;refine{h with ref:=h.ref.below d,file:=h.file.on (vV d h.file.lies),apart:=λc a=>⟨(h.apart c a).1,λb=>?_⟩,book:=λc a=>?_}
 .rcases b with b|b
  .exact(h.apart c a).2 b
  .simp only[Bl.one]at b;subst b;have:=h.file.lies _ a;omega
 .rcases a with a|a
  .exact⟨jY (h.book c a).1 d.size,(h.book c a).2⟩
  .simp only[Bl.one]at a;subst a;exact⟨by simp,λb=>by have:=h.ref.lies _ b;omega⟩
def Ha(b)(c:kS w M.p9 ps)(f:∀k,fpK M.p9 ps k->Bk k/\¬Ar k)(d:∀k,Ar k->Bk k)(g:lW Bk w):kS (w.alloc b) M.p9 ps/\(∀k,fpK M.p9 ps k->Bl.or Bk (Bl.one w.heap.size) k/\¬Ar k)/\(∀k,Ar k->Bl.or Bk (Bl.one w.heap.size) k)/\On Ar w (w.alloc b):=by
 have e:bW w (w.alloc b):=bA _ _;exact⟨c.on (vV e c.lies),λk a=>⟨.inl (f k a).1,(f k a).2⟩,λk a=>.inl (d k a),vV e (λk a=>g k (d k a))⟩
abbrev Tru(R:World->Prop):Ending->World->Prop:=λe w'=>e=.returned (.bool true)/\R w'
abbrev OpD(w:World)(b:Nat)(c:OpV):Prop:=w.c b 1=some (.i c.tx)/\w.c b 2=some (.string c.p)/\w.c b 3=some (.string c.q)/\w.c b 5=some (.bool c.wr)
abbrev OpC(w:World)(q d b:Nat)(c:OpV):Prop:=w.c q 1=some (.p d 0)/\OpD w b c
section
variable {d:Nat} (c:OpV) {R:World->Prop}
def kG(h:(c.kind=1/\cL 20 #[.p q 0] (w.alloc c.ob) (Tru R))\/((w.alloc c.ob).c q 1=some (.p d 0)/\(((c.kind=3\/c.kind=4)/\cL 23 #[.p q 0,.agg c.cells] (w.alloc c.ob) (Tru R))\/(c.kind=5/\cL 24 #[.p q 0,.agg c.cells] (w.alloc c.ob) (Tru R))\/(c.kind=7/\cL 26 #[.p q 0,.agg c.cells] (w.alloc c.ob) (Tru R))\/(c.kind=9/\cL 29 #[.p q 0,.agg c.cells] (w.alloc c.ob) (Tru R))))):
  cL 9 #[.p q 0,.agg c.cells] w (Tru R):=by
 have⟨l,n,P,Q,g,o,j,m,k⟩:=c
 have f:=aC w (OpV.ob ⟨l,n,P,Q,g,o,j,m,k⟩)
 dsimp only[OpV.ob]at h f
 have⟨i,p⟩:=nM (w.alloc (.cells #[.i l,.i n,.t P,.t Q,.i g,.bool o,.s j m k] 46))
 rw[p]at h f
 have⟨r,s,t,u,v,x,y⟩:=dY f
 rcases h with⟨rfl,H⟩|⟨z,⟨rfl|rfl,H⟩|⟨rfl,H⟩|⟨rfl,H⟩|⟨rfl,H⟩⟩
 all_goals
  go_enter Tryz.func9,Tryz.ntmps9
  go_wp2_with (first
   |(go_at_call 20;apply Calls.m H;rintro b e ⟨rfl,a⟩)
   |(go_at_call 23;apply Calls.m H;rintro b e ⟨rfl,a⟩)
   |(go_at_call 24;apply Calls.m H;rintro b e ⟨rfl,a⟩)
   |(go_at_call 26;apply Calls.m H;rintro b e ⟨rfl,a⟩)
   |(go_at_call 29;apply Calls.m H;rintro b e ⟨rfl,a⟩))
  go_ret
  exact⟨rfl,a⟩
def Ir(h:(c.kind≠1/\c.kind<=10/\(w.alloc c.ob).c q 1=some (.pointer none))\/(c.kind<1/\(w.alloc c.ob).c q 1=some (.p d 0)))(b:R (w.alloc c.ob)):
  cL 9 #[.p q 0,.agg c.cells] w (Tru R):=by
 have⟨a,l,P,Q,f,m,i,k,j⟩:=c
 have e:=aC w (OpV.ob ⟨a,l,P,Q,f,m,i,k,j⟩)
 dsimp only[OpV.ob]at h e b
 have⟨g,n⟩:=nM (w.alloc (.cells #[.i a,.i l,.t P,.t Q,.i f,.bool m,.s i k j] 46))
 rw[n]at h e b
 have⟨D,E,F,G,H,I,J⟩:=dY e
 have p:(a==1)=false:=by rcases h with h|h<;>simp<;>omega
 have s:¬(11:Int)<=a:=by rcases h with h|h<;>omega
 rcases h with⟨_,_,o⟩|⟨C,o⟩
 .go_enter Tryz.func9,Tryz.ntmps9
  go_wp2
  go_ret
  exact⟨rfl,b⟩
 .have t:(a==2)=false:=by simp;omega
  have y:(a==3)=false:=by simp;omega
  have v:(a==4)=false:=by simp;omega
  have x:(a==5)=false:=by simp;omega
  have z:(a==6)=false:=by simp;omega
  have A:(a==7)=false:=by simp;omega
  have r:(a==8)=false:=by simp;omega
  have B:(a==9)=false:=by simp;omega
  have u:(a==10)=false:=by simp;omega
  go_enter Tryz.func9,Tryz.ntmps9
  go_wp2
  go_ret
  exact⟨rfl,b⟩
def yN(k:∀X,Below (w.alloc c.ob).heap.size (w.alloc c.ob) X->OpC X q d w.heap.size c){v}(h:(∃a z,v=.tuple #[.i a,.i z]/\c.kind=2/\∀X,Below (w.alloc c.ob).heap.size (w.alloc c.ob) X->cL 12 #[.p d 0,.bool c.wr] X λe b=>e=.r v/\Hid (∀Y,bW b Y->OpC Y q d w.heap.size c/\cL 22 #[.p q 2,.bool c.wr] Y λe w'=>e=.r v/\Hid (OpD w' w.heap.size c/\R w'))) \/
   (∃z,v=.i z/\((c.kind=6/\∀X,Below (w.alloc c.ob).heap.size (w.alloc c.ob) X->cL 13 #[.p d 0,.i c.tx,.t c.p,.t c.q] X λe b=>e=.r v/\Hid (∀Y,bW b Y->OpC Y q d w.heap.size c/\cL 25 #[.p q 2,.i c.tx,.t c.p,.t c.q] Y λe w'=>e=.r v/\Hid (OpD w' w.heap.size c/\R w'))) \/
    (c.kind=8/\∀X,Below (w.alloc c.ob).heap.size (w.alloc c.ob) X->cL 27 #[.p d 0,.i c.tx] X λe b=>e=.r v/\Hid (∀Y,bW b Y->OpC Y q d w.heap.size c/\cL 28 #[.p q 2,.i c.tx] Y λe w'=>e=.r v/\Hid (OpD w' w.heap.size c/\R w')))))):
  cL 9 #[.p q 0,.agg c.cells] w (Tru R):=by
 have⟨A,m,P,Q,y,n,s,x,t⟩:=c
 have o:=aC w (OpV.ob ⟨A,m,P,Q,y,n,s,x,t⟩)
 dsimp only[OpV.ob,OpC,OpD]at h o k
 have⟨g,G⟩:=nM (w.alloc (.cells #[.i A,.i m,.t P,.t Q,.i y,.bool n,.s s x t] 46))
 rw[G]at h o k
 have F:Hid _:=k
 have i:bW g g:=AC _ _
 have I:=(dY o).1
 have⟨E,r,B,C,D⟩:=k g i
 rcases h with⟨a,z,rfl,rfl,H⟩|⟨z,rfl,⟨rfl,H⟩|⟨rfl,H⟩⟩
 all_goals
  have p:Hid _:=H
  go_enter Tryz.func9,Tryz.ntmps9
  go_wp2
  go_region_held3 (λX=>X.c q 1=some (.p d 0)/\X.c w.heap.size 1=some (.i m)/\X.c w.heap.size 2=some (.t P)/\X.c w.heap.size 3=some (.t Q)/\X.c w.heap.size 5=some (.bool n))
   (first|exact F _ i.drew|exact(f _ (AC _ _)).1)
   (first
    |(go_at_call 12;apply Calls.m (p _ i.drew);rintro e b ⟨rfl,f⟩)
    |(go_at_call 13;apply Calls.m (p _ i.drew);rintro e b ⟨rfl,f⟩)
    |(go_at_call 27;apply Calls.m (p _ i.drew);rintro e b ⟨rfl,f⟩))
  all_goals
   have j:bW b b:=AC _ _
   have⟨E,r,B,C,D⟩:=(f b j).1
   go_wp2
   go_region_held3 (λX=>X.c w.heap.size 1=some (.i m)/\X.c w.heap.size 2=some (.t P)/\X.c w.heap.size 3=some (.t Q)/\X.c w.heap.size 5=some (.bool n))
    (first|exact(f _ j.drew).1.2|exact l.1)
    (first
     |(go_at_call 22;apply Calls.m (f _ j.drew).2;rintro e u ⟨rfl,l⟩)
     |(go_at_call 25;apply Calls.m (f _ j.drew).2;rintro e u ⟨rfl,l⟩)
     |(go_at_call 28;apply Calls.m (f _ j.drew).2;rintro e u ⟨rfl,l⟩))
   all_goals go_wp2
   all_goals go_ret
   all_goals exact⟨rfl,l.2⟩
def qDy{v:Nat}(p:c.kind=10)(k:(w.alloc c.ob).c q 1=some (.p d 0))(h:cL 18 #[.p d 0] (w.alloc c.ob) λe w'=>e=.r (.i v)/\w'.c q 3=some (.i v)/\R w'):
  cL 9 #[.p q 0,.agg c.cells] w (Tru R):=by
 have⟨r,l,P,Q,b,m,g,j,i⟩:=c
 obtain rfl:r=10:=p
 have a:=aC w (OpV.ob ⟨10,l,P,Q,b,m,g,j,i⟩)
 dsimp only[OpV.ob]at h a k
 have⟨f,o⟩:=nM (w.alloc (.cells #[.i 10,.i l,.t P,.t Q,.i b,.bool m,.s g j i] 46))
 rw[o]at h a k
 have s:=(dY a).1
 go_enter Tryz.func9,Tryz.ntmps9
 go_wp2_with (go_at_call 18;apply Calls.m h;rintro e u ⟨rfl,t,n⟩)
 go_ret
 exact⟨rfl,n⟩
def qDz(b:11<=c.kind)(h:cL 21 #[.p q 0,.agg c.cells] (w.alloc c.ob) λe w'=>(∃v,e=.r v)/\R w'):
  cL 9 #[.p q 0,.agg c.cells] w (Tru R):=by
 obtain⟨d,l,P,Q,f,m,g,k,i⟩:=c
 dsimp only at b
 have a:=aC w (OpV.ob ⟨d,l,P,Q,f,m,g,k,i⟩)
 dsimp only[OpV.ob]at h a
 have⟨j,o⟩:=nM (w.alloc (.cells #[.i d,.i l,.t P,.t Q,.i f,.bool m,.s g k i] 46))
 rw[o]at h a
 have⟨s,A,B,C,D,E,F⟩:=dY a
 have t:(d==1)=false:=by simp;omega
 go_enter Tryz.func9,Tryz.ntmps9
 go_wp2_with (go_at_call 21;apply Calls.m h;rintro e p ⟨⟨v,rfl⟩,n⟩)
 go_ret
 exact⟨rfl,n⟩
end
def qEa(h:LSt n B w q Ar)(m:B<=390000)(C:n<=4096)(c)(I:qMv c)(kp:Xr w Ar c):
  cL 9 #[.p q 0,.agg c.cells] w λe w'=>e=.r (.bool true)/\On Ar w w'/\LSt n (B+1) w' q Ar:=by
 have⟨Bk,vp,ps,s,Q,J,i,V⟩:=h
 have ah:=I.k
 have m':B<=400000:=by omega
 have ac:∀{K:Bl}{β:Nat}{sv lv:Value}{fs:Fs}{v:Nat}{o:Option (Nat×T)}{M:RM},Wc n B w q Bk K β sv lv fs v o M->M.p9=vp->cL 20 #[.p q 0] (w.alloc c.ob) (Tru λw'=>On Ar w w'/\LSt n (B+1) w' q Ar):=λk e=>by
  subst e
  have⟨y,A,z,E⟩:=Ha c.ob Q i V (λj i=>(k.book j i).1)
  rcases BR n 40 with C|C
  .apply(qBf (k.box c.ob) C).m
   rintro e w' ⟨rfl,t,s⟩
   have⟨a,b⟩:=LSt.of y J A z t (.inr (s.up (DO B)))
   exact⟨rfl,E.t a,b⟩
  .apply(qBg (k.box c.ob) m C).m
   rintro e w' ⟨rfl,t,s⟩
   have⟨a,b⟩:=LSt.of y J A z t (s.elim .inr (λs=>.inl ⟨s,C⟩))
   exact⟨rfl,E.t a,b⟩
 have hc:∀{K:Bl}{β:Nat}{sv lv:Value}{fs:Fs}{v:Nat}{o:Option (Nat×T)}{M:RM},Wc n B w q Bk K β sv lv fs v o M->M.p9=vp->(c.kind=11\/c.kind=12->∀f,f=54\/f=55->∀X,bW ((w.alloc c.ob).alloc c.ob) X->cL f #[.p β 0,.i c.n] X λe w'=>(∃v,e=.r v)/\aY w' K q M/\On (Bl.or (Bl.or Bk (Bl.one w.heap.size)) (Bl.one (w.alloc c.ob).heap.size)) X w'/\((Lw n (B+1) w' q Bk M.p9/\40<=n)\/Lc n (B+1) w' q Bk M.p9))->11<=c.kind->cL 9 #[.p q 0,.agg c.cells] w λe w'=>e=.r (.bool true)/\On Ar w w'/\LSt n (B+1) w' q Ar:=λ{K β sv lv fs v o M} k e hfd hk=>by
  subst e
  have E:=(vV ((AC w.heap.size w).alloc (jU _) c.ob) (λj a=>(k.book j a).1)).t (vV (Y:=Bk) ((AC _ (w.alloc c.ob)).alloc (jU _) c.ob) (λj a=>by have:=(k.book j a).1;simp;omega))
  have f:=(k.box c.ob).box c.ob
  have ql:=k.ref.lies q (.inr (.inl rfl))
  have fin:∀{w'},On Bk w w'->((Lw n (B+1) w' q Bk M.p9/\40<=n)\/Lc n (B+1) w' q Bk M.p9)->On Ar w w'/\LSt n (B+1) w' q Ar:=λt s=>LSt.of Q J i V t s
  have ar:∀{X:World},On (Bl.or (Bl.or Bk (Bl.one w.heap.size)) (Bl.one (w.alloc c.ob).heap.size)) ((w.alloc c.ob).alloc c.ob) X->On Bk w X/\cW X (w.alloc c.ob).heap.size c.cells 46:=λt=>⟨E.t (t.m (λj a=>.inl (.inl a))),t.heap (aC (w.alloc c.ob) c.ob) (.inr rfl)⟩
  refine qDz c hk (qNc (M:=M) (β:=β) c k.f f.ref.box (by simp;omega) ?_)
  have:c.kind=11\/c.kind=12\/c.kind=13:=by omega
  rcases or_assoc.2 this with e|e
  .refine .inl ⟨e,λg hg X b=>(hfd e g hg X b).m ?_⟩
   intro _ w' ⟨hv,R,t,s⟩
   have⟨y1,y2⟩:=ar ((vV b (λj a=>(f.book j a).1)).t t)
   exact⟨hv,by rw[(dE R.box).1,k.f],(dY y2).2.2.2.2.1,fin y1 s⟩
  .have⟨f1,o1⟩:=f.nil
   refine .inr ⟨e,λX b=>?_⟩
   have o2:=o1.t (vV b (λj a=>(f1.book j a).1))
   have⟨aq,k1,k2,k3⟩:=kp
   rw[k1]
   apply(qKe (f1.below b) rfl c.ka c.kc aq ((k2.on (E.m V)).m (λj a=>.inl (.inl (V j a))) |>.on o2) k3).m
   intro _ w' ⟨hv,t,R,s⟩
   have⟨y1,y2⟩:=ar (o2.t t)
   exact⟨hv,by rw[(dE R.box).1];exact CI some k.f,by rw[<-k1];exact(dY y2).2.2.2.2.2.2,fin y1 (.inr ((s.less (λj a=>.inl (.inl a))).up (DO B)))⟩
 rcases s with⟨⟨K,D,v,o,ao,ap,M,k,rfl⟩,a4⟩|⟨K,β,sv,lv,fs,v,o,M,k,a9,rfl⟩
 .have⟨y,A,z,E⟩:=Ha c.ob Q i V (λj i=>(k.book j i).1)
  have f:=k.box c.ob
  have F:=(dE f.ref.box).2.1.t (by rw[k.x])
  have ad:=aC w c.ob
  have H:∀{w'},On (Bl.or Bk (Bl.one w.heap.size)) (w.alloc c.ob) w'->Lw n (B+1) w' q (Bl.or Bk (Bl.one w.heap.size)) M.p9->On Ar w w'/\LSt n (B+1) w' q Ar:=λt s=>by
   have⟨a,b⟩:=LSt.of y J A z t (.inl ⟨s,a4⟩)
   exact⟨E.t a,b⟩
  have a2:∀{G:Nat}{L:Array Value},(cL G L (w.alloc c.ob) λe w'=>e=.r (.bool true)/\On (Bl.or Bk (Bl.one w.heap.size)) (w.alloc c.ob) w'/\Lw n (B+1) w' q (Bl.or Bk (Bl.one w.heap.size)) M.p9)->cL G L (w.alloc c.ob) (Tru λw'=>On Ar w w'/\LSt n (B+1) w' q Ar):=λh=>h.m (λe w' h=>⟨h.1,H h.2.1 h.2.2⟩)
  have a6:∀{X ag},aY X ag q M->On (Bl.or Bk (Bl.one w.heap.size)) (w.alloc c.ob) X->OpC X q D.d w.heap.size c:=λR t=>by
   have⟨_,W,Y,Z,_,a0,_⟩:=dY (t.heap ad (.inr rfl))
   exact⟨(dE R.box).2.1.t (by rw[k.x]),W,Y,Z,a0⟩
  have a1:∀{G g:Nat}{L ae:Array Value}{X:World}{P:Value},Below (w.alloc c.ob).heap.size (w.alloc c.ob) X->(cL G L X λe u=>e=.r P/\aY u K q M/\On (Bl.or Bk (Bl.one w.heap.size)) X u/\X.heap.size<=u.heap.size/\∀x,bW u x->cL g ae x λe w'=>e=.r P/\On (Bl.or Bk (Bl.one w.heap.size)) X w'/\Lw n (B+1) w' q (Bl.or Bk (Bl.one w.heap.size)) M.p9)->cL G L X λe u=>e=.r P/\Hid (∀x,bW u x->OpC x q D.d w.heap.size c/\cL g ae x λe w'=>e=.r P/\Hid (OpD w' w.heap.size c/\On Ar w w'/\LSt n (B+1) w' q Ar)):=λl h=>by
   have O:=vV l (λj i=>(f.book j i).1)
   apply h.m
   rintro e u ⟨rfl,R,aa,_,ai⟩
   refine⟨rfl,λx U=>⟨a6 (R.below U) ((O.t aa).t (vV U (λj i=>jY (f.book j i).1 (O.t aa).size))),(ai x U).m ?_⟩⟩
   rintro e w' ⟨rfl,ab,s⟩
   have⟨_,W,Y,Z,_,a0,_⟩:=dY ((O.t ab).heap ad (.inr rfl))
   exact⟨rfl,⟨W,Y,Z,a0⟩,H (O.t ab) s⟩
  have S:∀X,Below (w.alloc c.ob).heap.size (w.alloc c.ob) X->OpC X q D.d w.heap.size c:=λX l=>a6 (f.below l).ref (vV l (λj i=>(f.book j i).1))
  have⟨r,N⟩:=Dx M.ts c.tx
  rcases KH c.kind 1 with a8|a8
  .exact Ir c (.inr ⟨a8,F⟩) (H (CN _ _) (Lw.up ⟨K,D,v,o,ao,ap,M,f,rfl⟩ (DO B)))
  .have:c.kind=1\/c.kind=2\/c.kind=3\/c.kind=4\/c.kind=5\/c.kind=6\/c.kind=7\/c.kind=8\/c.kind=9\/c.kind=10\/11<=c.kind:=by omega
   rcases this with e|e|e|e|e|e|e|e|e|e|e
   .exact kG (d:=0) c (.inl ⟨e,ac k.wc rfl⟩)
   .exact yN c S (.inl ⟨_,_,rfl,e,λX l=>a1 l (Xm (f.below l) m' c.wr)⟩)
   .exact kG c (.inr ⟨F,.inl ⟨.inl e,a2 (qIh f m' c e)⟩⟩)
   .refine kG c (.inr ⟨F,.inl ⟨.inr e,(qDg f m' y J A z c (by rw[e];rfl) I.ok).m ?_⟩⟩)
    rintro e w' ⟨rfl,t,af,an,al,ak,am⟩
    exact⟨rfl,E.t t,af,an,al,.inl ⟨ak,a4⟩,am⟩
   .refine kG c (.inr ⟨F,.inr (.inl ⟨e,(qGt f m' c I.ok I.p I.q).m ?_⟩)⟩)
    rintro e w' ⟨rfl,a7⟩
    exact⟨rfl,H (vV a7 (λj i=>(f.book j i).1)) (Lw.up ⟨K,D,v,o,ao,ap,M,f.below a7,rfl⟩ (DO B))⟩
   .exact yN c S (.inr ⟨_,rfl,.inl ⟨e,λX l=>a1 l ((qFc (f.below l) m' c.tx c.p c.q r N).m (λe w' h=>⟨h.1,h.2.1,h.2.2.1,h.2.2.2.1,h.2.2.2.2.2⟩))⟩⟩)
   .exact kG c (.inr ⟨F,.inr (.inr (.inl ⟨e,a2 (Rt f m' c)⟩))⟩)
   .exact yN c S (.inr ⟨_,rfl,.inr ⟨e,λX l=>a1 l (Xo (f.below l) m' c.tx r N)⟩⟩)
   .refine kG c (.inr ⟨F,.inr (.inr (.inr ⟨e,a2 ?_⟩))⟩)
    cases r with
    |none=>exact Wy f c N
    |some p=>exact Se f m' C (by omega) c p.1 p.2 N
   .refine qDy (v:=v) c e F ((sH D _ f.lk.db).m ?_)
    rintro e w' ⟨rfl,aj,a5⟩
    have a3:=f.still aj (a5.m (λj i=>i.elim)) (DO B)
    exact⟨by rw[f.lk.ver],by rw[(dE a3.ref.box).2.2.2.1,k.lk.nv],H (a5.on (λj i=>⟨(f.book j i).1,λh=>h⟩)) ⟨K,D,v,o,ao,ap,M,a3,rfl⟩⟩
   .refine hc k.wc rfl (λ_ g hg X b=>?_) e
    have f2:=((k.box c.ob).box c.ob).below b
    apply(qHc g hg _ _ _ _ _ X f2.lk.db.file f2.lk.well I.ok.n1).m
    intro _ w' ⟨hv,⟨d,d1,d2⟩,d3⟩
    have f3:=f2.refs d1 d2 d3
    exact⟨hv,f3.ref,d3.on (λj a=>⟨(f2.book j a).1,λe=>(f2.apart j (.inr (.inl (.inl e)))).2 a⟩),.inl ⟨Lw.up ⟨K,_,v,o,ao,ap,M,f3.less (λj a=>.inl (.inl a)),rfl⟩ (DO B),a4⟩⟩
 .by_cases e:c.kind=1
  .exact kG (d:=0) c (.inl ⟨e,ac k rfl⟩)
  rcases KH 10 c.kind with a8|a8
  .refine hc k rfl (λ_ g hg X b=>?_) (by omega)
   have f2:=((k.box c.ob).box c.ob).below b
   apply(qHc g hg _ _ _ _ _ X f2.file f2.well I.ok.n1).m
   intro _ w' ⟨hv,⟨d,d1,d2⟩,d3⟩
   have f3:=f2.refs d1 d2 d3
   exact⟨hv,f3.ref,d3.on (λj a=>⟨(f2.book j a).1,λe=>(f2.apart j (.inl e)).2 a⟩),.inr (Lc.up (Lc.less ⟨K,β,sv,lv,_,v,o,M,f3,a9,rfl⟩ (λj a=>.inl (.inl a))) (DO B))⟩
  .have⟨y,A,z,E⟩:=Ha c.ob Q i V (λj i=>(k.book j i).1)
   have f:=k.box c.ob
   apply Ir (d:=0) c (.inl ⟨e,a8,by rw[(dE f.ref.box).2.1,a9]⟩)
   have⟨a,b⟩:=LSt.of y J A z (CN _ _) (.inr (Lc.up ⟨K,β,sv,lv,fs,v,o,M,f,a9,rfl⟩ (DO B)))
   exact⟨E.t a,b⟩
end
def M00:RM:=⟨.bool false,.bool false,.bool false,0,.bool false,0,.bool false,0,[],[],[],[],.bool false,.bool false,.bool false,.bool false,.bool false,.bool false,.bool false,.bool false,.bool false,.bool false⟩
abbrev Gd(D:Db):Prop:=D.fs.well/\D.failed=false
structure LvS (w X:World) (B:Nat) (D:Db) (v:Nat) (o ao:Option (Nat×T)) (ots:List (Option (Nat×T))) (M:RM):Prop where
 lk:Lk 60 B X D v o ao ots M
 below:bW w X
 new:∀k,fpD D k->w.heap.size<=k
section
variable {w X X':World}{B B':Nat}{D D':Db}{v v':Nat}{o ao o' ao':Option (Nat×T)}{ots ots':List (Option (Nat×T))}{M M':RM}
def LvS.go(h:LvS w X B D v o ao ots M)(b:Fr (fpD D) X X')(c:aJ X (fpD D) (fpD D'))(d:Lk 60 B' X' D' v' o' ao' ots' M'):LvS w X' B' D' v' o' ao' ots' M':=by
 have f:=h.below.size;exact⟨d,h.below.t (b.below f h.new),λa e=>(c a e).elim (h.new a) (λg=>by omega)⟩
end
abbrev kB:ByteArray:=⟨#[107]⟩
abbrev vB':ByteArray:=⟨#[118]⟩
def qBy(w):cL 7 #[] w λe w'=>e=.r (.bool true)/\bW w w':=by
 have O:=qJf 60 w (by decide);have J:Hid (∀X β sv lv (fs:Fs) v o ao,fA [] 60 fs v o ao->fs.well->v<=10->(aU o).length<=10->(aU ao).length<=10->aF X β sv lv fs/\bW w X/\(∀b,fpF β sv lv b->w.heap.size<=b)->cL 11 #[.p β 0] X λe w'=>∃(D:Db) (a':Option (Nat×T)),e=.r (.tuple #[.p D.d 0,.i 0])/\D.β=β/\Hid (LvS w w' 10 D v o a' [] {M00 with nv:=v,now:=kvB (aU o),ah:=kvB (aU ao)}/\Gd D)):=λX β sv lv fs v o ao ay a3 C aq ar a=>by
  apply(Yl (B:=10) ay (by decide) a3 β sv lv X a.1 C (by decide) aq (.inl rfl) (by rw[pH];exact ar)).m;rintro e w' ⟨D,a',rfl,s,d,d1,g,k,l⟩;have p:=a.2.1.size;exact⟨D,a',rfl,s,⟨l {M00 with nv:=v,now:=kvB (aU o),ah:=kvB (aU ao)} rfl rfl rfl rfl rfl,a.2.1.t (g.below p a.2.2),λb c=>(k b c).elim (a.2.2 b) (λbj=>by omega)⟩,d1,d⟩
 have I:Hid (∀X B D v o ao M y,B<=100->M.ts=[]->M.last=0->LvS w X B D v o ao [] M/\Gd D->cL 12 #[.p D.d 0,.bool y] X λe w'=>e=.r (.tuple #[.i 1,.i 0])/\∃D',D'.d=D.d/\D'.β=D.β/\Hid (LvS w w' (B+1) D' v o ao [o] {M with last:=1,ov:=.bool false,ts:=[M.begun 1 y (.bool false)]}/\Gd D')):=λX B D v o ao M y bk a2 a0 a=>by
  apply(Hb a.1.lk (by omega) y (by rw[a2];simp)).m;rintro e w' ⟨rfl,D',⟨x,m,z,z1⟩,g,k,l⟩;have q:=l (.bool false) (.bool false);rw[a0,a2]at q;exact⟨by rw[a0];rfl,D',x,m,a.1.go g k q,by rw[z]; exact a.2.1,z1.t a.2.2⟩
 have an:Hid (∀X D ao,LvS w X 11 D 0 none ao [none] {M00 with last:=1,ov:=.bool false,ts:=[M00.begun 1 true (.bool false)]}/\Gd D->cL 13 #[.p D.d 0,.i 1,.t kB,.t vB'] X λe w'=>e=.r (.i 0)/\∃D',D'.d=D.d/\D'.β=D.β/\Hid (LvS w w' 12 D' 0 none ao [none] {M00 with last:=1,ov:=.bool false,ts:=[(M00.begun 1 true (.bool false)).changed ⟨kB,vB',false⟩ (.bool false) (.bool false)]}/\Gd D')):=λX D ao a=>by
  have n:cD [M00.begun 1 true (.bool false)] 1 (some (0,M00.begun 1 true (.bool false))):=⟨rfl,rfl⟩;apply(qFb a.1.lk (by decide) 1 kB vB' _ n).m;rintro e w' ⟨rfl,D',⟨x,m,z,z1⟩,g,k,ax⟩;have p:mG (some (0,M00.begun 1 true (.bool false))) kB vB'=0:=by rfl
  rcases ax with⟨C,_⟩|⟨j,t,s,_,_,_,_,l⟩
  .exact absurd p C
  .simp only[BB,LD]at s
   obtain⟨rfl,rfl⟩:=s;exact⟨by rw[p],D',x,m,a.1.go g k (l (.bool false) (.bool false)),by rw[z]; exact a.2.1,z1.t a.2.2⟩
 have ai:Hid (∀X D ao,LvS w X 12 D 0 none ao [none] {M00 with last:=1,ov:=.bool false,ts:=[(M00.begun 1 true (.bool false)).changed ⟨kB,vB',false⟩ (.bool false) (.bool false)]}/\Gd D->cL 14 #[.p D.d 0,.i 1] X λe w'=>e=.r (.i 0)/\∃D' o',D'.β=D.β/\kvB (aU o')=[(kB,vB')]/\Hid (LvS w w' 13 D' 1 o' none [] {M00 with last:=1,ov:=.bool false,nv:=1,now:=[(kB,vB')]}/\D'.failed=false)):=λX D ao a=>by
  have n:cD [((M00.begun 1 true (.bool false)).changed ⟨kB,vB',false⟩ (.bool false) (.bool false))] 1 (some (0,((M00.begun 1 true (.bool false)).changed ⟨kB,vB',false⟩ (.bool false) (.bool false)))):=⟨rfl,rfl⟩;have Z:0<D.ts.length:=by have:=a.1.lk.len;rw[this];decide
  have T:(((M00.begun 1 true (.bool false)).changed ⟨kB,vB',false⟩ (.bool false) (.bool false))).ch≠[]:=by simp[RT.changed]
  have S:gM (((M00.begun 1 true (.bool false)).changed ⟨kB,vB',false⟩ (.bool false) (.bool false))).ch (((M00.begun 1 true (.bool false)).changed ⟨kB,vB',false⟩ (.bool false) (.bool false))).oth=false:=by rfl
  by_cases hroom:(bM none (D.ts[0]).cs (eP 60 (dD (osL none ao [none] 0)))).2.length<=(eP 60 (dD (osL none ao [none] 0))).length
  .apply(Br a.1.lk (by decide) (by decide) (by decide) 1 0 _ n T S Z (λe=>by have:=e.2;omega)).m
   rintro e w' ⟨zz,D',rfl,⟨x,m⟩,g,k,(⟨_,_,_,(⟨_,c|c⟩|⟨c,_⟩),_⟩|⟨rfl,_,_,z,_,o',l⟩)⟩
   .rw[a.2.1.2]at c;cases c
   .rw[a.2.2]at c;cases c
   .exact absurd a.2.1 c.2
   have q:=l {M00 with last:=1,ov:=.bool false,nv:=1,now:=[(kB,vB')]} ⟨rfl,rfl,rfl,rfl,rfl,λi b4=>absurd b4 (GN _)⟩;exact⟨rfl,D',o',m,q.now,a.1.go g k q,z⟩
  .have⟨bl,_⟩:=Bs a.1.lk (LF a.2.1) (by decide) (by decide) (by decide) 1 0 _ n T S Z (by omega)
   have:iN {M00 with last:=1,ov:=.bool false,ts:=[((M00.begun 1 true (.bool false)).changed ⟨kB,vB',false⟩ (.bool false) (.bool false))]} ((M00.begun 1 true (.bool false)).changed ⟨kB,vB',false⟩ (.bool false) (.bool false))=12:=by rfl
   omega
 have aj:Hid (∀X D o',kvB (aU o')=[(kB,vB')]->LvS w X 13 D 1 o' none [] {M00 with last:=1,ov:=.bool false,nv:=1,now:=[(kB,vB')]}/\D.failed=false->cL 15 #[.p D.β 0] X λe w'=>∃d f h,e=.r (.p d 0)/\Hid (aF w' d f h D.fs/\bW w w'/\(∀b,fpF d f h b->w.heap.size<=b)/\fA [] 60 D.fs 1 o' none)):=λX D o' V a=>by
  apply(Gp D.β D.sv D.lv D.fs X a.1.lk.db.file).m;rintro e w' ⟨d,f,h,rfl,b2,az,b5⟩;have p:=a.1.below.size;exact⟨d,f,h,rfl,b2,a.1.below.t (az.m p),λb c=>by have:=b5 b c;omega,a.1.lk.failed a.2⟩
 have ak:Hid (∀X (fs:Fs) o' d f h,aF X d f h fs/\bW w X/\(∀b,fpF d f h b->w.heap.size<=b)/\fA [] 60 fs 1 o' none->cL 16 #[.p d 0,.n] X λe w'=>∃u,e=.r u/\Hid (aF w' d f .n fs.calm/\bW w w'/\(∀b,fpF d f .n b->w.heap.size<=b))):=λX fs o' d f h a=>by
  apply(Gn d f h fs none 0 0 X a.1 a.2.2.2.late).m;rintro e w' ⟨⟨u,rfl⟩,W,g⟩;refine⟨u,rfl,W,a.2.1.t (g.below a.2.1.size (λb c=>a.2.2.1 b (.inl c))),λb c=>?_⟩;rcases c with c|c|c
  .exact a.2.2.1 b (.inl c)
  .exact a.2.2.1 b (.inr (.inl c))
  .simp[Value.ownBlock]at c
 have al:Hid (∀X D o' ao,kvB (aU o')=[(kB,vB')]->LvS w X 11 D 1 o' ao [o'] {M00 with nv:=1,now:=kvB (aU o'),ah:=kvB (aU none),last:=1,ov:=.bool false,ts:=[({M00 with nv:=1,now:=kvB (aU o'),ah:=kvB (aU none)}:RM).begun 1 false (.bool false)]}/\Gd D->cL 17 #[.p D.d 0,.i 1,.t kB] X λe w'=>e=.r (.tuple #[.t vB',.i 0])/\Hid (bW w w'/\aO w' 0 D/\D.ver=1)):=λX D o' ao V a=>by
  have n:cD [({M00 with nv:=1,now:=kvB (aU o'),ah:=kvB (aU none)}:RM).begun 1 false (.bool false)] 1 (some (0,({M00 with nv:=1,now:=kvB (aU o'),ah:=kvB (aU none)}:RM).begun 1 false (.bool false))):=⟨rfl,rfl⟩;have⟨A,hA,hG⟩:=Vz a.1.lk (by decide) 1 kB _ n;obtain rfl:=hA.resolve_right (λe=>by rw[a.2.1.2]at e;cases e.2.1);apply hG.m;rintro e w' ⟨rfl,av,g⟩;have b3:eO (some (0,({M00 with nv:=1,now:=kvB (aU o'),ah:=kvB (aU none)}:RM).begun 1 false (.bool false))) kB=(vB',0):=by
   simp only[eO,RM.begun];have b6:rF [(kB,vB')] kB=some vB':=(sQ (by simp[qU])).2 (by simp);rw[V,AU (by decide),b6]
  exact⟨by rw[b3],a.1.below.t (g.below a.1.below.size (λb c=>by simp only[Bl.one]at c;exact a.1.new b (.inl c))),av,a.1.lk.ver⟩
 have ap:Hid (∀X (D:Db),bW w X/\aO X 0 D/\D.ver=1->cL 18 #[.p D.d 0] X λe w'=>e=.r (.i 1)/\Hid (bW w w')):=λX D a=>by
  apply(sH D X a.2.1).m;rintro e w' ⟨rfl,_,g⟩;exact⟨by rw[a.2.2],a.1.t (g.below a.1.size (λb c=>c.elim))⟩
 have am:Hid (∀X,cL 11 #[.pointer none] X λe w'=>e=.r (.tuple #[.pointer none,.i 1])/\w'=X):=λX=>qFr X;rw[show((60:Nat):Int)=60 from rfl]at O;go_enter Tryz.func7,Tryz.ntmps7;go_wp2_with (first
  |(go_at_call 8;(with_reducible apply Calls.m O);rintro e a4 ⟨β,sv,lv,rfl,Y,R,a1⟩;have aw:=am a4;have F:=J a4 β sv lv (Fs.new 60) 0 none none (Iq [] 60 (by decide)) ⟨rfl,rfl⟩ (by decide) (by decide) (by decide) ⟨Y,R,a1⟩;clear Y R a1)
  |(go_at_call 11;(with_reducible apply Calls.m aw);rintro e w' ⟨rfl,a3⟩;subst w')
  |(go_at_call 11;apply Calls.m F;rintro e bb ⟨D,a',rfl,m,aa⟩;subst m;have E:=I bb 10 D 0 none a' _ true (by decide) rfl rfl aa)
  |(go_at_call 12;apply Calls.m E;rintro e bc ⟨rfl,a5,b0,b7,ab⟩;have P:=an bc a5 a' ab;rw[b0]at P)
  |(go_at_call 13;apply Calls.m P;rintro e bd ⟨rfl,a6,b1,b8,ac⟩;have K:=ai bd a6 a' ac;rw[b1]at K)
  |(go_at_call 14;apply Calls.m K;rintro e be ⟨rfl,z,r,b9,G,ad⟩;have L:=aj be z r G ad;rw[b9,b8,b7]at L)
  |(go_at_call 15;apply Calls.m L;rintro e bf ⟨d,f,h,rfl,A⟩;have au:=ak bf z.fs r d f h A)
  |(go_at_call 16;apply Calls.m au;rintro e bg ⟨u,rfl,ae⟩;have F:=J bg d f _ z.fs.calm 1 r none (fA.eq (fs:=z.fs) rfl rfl A.2.2.2) ⟨rfl,rfl⟩ (by decide) (by rw[<-pH,G];decide) (by decide) ae)
  |(go_at_call 11;apply Calls.m F;rintro e bh ⟨a7,a'',rfl,bm,af⟩;have E:=I bh 10 a7 1 r a'' _ false (by decide) rfl rfl af)
  |(go_at_call 12;apply Calls.m E;rintro e bi ⟨rfl,H,U,bn,ag⟩;have N:=al bi H r a'' G ag;rw[U]at N)
  |(go_at_call 17;apply Calls.m N;rintro e ba ⟨rfl,a8⟩;have Q:=ap ba H a8;rw[U]at Q)
  |(go_at_call 18;apply Calls.m Q;rintro e bo ⟨rfl,a9⟩))
 go_ret;exact⟨rfl,a9⟩
abbrev OpV.cl(o:OpV):List Value:=[.i o.kind,.i o.tx,.string o.p,.string o.q,.i o.n,.bool o.wr,.slice o.ka o.kn o.kc]
def Cu{b β:Type}(f:b->List β)(k)(a:∀x,(f x).length=k):∀(l:List b) (i j:Nat) (hi:i<l.length),j<k->(l.flatMap f)[i * k+j]?=(f l[i])[j]?
 |x :: l,0,j,_,hj=>by rw[AK,EB,DS,BO (by rw[a];exact hj)];rfl
 |x :: l,i+1,j,hi,hj=>by
  have c:(i+1) * k+j-(f x).length=i * k+j:=by rw[a,JG];omega
  have d:(f x).length<=(i+1) * k+j:=by rw[a,JG];omega
  rw[AK,BC d,c];exact Cu f k a l i j (by simpa using hi) hj
section
variable {n B:Nat}{w w':World}{q:Nat}{Ar:Bl}
def LSt.below(h:LSt n B w q Ar)(b:bW w w'):LSt n B w' q Ar:=by
 have⟨E,C,G,i,e,k,c,j⟩:=h;refine⟨E,C,G,?_,e.on (vV b e.lies),k,c,j⟩;rcases i with⟨⟨K,D,v,o,A,t,M,a,d⟩,g⟩|⟨K,H,F,y,u,v,o,M,a,d⟩
 .exact .inl ⟨⟨K,D,v,o,A,t,M,a.below b,d⟩,g⟩
 .exact .inr ⟨K,H,F,y,u,v,o,M,a.below b,d⟩
def LSt.up(h:LSt n B w q Ar){B'}(a:B<=B'):LSt n B' w q Ar:=by
 have⟨g,u,t,c,b,f,e,d⟩:=h;exact⟨g,u,t,c.imp (λh=>⟨h.1.up a,h.2⟩) (λh=>h.up a),b,by omega,e,d⟩
def LSt.looks(h:LSt n B w q Ar)(k:B<=1000000):cL 10 #[.p q 14] w λe w'=>e=.r (.bool true)/\bW w w':=by
 have⟨E,t,G,g,f,p,m,l⟩:=h;have d:∀{K:Bl}{M:RM},aY w K q M->(M.p5=.bool false/\M.p6=.n/\M.p7=.n/\M.p8=.n)->M.p9=t->cL 10 #[.p q 14] w λe w'=>e=.r (.bool true)/\bW w w':=λ{K M} i c e=>by
  have b:=i.box;exact qJl f (by omega) (gL b) (by simp[World.cell?,b,c.2.1]) (by simp[World.cell?,b,c.2.2.1]) (by simp[World.cell?,b,c.2.2.2]) (by simp[World.cell?,b,e])
 rcases g with⟨⟨K,D,v,o,C,u,M,a,e⟩,j⟩|⟨K,H,F,A,y,v,o,M,a,_,e⟩
 .exact d a.ref a.meta' e
 .exact d a.ref a.meta' e
end
abbrev M0w(β:Nat):RM:=⟨.p β 0,.pointer none,.slice none 0 0,0,.slice none 0 0,0,.slice none 0 0,0,[],[],[],[],.slice none 0 0,.i 0,.bool false,.bool false,.bool false,.bool false,.slice none 0 0,.slice none 0 0,.slice none 0 0,.slice none 0 0⟩
def LSt.start{n β sv lv w X}(s:n<=4096)(j:bW w X)(c:aF X β sv lv (Fs.new n))(m:∀k,fpF β sv lv k->w.heap.size<=k):LSt n 0 (X.alloc (M0w β).obj) X.heap.size (λk=>k<w.heap.size):=by
 have t:=j.size;have l:bW X (X.alloc (M0w β).obj):=bA _ _;have h:∀(e:World),fM e Bl.none .n []:=λe=>(JT (AL _ _ _ _)).m (λk a=>by simp[Value.ownBlock]at a);have i:aY (X.alloc (M0w β).obj) Bl.none X.heap.size (M0w β):=⟨aC X _,AL _ _ _ _,h _,⟨h _,h _⟩,λp d=>(by cases d),EC,λk a=>a.elim⟩;have g:∀k,Bl.or Bl.none (fpR X.heap.size (M0w β)) k->k=X.heap.size:=by
  rintro k (a|rfl|a|⟨p,d,_⟩)
  .exact a.elim
  .rfl
  .simp[Value.ownBlock]at a
  .cases d
 refine⟨λk=>k<w.heap.size,.n,[],.inr ⟨Bl.none,β,sv,lv,Fs.new n,0,none,M0w β,⟨i,rfl,c.on (vV l c.lies),Fs.well_dy ⟨rfl,rfl⟩,by simp[Fs.new],⟨λs a=>by rw[List.eq_of_mem_replicate a];exact pA 256,nofun,nofun⟩,λr=>?_,rfl,jU _,rfl,⟨jU _,jU _⟩,⟨_,rfl⟩,⟨KX _,KX _,jU _,nofun⟩,rfl,⟨rfl,rfl,rfl,rfl⟩,λk a=>⟨λb=>by have f:=g k b;have q:=c.lies k a;omega,λb=>by have f:=m k a;omega⟩,λk a=>⟨by simp;omega,λb=>by have f:=g k b;omega⟩⟩,rfl,rfl⟩,kS.none _,AG _,λk a=>?_,λk a=>a⟩
 .have⟨v1,e,a⟩:=(Iq [] n (by omega)).hold
  exact⟨_,a,⟨0,rfl,nofun⟩,λv' t b=>⟨λ_=>by omega,λ_=>.inr b.2⟩⟩
 .rcases a with a|⟨u,o,_⟩
  .simp[Value.ownBlock]at a
  .cases o
def qAw(z sa sc)(cs:List OpV)(w)(hR:fB w w.heap.size sa (cs.flatMap OpV.cl))(hf:∀c∈cs,Nb c/\c.p.size<=2000000/\c.q.size<=2000000/\Xr w (λk=>k<w.heap.size) c)(hl:cs.length<=390000):
  cL 6 #[.i z,.s sa cs.length sc,.i 13] w λe w'=>e=.r (.bool true)/\bW w w':=by
 have⟨n,hn,HN⟩:∃n:Nat,n<=4096/\Hid (∀X,cL 8 #[.i z] X λe w'=>∃β sv lv,e=.r (.p β 0)/\aF w' β sv lv (Fs.new n)/\bW X w'/\∀k,fpF β sv lv k->X.heap.size<=k):=by
  rcases KH z 0 with h0|h0
  .exact⟨0,by decide,λX=>qJe z X h0⟩
  .rcases KH 4096 z with h1|h1
   .exact⟨4096,by decide,λX=>qFx z 4096 X (.inr ⟨h1,rfl⟩)⟩
   .exact⟨z.toNat,by omega,λX=>qFx z z.toNat X (.inl ⟨by omega,by omega⟩)⟩
 have HW:Hid (∀X β sv lv,bW w X->aF X β sv lv (Fs.new n)->(∀k,fpF β sv lv k->w.heap.size<=k)->∃W q,X.alloc (M0w β).obj=W/\X.heap.size=q/\LSt n 0 W q (λk=>k<w.heap.size)/\On (λk=>k<w.heap.size) w W):=λX β sv lv hb hf' hn'=>⟨_,_,rfl,rfl,LSt.start hn hb hf' hn',vV (hb.alloc hb.size _) (λk hk=>hk)⟩;have HC:Hid (∀X i (hi:i<cs.length),On (λk=>k<w.heap.size) w X->∃b off,sa=some (aD b off)/\X.cell? (aD b (off+i * 7))=some (.i cs[i].kind)/\X.cell? (aD b (off+i * 7+1))=some (.i cs[i].tx)/\X.cell? (aD b (off+i * 7+2))=some (.t cs[i].p)/\X.cell? (aD b (off+i * 7+3))=some (.t cs[i].q)/\X.cell? (aD b (off+i * 7+4))=some (.i cs[i].n)/\X.cell? (aD b (off+i * 7+5))=some (.bool cs[i].wr)/\X.cell? (aD b (off+i * 7+6))=some (.slice cs[i].ka cs[i].kn cs[i].kc)):=λX i hi hO=>by
  rcases hR with hR|⟨b,off,ha,hb,hc⟩
  .have:=Cu OpV.cl 7 (λ_=>rfl) cs i 0 hi (by decide)
   rw[hR]at this;simp at this
  .have cell:∀j u,j<7->(cs[i].cl)[j]?=some u->X.cell? (aD b (off+i * 7+j))=some u:=λj u hj hu=>by
    have h1:=hc (i * 7+j) u (by rw[Cu OpV.cl 7 (λ_=>rfl) cs i j hi hj];exact hu);rw[<-FN]at h1;have⟨ob,hob⟩:∃ob,w.heap[b]?=some ob:=⟨_,EY hb⟩;rw[CK (w:=w) (a:=(aD b (off+i * 7+j))) ((hO.heap hob hb).t hob.symm)];exact h1
   exact⟨b,off,ha,cell 0 _ (by decide) rfl,cell 1 _ (by decide) rfl,cell 2 _ (by decide) rfl,cell 3 _ (by decide) rfl,cell 4 _ (by decide) rfl,cell 5 _ (by decide) rfl,cell 6 _ (by decide) rfl⟩
 have HF:Hid (∀c∈cs,Nb c/\c.p.size<=2000000/\c.q.size<=2000000/\Xr w (λk=>k<w.heap.size) c):=hf;go_enter Tryz.func6,Tryz.ntmps6;go_wp2_with (first
  |(go_at_call 7;apply Calls.m (qBy w);rintro e w1 ⟨rfl,hb1⟩;have hNw:=HN.o w1)
  |(go_at_call 8;apply Calls.m hNw;clear hNw;rintro e w2 ⟨β,sv,lv,rfl,hf2,hb2,hn2⟩;have⟨W3,q,hW3,hq,hS3,hO3⟩:=HW.o w2 β sv lv (hb1.t (hb2.m hb1.size)) hf2 (λk hk=>vJ hb1.size (hn2 k hk));have H3:Hid (LSt n 0 W3 q (λk=>k<w.heap.size)/\On (λk=>k<w.heap.size) w W3):=⟨hS3,hO3⟩;clear hS3 hO3 hf2 hb2 hn2 hb1))
 go_loopw [9,10,11] (λi _ _ wr=>∃j:Nat,i=.i j/\j<=cs.length/\Hid (LSt n j wr q (λk=>k<w.heap.size)/\On (λk=>k<w.heap.size) w wr)) (λi _ _ _=>cs.length-(intOf i).toNat)
 case atStart=>exact⟨0,rfl,AG _,H3.o⟩
 case round =>
  clear H3;obtain⟨j,rfl,hj,HH⟩:=hrel;rcases BR j cs.length with hlt|hge
  .have hji:(j:Int)<(cs.length:Int):=by omega
   obtain⟨b,off,rfl,c0,c1,c2,c3,c4,c5,c6⟩:=HC.o wr j hlt HH.o.2;have⟨hok,hp,hq',hkp⟩:=HF.o _ (AA hlt);have⟨c,hc⟩:=nM (cs[j]);rw[hc]at c0 c1 c2 c3 c4 c5 c6 hok hp hq' hkp;have⟨kind,tx,P,Q,N,wb,ka,kn,kc⟩:=c;dsimp only at c0 c1 c2 c3 c4 c5 c6;rcases KH 13 kind with hk|hk
   .have HN':Hid (LSt n (j+1) wr q (λk=>k<w.heap.size)/\On (λk=>k<w.heap.size) w wr):=⟨HH.o.1.up (DO j),HH.o.2⟩
    go_wp2;exact⟨⟨j+1,by simp,by omega,HN'.o⟩,by simp[intOf];omega⟩
   .have hk':¬(13:Int)<kind:=by omega
    have HSt:Hid (cL 9 #[.p q 0,.agg #[.i kind,.i tx,.t P,.t Q,.i N,.bool wb,.s ka kn kc]] wr λe w'=>e=.r (.bool true)/\Hid (LSt n (j+1) w' q (λk=>k<w.heap.size)/\On (λk=>k<w.heap.size) w w')):=by
     apply(qEa HH.o.1 (by omega) hn ⟨kind,tx,P,Q,N,wb,ka,kn,kc⟩ ⟨hok,hp,hq',hk⟩ ⟨_,hkp.choose_spec.1,hkp.choose_spec.2.1.on HH.o.2,hkp.choose_spec.2.2⟩).m;rintro e w' ⟨rfl,hO,hL⟩;exact⟨rfl,hL,HH.o.2.t hO⟩
    go_wp2_with (first
     |(go_at_call 9;apply Calls.m HSt.o;rintro e w5 ⟨rfl,H5⟩;have hLk:=H5.o.1.looks (by omega))
     |(go_at_call 10;apply Calls.m hLk;rintro e w6 ⟨rfl,hb6⟩;have H6:Hid (LSt n (j+1) w6 q (λk=>k<w.heap.size)/\On (λk=>k<w.heap.size) w w6):=⟨H5.o.1.below hb6,H5.o.2.t (vV hb6 (λk hk=>jY hk H5.o.2.size))⟩))
    exact⟨⟨j+1,by simp,by omega,H6.o⟩,by simp[intOf];omega⟩
  .obtain rfl:j=cs.length:=by omega
   go_wp2;go_ret;have ho:=HH.o.2;exact⟨rfl,⟨ho.os,ho.tape,ho.output,ho.size,λk hk=>ho.block k hk⟩⟩
def qHg(z a b)(cs:List OpV)(w)(f:fB w w.heap.size a (cs.flatMap OpV.cl))(h:∀c∈cs,Nb c/\c.p.size<=2000000/\c.q.size<=2000000/\Xr w (λk=>k<w.heap.size) c)(i:cs.length<=390000):
  cL 4 #[.i z,.s a cs.length b] w λe w'=>e=.r (.bool true)/\bW w w':=by
 go_enter Tryz.func4,Tryz.ntmps4;go_wp2_with (go_at_call 6;apply Calls.m (qAw z a b cs w f h i);rintro e d ⟨rfl,g⟩);go_ret;exact⟨rfl,g⟩
