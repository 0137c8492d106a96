import Derived.Test.YtdhgdcjmhofhaaaGreatD31
set_option linter.all false
set_option maxRecDepth 100000
set_option maxHeartbeats 8000000
namespace Go.Proofs.YtdhgdcjmhofhaaaGreat.Tree
open Go.RowKit Pages Tryz
variable {C:Nat->Option (Nat×T)->Prop} {b i k n v:Nat} {c d e f g j l m v3 x:Value} {fs:Fs} {o:Option (Nat×T)} {w:World}
theorem Se {K o ao}(S:dN K n fs v o ao)(i:1<fs.safe.length)(β:Nat)(sv lv:Value)(k:(fs.life==0)=false)(w:World)(j:aA w β sv lv fs):
  cL 83 #[.p β 0] w λe w'=>∃m a:MV,e=.r (.tuple #[.agg m.cells,.agg a.cells])/\bW w w'/\m.ver=v/\m.root=rootOf o/\a.root=rootOf ao:=by
 have d:=S.meta0;have⟨l,f,b⟩:=S.meta1;rcases EG v with h|h
 .rw[h]at d
  have g:(v+1) % 2=1:=ω
  rw[g]at f;apply(iJ β sv lv fs k v (rootOf o) l (rootOf ao) w j i d f).m;rintro e w' ⟨m,a,rfl,c,h|h⟩
  .omega
  .exact⟨m,a,rfl,c,h.2.2.1,h.2.2.2.1,h.2.2.2.2.2.2⟩
 .rw[h]at d
  have g:(v+1) % 2=0:=ω
  rw[g]at f;apply(iJ β sv lv fs k l (rootOf ao) v (rootOf o) w j i f d).m;rintro e w' ⟨m,a,rfl,c,h|h⟩
  .exact⟨m,a,rfl,c,h.2.2.1,h.2.2.2.1,h.2.2.2.2.2.2⟩
  .rcases b with b|⟨rfl,b⟩
   .omega
   .exact⟨m,a,rfl,c,h.2.2.1,h.2.2.2.1.t b,h.2.2.2.2.2.2.t b.symm⟩
abbrev db0(st:Int)(β:Nat):Array Value:=#[.int .i32 st,.int .u32 0,.p β 0,.i 0,.i 0,.i 0,.i 0,.slice none 0 0,.slice none 0 0,.slice none 0 0,.string ⟨#[]⟩,.i 0,.bool false,.i 0,.slice none 0 0]
abbrev qIm(w:World)(b:Nat)(v3 v4 v5 v6 v7 v8 v9 v10 v11:Value):World:=((((((((w.setCell (aD b 3) v3).setCell (aD b 4) v4).setCell (aD b 5) v5).setCell (aD b 6) v6).setCell (aD b 7) v7).setCell (aD b 8) v8).setCell (aD b 9) v9).setCell (aD b 10) v10).setCell (aD b 11) v11
theorem qNo(w:World)(b:Nat)(v3 d e f g h i a c:Value):Fr (Bl.one b) w (qIm w b v3 d e f g h i a c):=
 (((((((((AE (Bl.one b) w).setCell (p:=(aD b 3)) (.inl rfl) _).setCell (p:=(aD b 4)) (.inl rfl) _).setCell (p:=(aD b 5)) (.inl rfl) _).setCell (p:=(aD b 6)) (.inl rfl) _).setCell (p:=(aD b 7)) (.inl rfl) _).setCell (p:=(aD b 8)) (.inl rfl) _).setCell (p:=(aD b 9)) (.inl rfl) _).setCell (p:=(aD b 10)) (.inl rfl) _).setCell (p:=(aD b 11)) (.inl rfl) _
theorem qIl {k l p s u v x y z r q A m n o:Value}{t}(h:cW w b #[k,l,p,s,u,v,x,y,z,r,q,A,m,n,o] t)(v3 d e f g i j a c:Value):(qIm w b v3 d e f g i j a c).1[b]?=some (.cells #[k,l,p,v3,d,e,f,g,i,j,a,c,m,n,o] t):=by
 have:=aC (aC (aC (aC (aC (aC (aC (aC (aC h 3 v3) 4 d) 5 e) 6 f) 7 g) 8 i) 9 j) 10 a) 11 c;simpa using this
abbrev qNp(w:World)(b:Nat)(v3 v4 v5 v6 v7 v8 v9 v10:Value):World:=(((((((w.setCell (aD b 3) v3).setCell (aD b 4) v4).setCell (aD b 5) v5).setCell (aD b 6) v6).setCell (aD b 7) v7).setCell (aD b 8) v8).setCell (aD b 9) v9).setCell (aD b 10) v10
theorem c8 (a:b≠k)(h:w.c k i=some x):(qNp w b v3 d e f g j l c).c k i=some x :=
 cO a (cO a (cO a (cO a (cO a (cO a (cO a (cO a h)))))))
theorem c8d (a:b≠k)(h:w.cell? (aD k i)=some x):(qNp w b v3 d e f g j l c).drew.cell? (aD k i)=some x:=by
 rw[Cb];exact c8 a h
theorem c9 (a:b≠k)(h:w.c k i=some x):(qIm w b v3 e f g j l m c d).c k i=some x:=cO a (c8 a h)
theorem c9d (a:b≠k)(h:w.cell? (aD k i)=some x):(qIm w b v3 e f g j l m c d).drew.cell? (aD k i)=some x:=by
 rw[Cb];exact c9 a h
theorem Ou (c:Tr [] fs o)(b:(fs.life==0)=false){β:Nat}{sv:Value}(g:Value)(X:World)(a:Nat)(n:aA X β sv g fs)(p:aY X a (List.replicate 4096 false)):cL 84 #[.agg #[.p β 0,.i (rootOf o:Nat),.n],.q a 4096 4096] X λe w'=>(true=true/\(∃v,e=.r v)/\aY w' a (marks (List.replicate 4096 false) (bI o))/\Fr (Bl.one a) X w')\/(true=false/\e=.panicked (eS 10)/\Fr (Bl.one a) X w'):=
 (Jn β sv g fs b (rootOf o) none 0 0 a o _ X c.rooted (pA _ _) CT n p).m λe w' h=>.inl ⟨rfl,h⟩
theorem qFs (d:qE fs.safe o)(j:fs.late=[])(b:(fs.life==0)=false){β:Nat}{sv:Value}(g:Value)(X:World)(a:Nat)(n:aA X β sv g fs)(p:aY X a (List.replicate 4096 false)):cL 84 #[.agg #[.p β 0,.i (rootOf o:Nat),.n],.q a 4096 4096] X λe w'=>(false=true/\(∃v,e=.r v)/\aY w' a (marks (List.replicate 4096 false) (bI o))/\Fr (Bl.one a) X w')\/(false=false/\e=.panicked (eS 10)/\Fr (Bl.one a) X w'):=by
 obtain⟨l,c,k,f,i,m,h⟩:=Pf d j b
 exact(Ww β sv g c fs l f (rootOf o) none 0 0 a o _ X i.rooted (pA _ _) CT n p k qBz).m λe w' h=>.inr ⟨rfl,h⟩
theorem Fa{s:ByteArray}{v a:Nat}(h:jS s v a)(b:qI s):False:=h.elim (λh=>b.1 h.1) (λh=>b.2 ⟨h.1,h.2.1,h.2.2.1⟩)
theorem rG{s:ByteArray}{v f v' i:Nat}(h:jS s v f)(g:jS s v' i):v=v'/\f=i:=by
 rcases h with⟨h,a,b⟩|h<;>rcases g with⟨g,c,d⟩|g
 .omega
 .have:=BR Pg.kind g.2.2.2;rw[h,rW]at this;simp[bL]at this
 .have:=BR Pg.kind h.2.2.2;rw[g,rW]at this;simp[bL]at this
 .have e:=h.2.2.2.trans g.2.2.2.symm
  have j:=BR Pg.ver e;have k:=BR Pg.root e;simp only[bL]at j k;omega
def Ak(d β:Nat)(sv lv:Value)(fs:Fs)(v:Nat)(o:Option (Nat×T))(ar:Nat)(w w':World):Prop:=∃D:Db,aO w' 1 D/\D.fs=fs/\D.aroot=ar/\D.d=d/\D.β=β/\D.sv=sv/\D.ver=v/\D.root=rootOf o/\D.failed=false/\D.last=0/\D.ov=.slice none 0 0/\D.ts=[]/\Fr (Bl.or (Bl.one d) (fpF β sv lv)) w w'/\aI w (fpF β sv lv) (fpF β sv D.lv)
theorem tC {cp fs:Fs}{o ao:Option (Nat×T)}(j:Nat)(df:j<2)(mks right std:Bool)(bk:fs.late=[])(av:rootOf o=0\/bF (rootOf o:Nat)=true)(p:2<=fs.safe.length)(br:fs.dy)(hal:(fs.life==0)=false)(d β:Nat)(sv lv:Value)(hmk:∀g X ub,aA X β sv g fs->aY X ub (List.replicate 4096 false)->cL 84 #[.agg #[.p β 0,.i (rootOf o:Nat),.n],.q ub 4096 4096] X λe w'=>(mks=true/\(∃v,e=.r v)/\aY w' ub (marks (List.replicate 4096 false) (bI o))/\Fr (Bl.one ub) X w')\/(mks=false/\e=.panicked (eS 10)/\Fr (Bl.one ub) X w'))(bq:mks=true->right=true->∀g X ub,aA X β sv g fs->aY X ub (marks (List.replicate 4096 false) (bI o))->cL 85 #[.agg #[.p β 0,.i (rootOf ao:Nat),.n],.q ub 4096 4096] X λe w'=>e=.r (.bool std)/\Fr (Bl.one ub) X w')(w:World)(a9:cW w d (db0 1 β) 83)(bj:aA w β sv lv cp)(bg:cL 82 #[.p β 0] w λe w'=>e=.r (.bool true)/\∃bs,aA w' β sv bs fs/\Fr (fpF β sv lv) w w'/\aI w (fpF β sv lv) (fpF β sv bs))(bf:∀g X,aA X β sv g fs->cL 83 #[.p β 0] X λe w'=>∃(m:MV) (b:MG),e=.r (.tuple #[.agg m.cells,.agg b.cells])/\bW X w'/\m.ver=v/\m.root=rootOf o/\b.ok=right/\(right=true->b.root=rootOf ao)/\((right&&std)=false->b.p=j)):
  cL 33 #[.p d 0] w λe w'=>(mks=false/\e=.panicked (eS 10)/\∃t,Ak d β sv lv fs v o t w w')\/(mks=true/\(((right&&std)=true/\e=.r (.i 0)/\Ak d β sv lv fs v o (rootOf ao) w w')\/((right&&std)=false/\e=.r (.i (fs.fgZ j (bL (v:Nat) (rootOf o:Nat)).encS))/\∃t,(fs.fgZ j (bL (v:Nat) (rootOf o:Nat)).encS=0->t=rootOf o)/\Ak d β sv lv (fs.fg j (bL (v:Nat) (rootOf o:Nat)).encS) v o t w w'))):=by
 have bd:=uY (v:Nat) _ ω (av.imp (λh=>by rw[h];rfl) id);have bz:Hid (∀g X,aA X β sv g fs->cL 83 #[.p β 0] X λe w'=>∃(m:MV) (b:MG),e=.r (.tuple #[.agg m.cells,.agg b.cells])/\bW X w'/\m.ver=v/\m.root=rootOf o/\b.ok=right/\(right=true->b.root=rootOf ao)/\((right&&std)=false->b.p=j)):=bf;have cx:=fS bj a9 δ δ δ;obtain⟨S,U,a0,a1,a2,J,a3,a4,c8,c9,c10,I,V,W,Z⟩:=eJ a9;have bb:Hid (∀g X ub,aA X β sv g fs->aY X ub (List.replicate 4096 false)->cL 84 #[.agg #[.p β 0,.i (rootOf o:Nat),.n],.q ub 4096 4096] X λe w'=>(mks=true/\(∃v,e=.r v)/\aY w' ub (marks (List.replicate 4096 false) (bI o))/\Fr (Bl.one ub) X w')\/(mks=false/\e=.panicked (eS 10)/\Fr (Bl.one ub) X w')):=hmk;have ba:Hid (mks=true->right=true->∀g X ub,aA X β sv g fs->aY X ub (marks (List.replicate 4096 false) (bI o))->cL 85 #[.agg #[.p β 0,.i (rootOf ao:Nat),.n],.q ub 4096 4096] X λe w'=>e=.r (.bool std)/\Fr (Bl.one ub) X w'):=bq;have bx:Hid (fs.late=[]):=bk;have bv:Hid ((bL (v:Nat) (rootOf o:Nat)).encE=0):=bd;have c3:Hid fs.dy:=br;clear S U a1 a2 J a3 a4 c8 c9 c10 I V W Z bf bk bd av bq hmk;go_enter func33,ntmps33;go_wp2_with (first
  |(apply Calls.m bg;rintro e R ⟨rfl,g,r,ae,b6⟩;have K:=ae.heap a9 cx;obtain⟨S,U,a0,a1,a2,J,a3,a4,c8,c9,c10,I,V,W,Z⟩:=eJ K;clear S U a1 a2 J a3 a4 c8 c9 c10 I V W Z;have am:=fH β sv g fs R r;rw[hal]at am;have be:=bz.o g R r)
  |(apply Calls.m am;rintro e c5 ⟨rfl,dd⟩;subst c5)
  |(apply Calls.m be;rintro e f ⟨m,b,rfl,au,bo,bm,bp,bn,bl⟩;have ai:Hid _:=bo;have Q:Hid _:=bm;have c0:Hid _:=bp;have b8:Hid (right=true->b.root=rootOf ao):=bn;have ah:Hid ((right&&std)=false->b.p=j):=bl;clear bo bm bn bp bl))
 obtain⟨X3,L⟩:=nM ((f.alloc m.obj).alloc b.obj);rw[L];have al:=L▸(bA _ _).alloc σ _;have bu:=L▸aP _ (aB f _);have aa:X3.1[f.1.size+1]?=some b.obj:=by rw[<-L];have:=aB (f.alloc m.obj) b.obj;simpa using this
 have dg:=(gL aa);have co:=(gL K);have db:=au.size;have a5:=(al.block d ω).t ((au.block d co).t K);have O:=au.t (al.m db);obtain⟨d0,d1,y,z,A,B,C,D,E,F⟩:=nL bu;obtain⟨d2,d3,d4,d5,G,d6,d7,d8,d9,da⟩:=nL aa;obtain⟨c6,c7,cf,cg,ch,ci,cj,ck,cl,cm,ca,cb,cc,cd,ce⟩:=eJ a5;have cn:=aF a5;clear be am bg L;go_region_held3 (λX=>X.c f 2=some (.i 1)/\X.c f 3=some (.i m.ver)/\X.c f 4=some (.i m.root)/\X.c f 5=some (.i 0)/\X.c f 6=some (.s m.ka 0 m.kc)/\X.c f 7=some (.s m.ia 0 m.ic)/\X.c f 8=some (.s m.ea 0 m.ec)/\X.c f 9=some .e/\X.cell? (aD (f+1) 4)=some (.i b.root))
  ((first|(with_reducible exact⟨y,z,A,B,C,D,E,F,G⟩)|(with_reducible exact⟨c8 ω y,c8 ω z,c8 ω A,c8 ω B,c8 ω C,c8 ω D,c8 ω E,c8 ω F,c8 ω G⟩)|(with_reducible exact⟨c8d ω y,c8d ω z,c8d ω A,c8d ω B,c8d ω C,c8d ω D,c8d ω E,c8d ω F,c8d ω G⟩)|(with_reducible exact⟨c9 ω y,c9 ω z,c9 ω A,c9 ω B,c9 ω C,c9 ω D,c9 ω E,c9 ω F,c9 ω G⟩)|(with_reducible exact⟨c9d ω y,c9d ω z,c9d ω A,c9d ω B,c9d ω C,c9d ω D,c9d ω E,c9d ω F,c9d ω G⟩)|(simp[y,z,A,B,C,D,E,F,G])))
  (fail)
 rename_i hHeld1;clear hHeld1 d0 d1 y z A B C D E F d2 d3 d4 d5 G d6 d7 d8 d9 da c6 c7 cf cg ch ci cj ck cl cm ca cb cc cd ce cn a0;obtain⟨a,a8⟩:=nM ((qIm X3 d (.i 1) (.i m.ver) (.i m.root) (.i 0) (.s m.ka 0 m.kc) (.s m.ia 0 m.ic) (.s m.ea 0 m.ec) .e (.i b.root)).drew);rw[a8];have a6:=a8▸(qNo X3 d _ _ _ _ _ _ _ _ _).drew;have bc:a.1[d]?=some (dbO 1 ⟨d,β,sv,g,fs,m.ver,m.root,b.root,m.ka,m.ia,m.ea,m.kc,m.ic,m.ec,false,0,.n,[]⟩):=by
  rw[<-a8,JH];exact qIl a5 _ _ _ _ _ _ _ _ _
 have b2:=a6.heap aa φ;have bt:=fS r K δ δ δ;have P:aO a 1 ⟨d,β,sv,g,fs,m.ver,m.root,b.root,m.ka,m.ia,m.ea,m.kc,m.ic,m.ec,false,0,.n,[]⟩:=by
  refine⟨bc,?_,AO _ _ _ _,σ,.nil⟩;exact(r.bl O).on (a6.on (λi c=>⟨jY (r.lies i c) O.size,λe=>bt (by exact e▸c)⟩))
 have b5:Fr (Bl.or (Bl.one d) (fpF β sv lv)) w a:=((ae.m (λi c=>.inl (.inr c))).t (AB O)).t (a6.m (λi c=>.inl (.inl c)));obtain⟨b3,de,a7,u⟩:=Mb a;have l:Hid (∀X,bW a X->aO X 1 ⟨d,β,sv,g,fs,m.ver,m.root,b.root,m.ka,m.ia,m.ea,m.kc,m.ic,m.ec,false,0,.n,[]⟩/\X.c d 2=some (.p β 0)/\X.c d 5=some (.i m.root)/\X.c d 11=some (.i b.root)/\X.cell? (aD (f+1) 1)=some (.bool right)/\X.cell? (aD (f+1) 0)=some (.i b.p)):=by
  intro X q;have n:=P.bl q;obtain⟨S,U,a0,a1,a2,J,a3,a4,c8,c9,c10,I,V,W,Z⟩:=eJ n.box;have p:=q.kp b2;exact⟨n,a0,J,I,c0.o▸(nL p).2.1,(nL p).1⟩
 obtain⟨_,N,az,ay,b1,b0⟩:=l.o b3 u;have cy:=r.small;have bh:=oQ d β m.root b3 N;have af:Hid _:=b5;have ag:Hid _:=b6;have b7:Hid _:=P;have dc:Hid (∀X,Fr (Bl.one a) b3 X->bW a X):=λX q=>u.t (q.below u.size (λ_=>φ));clear a8 bj a9 r ae b6 K a5 bc bu aa b2 al O a6 bt P b5 br;have b9:Hid (∀X,aA X β sv g fs->aY X a (List.replicate 4096 false)->cL 84 #[.agg #[.p β 0,.i (m.root:Nat),.n],.q a.1.size 4096 4096] X λe w'=>(mks=true/\(∃v,e=.r v)/\aY w' a (marks (List.replicate 4096 false) (bI o))/\Fr (Bl.one a) X w')\/(mks=false/\e=.panicked (eS 10)/\Fr (Bl.one a) X w')):=by
  intro X n p;rw[Q.o];exact bb.o g X _ n p
 have bw:Hid ((right&&std)=false->∀X,bW a X->cL 86 #[.p d 0,.i (b.p:Nat)] X λe w'=>e=.r (.i (fs.fgZ j (bL (v:Nat) (rootOf o:Nat)).encS))/\∃t,(fs.fgZ j (bL (v:Nat) (rootOf o:Nat)).encS=0->t=rootOf o)/\Ak d β sv lv (fs.fg j (bL (v:Nat) (rootOf o:Nat)).encS) v o t w w'):=by
  intro aw X q;obtain⟨ax,_⟩:=l.o X q;have aq:=Zy _ 1 b.p X ax c3.o bx.o (by rw[ah.o aw];show _<fs.safe.length;omega) (by show(bL (m.ver:Nat) (m.root:Nat)).encE=0;rw[ai.o,Q.o];exact bv.o);dsimp only at aq;rw[ah.o aw,ai.o,Q.o]at aq;rw[ah.o aw];refine aq.m ?_;rintro e ab ⟨rfl,dh,t,cw,cr,ap,ct⟩;refine⟨rfl,t,cw,_,cr,rfl,rfl,rfl,rfl,rfl,rfl,rfl,rfl,rfl,rfl,rfl,(af.o.t (AB q)).grow ap (λi c=>?_),aI.t ag.o (vJ af.o.size q.size) ct⟩;rcases c with c|c
  .exact .inl (.inl c)
  .exact(ag.o i c).imp (λh=>.inr h) id
 go_wp2_with (apply Calls.m bh;rintro e k ⟨rfl,M⟩;have s:=u.tm M;have aj:=a7.on (Y:=Bl.one a) (vV M (λi c=>by simp only[Bl.one]at c;have:=a7.lt;omega)) rfl;have ar:=b9.o k (l.o k s).1.file aj)
 go_at_call 84
 apply Calls.m ar
 rintro e x (⟨rfl,⟨cz,rfl⟩,ak,an⟩|⟨rfl,rfl,an⟩)
 all_goals have H:=s.t (an.below s.size (λ_=>φ))
 case inr=>
  refine⟨rfl,.inl ⟨rfl,rfl,_,_,b7.o.bl H,rfl,rfl,rfl,rfl,rfl,?_,?_,rfl,rfl,rfl,rfl,af.o.t (AB H),ag.o⟩⟩
  .show((m.ver:Nat):Int)=_;rw[ai.o]
  .exact Q.o
 obtain⟨_,N,az,ay,b1,b0⟩:=l.o x H
 cases right
 .have cs:=bw.o σ x H
  go_wp2_with (apply Calls.m cs;rintro e ab ⟨rfl,c1⟩)
  go_ret;first|exact⟨rfl,c1⟩|exact .inr ⟨rfl,rfl,c1⟩|exact .inr ⟨rfl,.inr ⟨rfl,rfl,c1⟩⟩
 have c2:Hid (∀X,aA X β sv g fs->aY X a (marks (List.replicate 4096 false) (bI o))->cL 85 #[.agg #[.p β 0,.i (b.root:Nat),.n],.q a.1.size 4096 4096] X λe w'=>e=.r (.bool std)/\Fr (Bl.one a) X w'):=by
  intro X n p;rw[b8.o rfl];exact ba.o rfl rfl g X _ n p
 have cv:=oQ d β b.root x N
 go_wp2_with (apply Calls.m cv;rintro e b4 ⟨rfl,bi⟩;have ac:=H.tm bi;have c4:=ak.on (Y:=Bl.one a) (vV bi (λi c=>by simp only[Bl.one]at c;have:=ak.lt;omega)) rfl;have cu:=c2.o b4 (l.o b4 ac).1.file c4)
 go_at_call 85
 apply Calls.m cu
 rintro e ab ⟨rfl,ap⟩
 have ad:=ac.t (ap.below ac.size (λ_=>φ));obtain⟨_,N,az,ay,b1,b0⟩:=l.o ab ad
 cases std
 .have cs:=bw.o σ ab ad
  go_wp2_with (apply Calls.m cs;rintro e ah2 ⟨rfl,c1⟩)
  go_ret;first|exact⟨rfl,c1⟩|exact .inr ⟨rfl,rfl,c1⟩|exact .inr ⟨rfl,.inr ⟨rfl,rfl,c1⟩⟩
 .go_wp2
  go_ret;have R:Ak d β sv lv fs v o (rootOf ao) w ab:=⟨_,b7.o.bl ad,rfl,b8.o σ,rfl,rfl,rfl,(by show((m.ver:Nat):Int)=_;rw[ai.o]),Q.o,rfl,rfl,rfl,rfl,af.o.t (AB ad),ag.o⟩
  first|exact⟨rfl,R⟩|exact .inl ⟨rfl,rfl,R⟩|exact .inr ⟨rfl,.inl ⟨rfl,rfl,R⟩⟩
theorem Fs.wrS_well (h:fs.well):fs.wrS.well:=by unfold Fs.wrS;rw[(JO h).1,(JO h).2];exact h
theorem Fs.fgZ_well (h:fs.well)(p:Nat)(d:ByteArray):fs.fgZ p d=0/\(fs.fg p d).well:=by
 have a:(fs.wrP p d).well:=by unfold Fs.wrP;rw[(JO h).1,(JO h).2];exact h
 unfold Fs.fgZ Fs.fg;rw[(JO h).1,(JO a).1,KM (Fs.wrS_well a)];exact⟨rfl,Fs.wrS_well a⟩
theorem qQr {n q v:Nat}(p:fs.late=[])(H:fN n q fs.safe [] v o C)(u:2<=n)(m:v<9223372036854775808)(x:fs.dy):(fs.fg (1-q) (mtB v o)).dy /\
    ((fs.fgZ (1-q) (mtB v o)=0/\(dN [] n (fs.fg (1-q) (mtB v o)) v o o/\bT (fs.fg (1-q) (mtB v o)) ((v+1) % 2) v (rootOf o))/\((fs.fg (1-q) (mtB v o)).life==0)=false/\(fs.fg (1-q) (mtB v o)).failed=fs.failed) \/
     (fs.fgZ (1-q) (mtB v o)=9/\(((fs.fg (1-q) (mtB v o)).life=0/\(fs.fg (1-q) (mtB v o)).failed=fs.failed)\/(fs.fg (1-q) (mtB v o)).failed=wrap64 (fs.failed+1))/\∃f,fN n q (fs.fg (1-q) (mtB v o)).safe (fs.fg (1-q) (mtB v o)).late v o f/\∀v' t,f v' t->C v' t\/(v'=v/\t=o))):=by
  have c:=H.put u m;rw[jE]at c;unfold Fs.fgZ Fs.fg;have g:=Fs.wrP_dy x (1-q) (mtB v o);have b:=Fs.wrP_failed fs (1-q) (mtB v o);cases b1:fs.chOk
  . rw[b1]at b
    refine⟨g,.inr ⟨rfl,.inr b,C,?_,λ_ _ h=>.inl h⟩⟩;show fN n q (fs.wrP _ _).safe (fs.wrP _ _).late _ _ _
    rw[Fs.wrP,b1];show fN n q fs.ch.safe fs.ch.late _ _ _
    rw[DR,DX,p];exact H
  . rw[b1]at b
    have k:fs.wrP (1-q) (mtB v o)=fs.ch.put (1-q) (mtB v o):=by rw[Fs.wrP,b1,AU rfl]
    have r:(fs.wrP (1-q) (mtB v o)).safe=fs.safe:=by rw[k];exact DR fs
    have i:(fs.wrP (1-q) (mtB v o)).late=[(1-q,mtB v o)]:=by rw[k];show fs.ch.late++_=_;rw[DX,p];rfl
    have⟨a,w⟩:=nM (fs.wrP (1-q) (mtB v o));rw[w]at g b r i⊢;rw[<-r,<-i]at c;have e:=Fs.wrS_failed a;refine⟨Fs.wrS_dy g,?_⟩;show((if (true&&a.chOk&&!(a.wrS.life==0))=true then (0:Int) else 9)=0/\(dN [] n a.wrS v o o/\bT a.wrS ((v+1) % 2) v (rootOf o))/\_)\/((if (true&&a.chOk&&!(a.wrS.life==0))=true then (0:Int) else 9)=9/\_/\∃f,fN n q a.wrS.safe a.wrS.late v o f/\_)
    cases b2:a.chOk
    . rw[b2]at e
      refine .inr ⟨rfl,.inr (e.t (by rw[b];rfl)),_,?_,λ_ _ h=>h⟩;rw[Fs.wrS,b2];show fN n q a.ch.safe a.ch.late _ _ _
      rw[DR,DX];exact c
    . rw[b2]at e
      have l:a.wrS=a.ch.synced:=by rw[Fs.wrS,b2,AU rfl]
      have s:a.wrS.safe=laid a.safe a.late:=by rw[l];show laid a.ch.safe a.ch.late=_;rw[DR,DX]
      have j:a.wrS.late=[]:=by rw[l];rfl
      have d:=c.laid u;rw[<-s,<-j]at d;cases b3:a.wrS.life==0
      . have⟨z,qT,_⟩:=d.view
        have y:bT a.wrS (1-q) v (rootOf o):=by
          have:a.wrS.at (1-q)=mtB v o:=by unfold Fs.at;rw[j,s,Pb _ _ _ c.fits,i];simp[rJ]
          unfold bT;rw[this];exact .inr (Ot H.sure m)
        have⟨A,y2⟩:=Nl d.hq z y
        exact .inl ⟨rfl,⟨⟨j,d.len,A,⟨v,y2,.inr ⟨rfl,rfl⟩⟩,qT,qT,d.size⟩,y2⟩,b3,e.t (by rw[b];rfl)⟩
      . exact .inr ⟨rfl,.inl ⟨by simpa using b3,e.t (by rw[b];rfl)⟩,_,d,λ_ _ h=>h⟩
def Jo(n q:Nat)(d β:Nat)(sv lv:Value)(fs:Fs)(v:Nat)(o:Option (Nat×T))(C:Nat->Option (Nat×T)->Prop)(w:World)(z:Int)(w':World):Prop :=
  (∃cs',w'.1[d]?=some (.cells cs' 83)/\cs'[0]?=some (.int .i32 1))/\Fr (Bl.or (Bl.one d) (fpF β sv lv)) w w' /\
  ((z=9/\∃fs' lv' C',aA w' β sv lv' fs'/\aI w (fpF β sv lv) (fpF β sv lv')/\fs'.dy/\¬fs.well/\((fs'.life=0/\fs'.failed=fs.failed)\/fs'.failed=wrap64 (fs.failed+1))/\fN n q fs'.safe fs'.late v o C'/\(∀v' t,C' v' t->C v' t\/(v'=v/\t=o))/\∀ao,dN [] n fs v o ao->dN [] n fs' v o ao) \/
   (z=0/\∃fs' v1 o1 ao1,Ak d β sv lv fs' v1 o1 (rootOf ao1) w w'/\fs'.dy/\(fs'.life==0)=false/\fs'.failed=fs.failed/\(fs.chOk=true/\(fs.well->fs'.well))/\dN [] n fs' v1 o1 ao1/\((v1=v/\o1=o/\∃v',bT fs' ((v+1) % 2) v' (rootOf ao1)/\((v'=v/\ao1=o)\/(v'≠v+1/\C v' ao1)))\/(v1=v+1/\ao1=o/\C (v+1) o1))))
theorem qAj {n q v:Nat}(H:fN n q fs.safe fs.late v o C)(B:2<=n)(bi:v+1<524288)(x:fs.dy)(d β:Nat)(sv lv:Value)(w:World)(u:cW w d (db0 1 β) 83)(G:aA w β sv lv fs):
  cL 33 #[.p d 0] w λe w'=>∃z,e=.r (.i z)/\Jo n q d β sv lv fs v o C w z w':=by
 have y:=yJ β sv lv fs w G x.1 x.2.1 x.2.2.1 x.2.2.2 H.fits;have i:=Fs.wrS_dy x;have f:=Fs.wrS_failed fs;have U:=fS G u δ δ δ;have F:∀X,Fr (fpF β sv lv) w X->cW X d (db0 1 β) 83:=λX l=>l.heap u U;have ar:=(eJ u).2.2.1;change Calls _ _ _ _ (λe w'=>e=.r (.bool fs.chOk)/\∃b3,aA w' β sv b3 fs.wrS/\_) at y;cases b1:fs.chOk
 .have W:¬fs.well:=λh=>by rw[(JO h).1]at b1;cases b1
  rw[b1]at y f;have O:fN n q fs.wrS.safe fs.wrS.late v o C:=by rw[Fs.wrS,b1];show fN n q fs.ch.safe fs.ch.late _ _ _;rw[DR,DX];exact H
  obtain⟨b,j⟩:=nM (fs.wrS);rw[j]at y f O i;have K:Hid (∀X a,aA X β sv a b->Fr (fpF β sv lv) w X->aI w (fpF β sv lv) (fpF β sv a)->Jo n q d β sv lv fs v o C w 9 X):=λX a g c A=>⟨⟨_,F X c,rfl⟩,c.m (λk R=>.inl (.inr R)),.inl ⟨rfl,b,a,C,g,A,i,W,.inr f,O,λ_ _ h=>.inl h,λ_ S=>dN.eq (by rw[<-j,Fs.wrS,b1];exact DR fs) (by rw[<-j,Fs.wrS,b1];exact DX fs) S⟩⟩;go_enter func33,ntmps33;go_wp2_with (apply Calls.m y;rintro e L ⟨rfl,a,g,c,A⟩);go_ret;exact⟨9,rfl,K.o _ _ g c A⟩
 .rw[b1]at y f
  have aa:fs.wrS=fs.ch.synced:=by rw[Fs.wrS,b1,AU rfl]
  have a2:fs.wrS.safe=laid fs.safe fs.late:=by rw[aa];show laid fs.ch.safe fs.ch.late=_;rw[DR,DX]
  have r:fs.wrS.late=[]:=by rw[aa];rfl
  have p:=H.laid B;rw[<-a2]at p;obtain⟨b,j⟩:=nM (fs.wrS);rw[j]at y f p i r;replace f:b.failed=fs.failed:=f;cases b2:b.life==0
  .have bh:=p.len
   have ad:∀{D:Db} {w'},aO w' 1 D->D.d=d->∃a9,cW w' d a9 83/\a9[0]?=some (.int .i32 1):=λh e=>⟨_,e▸h.box,rfl⟩;have af:∀v1 o1 ao1,dN [] n b v1 o1 ao1->((v1=v/\o1=o/\∃v',bT b ((v+1) % 2) v' (rootOf ao1)/\((v'=v/\ao1=o)\/(v'≠v+1/\C v' ao1)))\/(v1=v+1/\ao1=o/\C (v+1) o1))->cL 33 #[.p d 0] w λe w'=>∃z,e=.r (.i z)/\Jo n q d β sv lv fs v o C w z w':=λv1 o1 ao1 S ay=>by
    refine(tC (v:=v1) (o:=o1) (ao:=ao1) 0 δ true true true r S.sure.root ω i b2 d β sv lv (Ou S.sure b2) (λ_ _=>qDu S.sure S.ahead b2) w u G y (λa X l=>(Se S ω β sv a b2 X l).m λe w' ⟨m,N,Q,P,M,B,E⟩=>⟨m,N.g,Q,P,M,B,rfl,λ_=>E,nofun⟩)).m ?_;rintro e w' (⟨h,_⟩|⟨_,⟨_,rfl,s⟩|⟨h,_⟩⟩)
    .cases h
    .refine⟨0,rfl,?_,?_,.inr ⟨rfl,b,v1,o1,ao1,s,i,b2,f,⟨b1,λh=>j▸Fs.wrS_well h⟩,S,ay⟩⟩
     .obtain⟨D,g,_,_,c,_⟩:=s;exact ad g c
     .obtain⟨D,_,_,_,_,_,_,_,_,_,_,_,_,q,_⟩:=s;exact q
    .cases h
   have bd:=p.hq
   have an:fN n q b.safe b.late v o C:=by rw[r];exact p
   obtain⟨g,c,_⟩:=an.view
   obtain⟨ab,au⟩:=qQr r p B ω i
   have ag:∀ao,dN [] n fs v o ao->∀i,b.at i=fs.at i:=λao S i=>by
    unfold Fs.at;rw[r,S.late,<-j,a2,S.late];rfl
   have ah:∀a4 a5 a1,(a4&&a5)=false->(∀ao,¬dN [] n fs v o ao)->(cL 33 #[.p d 0] w λe w'=>(true=false/\e=.panicked (eS 10)/\∃t,Ak d β sv lv b v o t w w')\/(true=true/\(((a4&&a5)=true/\e=.r (.i 0)/\Ak d β sv lv b v o a1 w w')\/((a4&&a5)=false/\e=.r (.i (b.fgZ (1-q) (mtB v o)))/\∃t,(b.fgZ (1-q) (mtB v o)=0->t=rootOf o)/\Ak d β sv lv (b.fg (1-q) (mtB v o)) v o t w w'))))->cL 33 #[.p d 0] w λe w'=>∃z,e=.r (.i z)/\Jo n q d β sv lv fs v o C w z w':=λa4 a5 a1 ba bb b9=>by
    refine b9.m ?_;rintro e w' (⟨h,_⟩|⟨_,⟨h,_⟩|⟨_,rfl,bf,az,s⟩⟩)
    .cases h
    .rw[ba]at h;cases h
    have ax:=s;obtain⟨D,ae,b4,bj,b5,b6,b7,_,_,_,_,_,_,a1,b8⟩:=ax;refine⟨_,rfl,ad ae b5,a1,?_⟩;rcases au with⟨I,Y,J,Z⟩|⟨I,Y,J⟩
    .rw[az I]at s
     rw[I];exact .inr ⟨rfl,_,v,o,o,s,ab,J,Z.t f,⟨b1,λh=>(Fs.fgZ_well (j▸Fs.wrS_well h) _ _).2⟩,Y.1,.inl ⟨rfl,rfl,v,Y.2,.inl ⟨rfl,rfl⟩⟩⟩
    .obtain⟨am,J,Z⟩:=J
     have ac:=ae.file;rw[b6,b7,b4]at ac;exact .inl ⟨I,_,_,am,ac,b8,ab,λh=>by rw[(Fs.fgZ_well (j▸Fs.wrS_well h) _ _).1]at I;omega,f▸Y,J,Z,λao S=>(bb ao S).elim⟩
   rcases p.two r B ω with⟨t,S,b0⟩|⟨t,V,S⟩|a0|⟨v',t,hn,V,ai,a7⟩
   .exact af v o t S (.inl ⟨rfl,rfl,b0⟩)
   .exact af (v+1) t o S (.inr ⟨rfl,rfl,V⟩)
   .exact ah false true _ rfl (λao S=>by
     have a6:=ag ao S
     obtain⟨v1,a3,_⟩:=S.meta1
     have:1-q=v % 2\/1-q=(v+1) % 2:=ω
     rcases this with e|e<;>rw[a6,e]at a0
     .exact Fa S.meta0 a0
     .exact Fa a3 a0) (tC (v:=v) (o:=o) (ao:=o) (1-q) ω true false true r c.root ω i b2 d β sv lv (Ou c b2) (λ_ h=>by cases h) w u G y (λa X l=>(Ys (q:=q) bd g a0 ω β sv a b2 X l).m λe w' ⟨m,N,Q,P,M,B,E⟩=>⟨m,N,Q,P,M,B,by rw[E],nofun,λ_=>by rw[E]⟩))
   .have be:v'+1=v:=by
     rcases(p.cs v' t V).2 with e|⟨_,e⟩|e
     .exact e
     .exact(wC a7 p.sure e).elim
     .omega
    have bc:=p.par.resolve_right (λh=>by have:=(h v' t V).1;omega)
    exact ah true false _ rfl (λao S=>by
     have a6:=ag ao S
     obtain⟨v1,a3,_⟩:=S.meta1
     have a8:=ai;unfold bT at a8 a3;rw[a6,show 1-q=(v+1) % 2 by omega]at a8
     have ak:b.safe=fs.safe:=by rw[<-j,a2,S.late];rfl
     exact wC a7 (S.ahead.stays (λi _ bk aj=>⟨by show i<b.safe;rw[ak];exact aj.1,by rw[qD,ak];have:=aj.2;unfold Fs.at at this;rw[S.late]at this;exact this⟩)) (rG a8 a3).2) (tC (v:=v) (o:=o) (ao:=t) (1-q) ω true true false r c.root ω i b2 d β sv lv (Ou c b2) (λ_ _=>Qw c a7 r b2) w u G y (λa X l=>(qFq bc g ai be ω β sv a b2 X l).m λe w' ⟨m,N,Q,P,M,B,E,al⟩=>⟨m,N.g,Q,P,M,B,rfl,λ_=>E,λ_=>al⟩))
  .have W:¬fs.well:=λh=>by rw[KM (j▸Fs.wrS_well h)]at b2;cases b2
   have aw:Hid (∀X a,aA X β sv a b->cL 49 #[.p β 0] X λe w'=>e=.r (.bool true)/\w'=X):=λX a l=>by
    have:=fH β sv a b X l;rw[b2]at this;exact this
   have K:Hid (∀X a,aA X β sv a b->Fr (fpF β sv lv) w X->aI w (fpF β sv lv) (fpF β sv a)->Jo n q d β sv lv fs v o C w 9 X):=λX a g c A=>⟨⟨_,F X c,rfl⟩,c.m (λk R=>.inl (.inr R)),.inl ⟨rfl,b,a,C,g,A,i,W,.inl ⟨by simpa using b2,f⟩,by rw[r];exact p,λ_ _ h=>.inl h,λ_ S=>dN.eq (by rw[<-j,a2,S.late];rfl) (by rw[r,S.late]) S⟩⟩;have ap:Hid (∀X,Fr (fpF β sv lv) w X->X.c d 2=some (.p β 0)):=λX l=>(eJ (F X l)).2.2.1;go_enter func33,ntmps33;go_wp2_with (first
    |(apply Calls.m y;rintro e L ⟨rfl,a,g,c,A⟩;have ar:=ap.o L c;have av:=aw.o L a g)
    |(apply Calls.m av;rintro e aq ⟨rfl,bg⟩;subst aq))
   go_ret;exact⟨9,rfl,K.o _ _ g c A⟩
theorem aO.beside {a D}(h:aO w a D)(b:¬fpD D k)(v:Value):aO (w.setCell (aD k i) v) a D :=
 h.on ((CM (fpD D) w).setCell (p:=(aD k i)) b v)
theorem Ez(D:Db)(g:Nat)(first q:Array Value)(A:∀args w,(callFunc g args).run prog w=.ok (.enter g args) w)(w:World)(h:aO w 0 D)(R:Int->Db->Prop)(C:∀a,aO a 1 D->Fr (Bl.one D.d) w a->w.1.size<a->cL g (first++q) a λe w'=>∃z D',e=.r (.i z)/\aO w' 1 D'/\D'.d=D.d/\Fr (fpD D) a w'/\aI a (fpD D) (fpD D')/\R z D'):
  cL 32 #[.p D.d 0,.func (.func g) first q] w λe w'=>∃z D',e=.r (.i z)/\aO w' 0 D'/\D'.d=D.d/\Fr (fpD D) w w'/\aI w (fpD D) (fpD D')/\R z D':=by
 have H:=(gL h.box);obtain⟨b,m⟩:=nM (w.setCell (aD D.d 0) (.int .i32 1));have t:=m▸h.lock;have y:=m▸(AE (Bl.one D.d) w).setCell (p:=(aD D.d 0)) (.inl rfl) _;have F:b.1.size=w:=by rw[<-m];simp
 obtain⟨a,o⟩:=nM (b.alloc (.cells #[.i 0] 48));have r:=o▸(bA _ _);have x:cW a w #[.i 0] 48:=by rw[<-o,<-F];exact aB b _
 have B:=t.bl r;have s:=y.t (AB r);have G:=(gL x);have v:¬fpD D w:=λc=>by have:=h.lies _ c;omega
 refine(zZ D.d g first q A w (λz W=>∃D',aO W 1 D'/\D'.d=D.d/\Fr (fpD D) a W/\aI a (fpD D) (fpD D')/\R z D') _ h.box rfl ?_).m ?_
 .rw[m,o]
  refine(C a B s G).m ?_;rintro e w' ⟨z,D',rfl,j,f,k,l,n⟩;exact⟨z,rfl,k.heap x v,⟨_,f▸j.box,rfl⟩,D',j,f,k,l,n⟩
 .rintro e w' ⟨z,W,rfl,⟨D',j,f,k,l,n⟩,rfl⟩;have E:¬fpD D' w:=λc=>by
   rcases l _ c with d|d
   .exact v d
   .omega
  refine⟨z,D',rfl,?_,f,?_,?_,n⟩
  .have:=(j.beside (i:=0) E (.i z)).lock (st':=0);rw[f]at this;exact this
  .exact(((s.m (λu c=>.inl (.inl c))).t k).setCell (p:=(aD w 0)) (.inr (jU _)) _).setCell (p:=(aD D.d 0)) (.inl (.inl rfl)) _
  .intro u c;rcases l u c with d|d
   .exact .inl d
   .exact .inr ω
def qPv(n qp β:Nat)(sv lv:Value)(fs:Fs)(v:Nat)(o:Option (Nat×T))(C:Nat->Option (Nat×T)->Prop)(w:World)(e:Ending)(w':World):Prop :=
  Fr (fpF β sv lv) w w' /\
  ((e=.returned (.tuple #[.pointer none,.i 9])/\∃fs' lv' C',aA w' β sv lv' fs'/\aI w (fpF β sv lv) (fpF β sv lv')/\fs'.dy/\¬fs.well/\((fs'.life=0/\fs'.failed=fs.failed)\/fs'.failed=wrap64 (fs.failed+1))/\fN n qp fs'.safe fs'.late v o C'/\(∀v' t,C' v' t->C v' t\/(v'=v/\t=o))/\∀ao,dN [] n fs v o ao->dN [] n fs' v o ao) \/
   (∃(D:Db) (v1:Nat) (o1 ao1:Option (Nat×T)),e=.returned (.tuple #[.p D.d 0,.i 0])/\aO w' 0 D/\D.β=β/\D.sv=sv/\D.ver=v1/\D.root=rootOf o1/\D.aroot=rootOf ao1/\D.failed=false/\D.last=0/\D.ts=[]/\D.fs.dy/\(D.fs.life==0)=false/\D.fs.failed=fs.failed/\(fs.chOk=true/\(fs.well->D.fs.well))/\dN [] n D.fs v1 o1 ao1/\((v1=v/\o1=o/\∃v',bT D.fs ((v+1) % 2) v' (rootOf ao1)/\((v'=v/\ao1=o)\/(v'≠v+1/\C v' ao1)))\/(v1=v+1/\ao1=o/\C (v+1) o1))/\aI w (fpF β sv lv) (fpD D)))
theorem Rz {n qp v:Nat}(H:fN n qp fs.safe fs.late v o C)(m:40<=n)(ac:v+1<524288)(K:fs.dy)(β:Nat)(sv lv:Value)(w:World)(k:aA w β sv lv fs):
  cL 11 #[.p β 0] w (qPv n qp β sv lv fs v o C w):=by
 obtain⟨e,x⟩:=nM (w.alloc (.cells (db0 0 β) 83));have R:=x▸(bA _ _);have O:=x▸aB w _;have P:e.1.size=w+1:=by rw[<-x];simp
 obtain⟨f,q⟩:=nM (e.setCell (aD w 0) (.int .i32 1));have an:cW f w (db0 1 β) 83:=by rw[<-q];have:=aC O 0 (.int .i32 1);simpa using this
 have U:=q▸(AE (Bl.one w) e).setCell (p:=(aD w 0)) (.inl rfl) _;have Q:f.1.size=w+1:=by rw[<-q];simp[P]
 obtain⟨d,r⟩:=nM (f.alloc (.cells #[.i 0] 48));have z:=r▸(bA _ _);have ap:cW d (w+1) #[.i 0] 48:=by rw[<-r,<-Q];exact aB f _
 have ao:=(z.block w ω).t an;have ar:d.1.size=w+2:=by rw[<-r];simp[Q]
 have A:=(R.t (U.below ω (λ_=>φ))).t (z.m ω);have ab:=k.bl A;have J:=qAj H ω ac K w.1.size β sv lv d ao ab;have a8:=mI β sv lv fs w k;have hn:¬((fs.safe.length:Int)<40):=by rw[H.len];omega
 have a7:=zZ w 33 #[.p w.1.size 0] #[] (enters_of func33 κ rfl) e (Jo n qp w β sv lv fs v o C d) _ O rfl (by
  rw[q,r,P];refine J.m ?_;rintro g w' ⟨b,rfl,j⟩;refine⟨b,rfl,j.2.1.heap ap ?_,j.1,j⟩;rintro(a|a)
  .simp only[Bl.one]at a;omega
  .have:=k.lies _ a;omega)
 have Y:Hid (∀b W,Jo n qp w β sv lv fs v o C d b W->(b=9\/b=0)/\∀g,g=.r (.tuple #[if b=0 then .p w 0 else .pointer none,.i b])->qPv n qp β sv lv fs v o C w g ((W.setCell (aD (w+1) 0) (.i b)).setCell (aD w 0) (.int .i32 0))):=λb W ⟨_,a6,j⟩=>by
  have V:=(AB A).grow a6 (λc a=>by
   rcases a with a|a
   .exact .inr (by simp only[Bl.one]at a;omega)
   .exact .inl a)
  have B:=(V.setCell (p:=(aD (w+1) 0)) (.inr (by show w.1.size<=w+1;omega)) (.i b)).setCell (p:=(aD w 0)) (.inr (jU _)) (.int .i32 0);rcases j with⟨rfl,E,L,S,al,N,am⟩|⟨rfl,E,v1,o1,ao1,⟨D,a5,Z,a2,l,m,u,a0,a1,a3,a4,F,s,_,I⟩,af,ag,ah,ak,ai,aj⟩
  .have M:∀c,c=w.1.size\/c=w+1->¬fpF β sv L c:=λc a aa=>by
    rcases N c aa with h|h
    .have:=k.lies c h;omega
    .omega
   refine⟨.inl rfl,λg y=>⟨B,.inl ⟨y,E,L,S,?_,λc a=>(N c a).imp id (λh=>ω),am⟩⟩⟩;exact al.on (((CM _ W).setCell (p:=(aD (w+1) 0)) (M _ (.inr rfl)) _).setCell (p:=(aD w 0)) (M _ (.inl rfl)) _)
  .have ae:¬fpD D (w+1):=by
    rintro(a|a|a|⟨t,ht,a⟩)
    .rw[l]at a;omega
    .rw[m,u]at a;rcases I _ a with a|a
     .have:=k.lies _ a;omega
     .omega
    .rw[F]at a;simp[Value.ownBlock]at a
    .rw[s]at ht;simp at ht
   have G:=(a5.beside (i:=0) ae (.i 0)).lock (st':=0);rw[l]at G;subst Z;refine⟨.inr rfl,λg y=>⟨B,.inr ⟨D,v1,o1,ao1,l▸y,G,m,u,a0,a1,a2,a3,a4,s,af,ag,ah,ak,ai,aj,?_⟩⟩⟩;rintro c (a|a|a|⟨t,ht,a⟩)
   .exact .inr (by rw[l]at a;omega)
   .rw[m,u]at a;exact(I _ a).imp id (λh=>ω)
   .rw[F]at a;simp[Value.ownBlock]at a
   .rw[s]at ht;simp at ht
 go_enter func11,ntmps11;go_wp2_with (first
  |(apply Calls.m a8;rintro g w' ⟨rfl,aq⟩;subst w')
  |(apply Calls.m a7;rintro g X ⟨b,W,rfl,j,rfl⟩;obtain⟨ad,a9⟩:=Y.o b W j;rcases ad with rfl|rfl))
 all_goals go_ret2
 all_goals refine a9 _ ?_
 all_goals simp
open Go.Shelf
attribute [local go_sem] CE
def Up(g:Nat)(lb:Array Value)(W:World):Prop:=∀l,CallsIn Fence.wide 0 prog g (#[.func (.yield l) #[] #[]]++lb) W λe W'=>e=.panicked (eS 9)/\bW W W'
theorem uD{n:Nat}{g:Operand}{ps:Array Tmp}{assign body:Code}{Q:Exit->Act->World->Prop}{a:Act}{w:World}{gf:Nat}{lb:Array Value}(hg:a.eval g=.func (.func gf) #[] lb)(eg:∀args w,(callFunc gf args).run prog w=.ok (.enter gf args) w)(h:∀W,bW w W->Up gf lb W)(hQ:∀D W,w.1.size<=D->bW w W->W.1[D]?=some (.deferred (some []))->Q (.panic (eS 9)) {a with defers:={target:=.collected D,args:=#[]}:: a.defers} W):
  (Code.rangeFunc g ps assign body).wpIn Fence.wide n prog Q a w:=by
 apply wpIn_rangeFunc;intro fn L;have⟨rec,H⟩:∃rec:Loop,rec = {state:=.ready,pending:=none,fn,tmps:=a.tmps,params:=ps,assign,body,defers:=w}:=⟨_,rfl⟩;have⟨W1,x⟩:=nM ((w.alloc (.deferred (some []))).alloc (.loop rec));have E:W1.1[w.1.size]?=some (.deferred (some [])):=by
  rw[<-x];exact(CY _ _ _ σ).t (World.alloc_heap_new w _)
 have I:=x▸(bA _ _).alloc σ _;refine⟨w+1,[{target:=.collected w,args:=#[]}],W1,{target:=.fn (.func gf) lb,args:=#[.func (.yield (w+1)) #[] #[]]},W1,gf,
  #[.func (.yield (w+1)) #[] #[]]++lb,W1,by rw[<-x,H];exact run_enterLoop_outer _ _ _ _ _,?_,by intro N M;trivial,by simp[invoke,go_sem,eg],λh=>by simp[Fence.wide]at h,?_⟩
 .simp only[resolve,hg];simp[go_sem]
 .refine vD (CallsIn.m (h W1 I (w+1)) ?_);rintro e W ⟨rfl,J⟩;exact hQ w W (jU _) (I.tm J) (J.kp E)
theorem Uu{n:Nat}{f:Func}{c:Array Value}{R:Ending->World->Prop}{B:Nat}{a:List Deferred}{w:World}(b:Marks B a w)(h:∀w',nA B w w'->R (.panicked (eS 9)) w'):LeavesInM Fence.wide n prog f c R a (.panicking (eS 9)) w :=
 fL σ b (λw' o=>h w' o)
theorem qFy(β:Nat)(sv lv:Value)(fs:Fs)(root:Int)(b:Option Addr)(d c:Nat)(p:Nat)(w:World)(h:aA w β sv lv fs)(n:(fs.life==0)=true):
  cL 138 #[.agg #[.p β 0,.i root,.s b d c],.i p] w λe w'=>e=.panicked (eS 9)/\bW w w':=by
 have⟨a,j⟩:=nM ((w.alloc (.cells #[.p β 0,.i root,.s b d c] 90)).alloc xI);have f:=j▸(bA _ _).alloc σ _;have g:=h.bl f;have i:=fH β sv lv fs a g;rw[n]at i;have o:=j▸aP _ (aB w _);have q:a.c w 0=some (.p β 0):=by simp[World.cell?,o]
 go_enter func138,ntmps138;go_wp2_with (first
  |(apply (lH β sv lv fs p a g).m;rintro e w' ⟨rfl,k⟩;subst w')
  |(apply i.m;rintro e w' ⟨rfl,k⟩;subst w')
  |(apply (xX 9 a).m;rintro e w' ⟨rfl,k⟩;subst w'))
 exact⟨rfl,rfl,f⟩
theorem qFj(β:Nat)(sv lv:Value)(fs:Fs)(root:Int)(b:Option Addr)(d c:Nat)(p:Nat)(s:Sp)(w:World)(h:aA w β sv lv fs)(k:(fs.life==0)=true):
  cL 144 #[.agg #[.p β 0,.i root,.s b d c],.i p,.agg #[.t s.lo,.t s.hi]] w λe w'=>e=.panicked (eS 9)/\bW w w':=by
 have⟨a,g⟩:=nM (((w.alloc (.cells #[.p β 0,.i root,.s b d c] 90)).alloc (.cells #[.t s.lo,.t s.hi] 154)).alloc xI);have f:=g▸((bA _ _).alloc σ _).alloc χ _;have l:=g▸aP _ (aP _ (aB w _));have⟨n,o,q⟩:=eM l;go_enter func144,ntmps144;go_wp2_with (apply (qFy β sv lv fs root b d c p a (h.bl f) k).m;rintro e m ⟨rfl,j⟩);exact⟨rfl,rfl,f.tm j⟩
theorem Sn(β:Nat)(sv lv:Value)(fs:Fs)(t:(fs.life==0)=true)(root:Int)(g:Option Addr)(j i:Nat)(p:Nat)(s:Sp)(e c f:Nat)(vq:Value)(W:World)(v:cW W e #[.p β 0,.i root,.s g j i] 90)(u:cW W c #[.i p] 3)(w:cW W f #[.t s.lo,.t s.hi] 154)(k:aA W β sv lv fs):Up 161 #[.p e 0,.p c 0,.p f 0,vq] W:=by
 intro l;refine CH func161 rfl trivial ?_ rfl;simp only[ntmps161,jA,jB,jN,Nat.reduceAdd,Nat.reduceSub,jR,jO,jP,jT,jE,jF];have⟨a,q⟩:=nM (W.alloc (.cells #[.func (.yield l) #[] #[]] 228));have b:=q▸(bA _ _);have d:∀{m:Nat}{o:Obj},W.1[m]?=some o->a.1[m]?=some o:=λh=>b.kp h;have⟨y,z,A⟩:=eM (d v);have B:a.c c 0=some (.i p):=by simp[World.cell?,d u]
 have⟨C,D⟩:=cM (d w);gi_wp2_with (refine⟨trivial,rfl,?_⟩;gi_at_call 144;apply(BG.2 (qFj β sv lv fs root g j i p s a (k.bl b) t)).m;rintro E x ⟨rfl,r⟩);exact⟨rfl,b.tm r⟩
theorem Cn(β:Nat)(sv lv:Value)(fs:Fs)(z:(fs.life==0)=true)(root:Nat)(hr:root≠0)(g:Option Addr)(k j:Nat)(q:Sp)(n m:Nat)(W:World)(G:cW W n #[.p β 0,.i root,.s g k j] 90)(F:cW W m #[.t q.lo,.t q.hi] 154)(r:aA W β sv lv fs):Up 134 #[.p n 0,.p m 0] W:=by
 intro l;refine CH func134 rfl trivial ?_ rfl;simp only[ntmps134,jA,jB,jN,Nat.reduceAdd,Nat.reduceSub,jR,jO,jP,jT,jE,jF];have⟨b,w⟩:=nM (W.alloc (.cells #[.func (.yield l) #[] #[]] 200));have e:=w▸(bA _ _);have t:∀{a:Nat}{o:Obj},W.1[a]?=some o->b.1[a]?=some o:=λh=>e.kp h;have⟨H,I,J⟩:=eM (t G);have⟨K,L⟩:=cM (t F);have N:((root:Int)==0)=false:=χ
 gi_wp2_with (refine⟨trivial,rfl,?_⟩;gi_at_call 135;apply(BG.2 (uO root root β g k j Sp.all q b)).m;rintro M f ⟨rfl,A,C,E,O,x⟩);have c:=e.tm x;refine uD rfl (enters_of func161 κ rfl) (λX d=>?_) (λD X u d y=>Uu (B:=f) ⟨[D],rfl,σ,λT h=>by rw[AL.1 h];exact⟨u,y⟩⟩ (λU v=>⟨rfl,c.tm (d.t v.below)⟩))
 .have a:∀{i:Nat}{s:Obj},f.1[i]?=some s->X.1[i]?=some s:=λh=>d.kp h;exact Sn β sv lv fs z root g k j root Sp.all _ _ _ _ X (a A) (a C) (a E) (r.bl (c.t (d.m c.size)))
theorem qFb(a:Nat)(j:Array Value)(p:∀args w,(callFunc a args).run prog w=.ok (.enter a args) w)(f:Option Addr)(i g:Nat)(d e:Nat)(W:World)(h:∀X,bW W X->Up a j X)(m:cW W d #[.s f i g] 88)(n:cW W e #[.func (.func a) #[] j] 151):Up 195 #[.p d 0,.p e 0] W:=by
 intro l;refine CH func195 rfl trivial ?_ rfl;simp only[ntmps195,jA,jB,jN,Nat.reduceAdd,Nat.reduceSub,jR,jO,jP,jT,jE,jF];have⟨c,s⟩:=nM ((W.alloc (.cells #[.func (.yield l) #[] #[]] 200)).alloc (.cells #[.s f i g] 88));have b:=s▸(bA _ _).alloc σ _;have o:bW W (W.alloc (.cells #[.func (.yield l) #[] #[]] 200)):=bA _ _;have v:(W.alloc (.cells #[.func (.yield l) #[] #[]] 200)).c d 0=some (.s f i g):=by simp[World.cell?,o.kp m]
 have y:c.c e 0=some (.func (.func a) #[] j):=by simp[World.cell?,b.kp n]
 gi_wp2;refine uD rfl p (λX k=>h X (b.tm k)) (λD X q k t=>?_);exact Uu (B:=c) ⟨[D],rfl,σ,λE h=>by rw[AL.1 h];exact⟨q,t⟩⟩ (λH r=>⟨rfl,b.tm (k.t r.below)⟩)
theorem Pk(β:Nat)(sv lv:Value)(fs:Fs)(C:(fs.life==0)=true)(root:Nat)(hr0:root≠0)(d:Option Addr)(f:Nat)(cs:List Ch)(q:Sp)(S:Bl)(w:World)(u:aA w β sv lv fs)(y:aH w S d (cs.flatMap Ch.cells))(z:lW S w)(hr:cJ cs)(hn:cs.length<=1000000)(A:cs<=f)(B:(d=none/\f=0)\/∃b D,d=some (aD b D)):
  cL 165 #[.agg #[.p β 0,.i root,.s d cs f],.t q.lo,.t q.hi] w λe w'=>∃m,e=.r (.func (.func 195) #[] m)/\(∀X,bW w' X->Up 195 m X)/\bW w w' :=
 Dn β root d f cs q S w y z hr hn A B (λm w'=>∀X,bW w' X->Up 195 m X) (λE n t s I H x a c L G F r J K X k=>by
  have l:∀{j:World}{i:Nat}{g:Obj},bW n j->n.1[i]?=some g->j.1[i]?=some g:=λo h=>o.kp h;have v:∀{i:Nat}{g:Obj},E.1[i]?=some g->n.1[i]?=some g:=λh=>x.kp h;refine qFb _ _ (enters_of func134 κ rfl) a _ c (s+1) s X (λj o=>?_) (l k F) (l k G);have p:=k.tm o;exact Cn β sv lv fs C root hr0 d cs f q t (t+1) j (l p (v I)) (l p (v H)) (u.bl (r.t (p.m r.size))))
variable {fs:Fs} {n v:Nat} {o:Option (Nat×T)}
structure Jl (n:Nat) (fs:Fs) (v:Nat) (o:Option (Nat×T)):Prop where
 late:fs.late=[]
 len:fs.safe.length=n
 size:∀s∈fs.safe,s.size=256
 m0:bT fs (v % 2) v (rootOf o)
 m1:∃v1 r1,bT fs ((v+1) % 2) v1 r1/\(v1+1=v\/(v1=v/\r1=rootOf o))
 root:rootOf o=0\/bF (rootOf o:Nat)=true
 hurt:qE fs.safe o
abbrev lD(s:List ByteArray)(p k:Nat)(u:UInt8):List ByteArray:=s.set p (oP (s.getD p ⟨#[]⟩) k u)
theorem Qz {o ao:Option (Nat×T)}(S:dN [] n fs v o ao){p k:Nat}{u:UInt8}(L:p<n)(w:k<256)(z:(fs.safe.getD p ⟨#[]⟩).data.toList[k]?≠some u)(hn:2<=n){v1:Nat}(d:jS (fs.safe.getD (1-v % 2) ⟨#[]⟩) v1 (rootOf ao))(j:v1+1=v\/(v1=v/\rootOf ao=rootOf o)):
  (2<=p/\Jl n {fs with safe:=lD fs.safe p k u} v o)\/fN n (v % 2) (lD fs.safe p k u) [] v o (λv' t=>v'=v1/\t=ao)\/(p=v % 2/\fN n ((v+1) % 2) (lD fs.safe p k u) [] v1 ao (λv' t=>v'=v/\t=o)):=by
 have x:=S.late;have I:=S.len;have h:p<fs.safe:=ω
 have a:∀i,fs.at i=fs.safe.getD i ⟨#[]⟩:=λi=>by unfold Fs.at;rw[x];rfl
 rw[show 1-v % 2=(v+1) % 2 by omega]at d
 have g:∀i,(lD fs.safe p k u).getD i ⟨#[]⟩=if i=p then oP (fs.safe.getD p ⟨#[]⟩) k u else fs.safe.getD i ⟨#[]⟩:=λi=>yM _ _ _ _ h
 have D:∀i,i≠p->({fs with safe:=lD fs.safe p k u}:Fs).at i=fs.at i:=λi hi=>by
  rw[a];show Fs.at _ i=_;unfold Fs.at;rw[x];show(lD fs.safe p k u).getD i _=_;rw[g,AQ hi]
 have l:(lD fs.safe p k u)=n:=ζ
 have m:∀s∈lD fs.safe p k u,s.size=256:=λs y=>by
  rcases DS y with y|rfl
  .exact S.size s y
  .rw[wW,getD_in h];exact S.size _ (AA h)
 have c:∀t,Tr [] fs t->p ∉ bI t->Tr [] (bare (lD fs.safe p k u)) t:=λt ht hn=>ht.stays (λi hi H f=>⟨by show i<(lD fs.safe p k u);have:=f.1;omega,by rw[qD,g,AQ (λe:i=p=>hn (e▸hi)),<-a];exact f.2⟩)
 have F:∀t,Tr [] fs t->p∈bI t->qE (lD fs.safe p k u) t:=λt ht q=>by
  refine⟨p,fs.safe.getD p ⟨#[]⟩,q,ω,?_,?_⟩
  .rw[g,AU rfl]
   obtain⟨K,_,E⟩:=Gw ht.rooted q
   rw[a]at E
   exact Lo E w z
  .have e:(lD fs.safe p k u).set p (fs.safe.getD p ⟨#[]⟩)=fs.safe:=by
    simp_all
   rw[e];exact ht.stays (λi _ H f=>⟨f.1,by rw[qD,<-a];exact f.2⟩)
 have b:=S.meta0
 unfold bT at b;rw[a]at b
 by_cases h2:2<=p
 .have C:v % 2≠p:=ω
  have J:(v+1) % 2≠p:=ω
  have M0:bT {fs with safe:=lD fs.safe p k u} (v % 2) v (rootOf o):=by unfold bT;grind
  have M1:bT {fs with safe:=lD fs.safe p k u} ((v+1) % 2) v1 (rootOf ao):=by unfold bT;rw[D _ J,a];exact d
  by_cases ho:p∈bI o
  .exact .inl ⟨h2,x,l,m,M0,⟨v1,_,M1,j⟩,S.sure.root,F o S.sure ho⟩
  by_cases ha:p∈bI ao
  .refine .inr (.inl ⟨m,σ,σ,l,ω,.inl rfl,by rw[g,AQ C];exact b,c o S.sure ho,⟨v1,ao,_,⟨rfl,rfl⟩,d,.inl ?_⟩,?_,σ⟩)
   .rw[g,AQ ω,show 1-v % 2=(v+1) % 2 by omega]
   .rintro v' t ⟨rfl,rfl⟩;exact⟨.inr ⟨ω,F t S.ahead ha⟩,j.imp id .inl⟩
  .refine .inr (.inl ⟨m,σ,σ,l,ω,.inl rfl,by rw[g,AQ C];exact b,c o S.sure ho,⟨v1,ao,_,⟨rfl,rfl⟩,d,.inl ?_⟩,?_,σ⟩)
   .rw[g,AQ ω,show 1-v % 2=(v+1) % 2 by omega]
   .rintro v' t ⟨rfl,rfl⟩;exact⟨.inl (c t S.ahead ha),j.imp id .inl⟩
 .have r:∀t,Tr [] fs t->p ∉ bI t:=λt ht q=>by have:=ht.ge p q;omega
  by_cases hv:p=v % 2
  .refine .inr (.inr ⟨hv,m,σ,σ,l,ω,?_,ζ,c ao S.ahead (r ao S.ahead),⟨v,o,_,⟨rfl,rfl⟩,b,.inr ⟨k,u,w,hv▸z,λi _=>.inl ?_,σ⟩⟩,?_,σ⟩)
   .grind
   .rw[g,AU ω,hv]
   .rintro v' t ⟨rfl,rfl⟩
    refine⟨.inl (c t S.sure (r t S.sure)),?_⟩
    omega
  .have G:p=(v+1) % 2:=ω
   refine .inr (.inl ⟨m,σ,σ,l,ω,.inl rfl,by rw[g,AQ (λe=>hv e.symm)];exact b,c o S.sure (r o S.sure),⟨v1,ao,_,⟨rfl,rfl⟩,d,.inr ⟨k,u,w,G▸z,λi _=>.inl ?_,σ⟩⟩,?_,σ⟩)
   .rw[g,AU ω,G]
   .rintro v' t ⟨rfl,rfl⟩;exact⟨.inl (c t S.ahead (r t S.ahead)),j.imp id .inl⟩
theorem qKi {v F l n:Nat}(d:bT fs (v % 2) v l)(f:bT fs ((v+1) % 2) F n)(b:F+1=v\/(F=v/\n=l))(i:1<fs.safe.length)(β:Nat)(sv lv:Value)(k:(fs.life==0)=false)(w:World)(j:aA w β sv lv fs):
  cL 83 #[.p β 0] w λe w'=>∃m a:MV,e=.r (.tuple #[.agg m.cells,.agg a.cells])/\bW w w'/\m.ver=v/\m.root=l/\a.root=n:=by
 rcases EG v with h|h
 .rw[h]at d
  have g:(v+1) % 2=1:=ω
  rw[g]at f;apply(iJ β sv lv fs k v l F n w j i d f).m;grind
 .rw[h]at d
  have g:(v+1) % 2=0:=ω
  rw[g]at f;apply(iJ β sv lv fs k F n v l w j i f d).m;grind
theorem Jl.eq {fs a:Fs}(S:Jl n fs v o)(e:a.safe=fs.safe)(l:a.late=[]):Jl n a v o:=by
 have b:∀i,a.at i=fs.at i:=λi=>by unfold Fs.at;rw[e,l,S.late]
 obtain⟨v1,d,h,c⟩:=S.m1
 exact⟨l,by rw[e];exact S.len,by rw[e];exact S.size,by unfold bT;rw[b];exact S.m0,⟨v1,d,by unfold bT;rw[b];exact h,c⟩,S.root,by rw[e];exact S.hurt⟩
def Ea(d β:Nat)(sv lv:Value)(fs:Fs)(w:World)(e:Ending)(w':World):Prop:=(∃cs',w'.1[d]?=some (.cells cs' 83)/\cs'[0]?=some (.int .i32 1))/\Fr (Bl.or (Bl.one d) (fpF β sv lv)) w w'/\∃fs' lv',aA w' β sv lv' fs'/\aI w (fpF β sv lv) (fpF β sv lv')/\fs'.dy/\fs'.safe=fs.safe/\fs'.late=[]/\((e=.r (.i 9)/\(fs.chOk&&!(fs.wrS.life==0))=false/\¬fs.well/\((fs'.life=0/\fs'.failed=fs.failed)\/fs'.failed=wrap64 (fs.failed+1)))\/(e=.panicked (eS 10)/\(fs.chOk&&!(fs.wrS.life==0))=true/\fs'.failed=fs.failed/\(fs'.life==0)=false))
theorem Vh (S:Jl n fs v o)(B:2<=n)(x:fs.dy)(d β:Nat)(sv lv:Value)(w:World)(u:cW w d (db0 1 β) 83)(z:aA w β sv lv fs):
  cL 33 #[.p d 0] w (Ea d β sv lv fs w):=by
 have p:=yJ β sv lv fs w z x.1 x.2.1 x.2.2.1 x.2.2.2 (by intro q F;rw[S.late]at F;cases F);have i:=Fs.wrS_dy x;have f:=Fs.wrS_failed fs;have I:=fS z u δ δ δ;have A:∀X,Fr (fpF β sv lv) w X->cW X d (db0 1 β) 83:=λX l=>l.heap u I;have U:=(eJ u).2.2.1;change Calls _ _ _ _ (λj w'=>j=.r (.bool fs.chOk)/\∃a0,aA w' β sv a0 fs.wrS/\_) at p
 have e:fs.wrS.safe=fs.safe/\fs.wrS.late=[]:=by
  unfold Fs.wrS;split
  .refine⟨?_,rfl⟩;show laid fs.ch.safe fs.ch.late=_;rw[DR,DX,S.late];rfl
  .rw[DR,DX];exact⟨rfl,S.late⟩
 cases b1:fs.chOk
 .have W:¬fs.well:=λh=>by rw[(JO h).1]at b1;cases b1
  rw[b1]at p f;obtain⟨b,r⟩:=nM (fs.wrS);rw[r]at p f e i;have K:Hid (∀X a,aA X β sv a b->Fr (fpF β sv lv) w X->aI w (fpF β sv lv) (fpF β sv a)->Ea d β sv lv fs w (.r (.i 9)) X):=λX a g c q=>⟨⟨_,A X c,rfl⟩,c.m (λk R=>.inl (.inr R)),b,a,g,q,i,e.1,e.2,.inl ⟨rfl,by rw[b1];rfl,W,.inr f⟩⟩;go_enter func33,ntmps33;go_wp2_with (apply Calls.m p;rintro j L ⟨rfl,a,g,c,q⟩);go_ret;exact K.o _ _ g c q
 .rw[b1]at p f
  obtain⟨b,r⟩:=nM (fs.wrS);rw[r]at p f e i;replace f:b.failed=fs.failed:=f;cases b2:b.life==0
  .have y:=S.eq e.1 e.2
   have ac:=y.len
   obtain⟨v1,G,a9,a8⟩:=y.m1
   obtain⟨ao,a7⟩:∃ao:Option (Nat×T),rootOf ao=G:=⟨some (0,.leaf G []),rfl⟩
   refine(tC (v:=v) (o:=o) (ao:=ao) 0 δ false true true y.late y.root ω i b2 d β sv lv (qFs y.hurt y.late b2) (λh=>by cases h) w u z p (λa X l=>(qKi y.m0 a9 a8 ω β sv a b2 X l).m λj w' ⟨m,J,Q,P,M,B,H⟩=>⟨m,J.g,Q,P,M,B,rfl,λ_=>H.t a7.symm,nofun⟩)).m ?_
   rintro j w' (⟨_,rfl,t,s⟩|⟨h,_⟩)
   .have Z:=s;obtain⟨D,E,a1,ab,a2,a3,a4,_,_,_,_,_,_,a5,a6⟩:=Z
    have C:=E.file;rw[a3,a4,a1]at C
    exact⟨⟨_,a2▸E.box,rfl⟩,a5,b,_,C,a6,i,e.1,e.2,.inr ⟨rfl,ζ,f,b2⟩⟩
   .cases h
  .have W:¬fs.well:=λh=>by rw[KM (r▸Fs.wrS_well h)]at b2;cases b2
   have Y:Hid (∀X a,aA X β sv a b->cL 49 #[.p β 0] X λj w'=>j=.r (.bool true)/\w'=X):=λX a l=>by
    have:=fH β sv a b X l;grind
   have K:Hid (∀X a,aA X β sv a b->Fr (fpF β sv lv) w X->aI w (fpF β sv lv) (fpF β sv a)->Ea d β sv lv fs w (.r (.i 9)) X):=λX a g c q=>⟨⟨_,A X c,rfl⟩,c.m (λk R=>.inl (.inr R)),b,a,g,q,i,e.1,e.2,.inl ⟨rfl,ζ,W,.inl ⟨ζ,f⟩⟩⟩;have N:Hid (∀X,Fr (fpF β sv lv) w X->X.c d 2=some (.p β 0)):=λX l=>(eJ (A X l)).2.2.1;go_enter func33,ntmps33;go_wp2_with (first
    |(apply Calls.m p;rintro j L ⟨rfl,a,g,c,q⟩;have U:=N.o L c;have V:=Y.o L a g)
    |(apply Calls.m V;rintro j O ⟨rfl,aa⟩;subst O))
   go_ret;exact K.o _ _ g c q
theorem qFg (S:Jl n fs v o)(m:40<=n)(K:fs.dy)(β:Nat)(sv lv:Value)(w:World)(k:aA w β sv lv fs):
  cL 11 #[.p β 0] w λe w'=>Fr (fpF β sv lv) w w'/\∃z fs' lv',e=.returned (.tuple #[.pointer none,.i z])/\aA w' β sv lv' fs'/\aI w (fpF β sv lv) (fpF β sv lv')/\fs'.dy/\fs'.safe=fs.safe/\fs'.late=[]/\((z=9/\¬fs.well/\((fs'.life=0/\fs'.failed=fs.failed)\/fs'.failed=wrap64 (fs.failed+1)))\/(z=10/\fs'.failed=fs.failed/\(fs'.life==0)=false)):=by
 obtain⟨e,x⟩:=nM (w.alloc (.cells (db0 0 β) 83));have R:bW w e:=x▸(bA _ _);have O:cW e w (db0 0 β) 83:=x▸aB w _;have P:e.1.size=w+1:=by rw[<-x];simp
 obtain⟨f,q⟩:=nM (e.setCell (aD w 0) (.int .i32 1));have an:cW f w (db0 1 β) 83:=by rw[<-q];have:=aC O 0 (.int .i32 1);grind
 have U:Fr (Bl.one w) e f:=q▸(AE (Bl.one w) e).setCell (p:=(aD w 0)) (.inl rfl) _;have Q:f.1.size=w+1:=by rw[<-q];simp[P]
 obtain⟨d,r⟩:=nM (f.alloc (.cells #[.i 0] 48));have z:bW f d:=r▸(bA _ _);have ap:cW d (w+1) #[.i 0] 48:=by rw[<-r,<-Q];exact aB f _
 have ao:=(z.block w ω).t an;have ar:d.1.size=w+2:=by rw[<-r];simp[Q]
 have A:bW w d:=(R.t (U.below ω (λ_=>φ))).t (z.m ω);have ab:=k.bl A;have J:=Vh S ω K w.1.size β sv lv d ao ab;have a8:=mI β sv lv fs w k;have hn:¬((fs.safe.length:Int)<40):=by rw[S.len];omega
 have box:∀{w':World}{e':Ending},Ea w β sv lv fs d e' w'->cW w' (w+1) #[.i 0] 48:=λj=>j.2.1.heap ap (by
  rintro(a|a)
  .simp only[Bl.one]at a;omega
  .have:=k.lies _ a;omega)
 have V:∀{W:World},Fr (Bl.or (Bl.one w) (fpF β sv lv)) d W->Fr (fpF β sv lv) w W:=λa6=>(AB A).grow a6 (λc a=>by
   rcases a with a|a
   .exact .inr (by simp only[Bl.one]at a;omega)
   grind)
 cases hz:(fs.chOk&&!(fs.wrS.life==0))
 .have a7:=zZ w 33 #[.p w.1.size 0] #[] (enters_of func33 κ rfl) e (λb W=>b=9/\Ea w β sv lv fs d (.r (.i 9)) W) _ O rfl (by
   rw[q,r,P];refine J.m ?_;rintro g w' j;have j0:=j;obtain⟨j1,j2,fs',lv',j3,j4,j5,j6,j7,j8⟩:=j
   grind)
  have Y:Hid (∀W,Ea w β sv lv fs d (.r (.i 9)) W->Fr (fpF β sv lv) w ((W.setCell (aD (w+1) 0) (.i 9)).setCell (aD w 0) (.int .i32 0))/\∃fs' lv',aA ((W.setCell (aD (w+1) 0) (.i 9)).setCell (aD w 0) (.int .i32 0)) β sv lv' fs'/\aI w (fpF β sv lv) (fpF β sv lv')/\fs'.dy/\fs'.safe=fs.safe/\fs'.late=[]/\¬fs.well/\((fs'.life=0/\fs'.failed=fs.failed)\/fs'.failed=wrap64 (fs.failed+1))):=λW ⟨_,j2,fs',L,al,N,j5,j6,j7,j8⟩=>by
   have M:∀c,c=w.1.size\/c=w+1->¬fpF β sv L c:=λc a aa=>by
    rcases N c aa with h|h
    .have:=k.lies c h;omega
    .omega
   refine⟨((V j2).setCell (p:=(aD (w+1) 0)) (.inr σ) _).setCell (p:=(aD w 0)) (.inr (jU _)) _,fs',L,al.on (((CM _ W).setCell (p:=(aD (w+1) 0)) (M _ (.inr rfl)) _).setCell (p:=(aD w 0)) (M _ (.inl rfl)) _),λc a=>(N c a).imp id (λh=>ω),j5,j6,j7,?_⟩
   grind
  go_enter func11,ntmps11;go_wp2_with (first
   |(apply Calls.m a8;rintro g w' ⟨rfl,aq⟩;subst w')
   |(apply Calls.m a7;rintro g X ⟨b,W,rfl,⟨rfl,j⟩,rfl⟩;obtain⟨y1,fs',L,y2⟩:=Y.o W j))
  go_ret2
  exact⟨y1,9,fs',L,rfl,y2.1,y2.2.1,y2.2.2.1,y2.2.2.2.1,y2.2.2.2.2.1,.inl ⟨rfl,y2.2.2.2.2.2⟩⟩
 .have a7:=Bt w 33 #[.p w.1.size 0] #[] (enters_of func33 κ rfl) 10 e (λW=>Ea w β sv lv fs d (.panicked (eS 10)) W) _ O rfl (by
   rw[q,r,P];refine J.m ?_;rintro g w' j;have j0:=j;obtain⟨j1,j2,fs',lv',j3,j4,j5,j6,j7,j8⟩:=j
   grind)
  have Y:Hid (∀W,Ea w β sv lv fs d (.panicked (eS 10)) W->Fr (fpF β sv lv) w (((W.alloc (.cells #[.i 10] 172)).setCell (aD (w+1) 0) (.i 10)).setCell (aD w 0) (.int .i32 0))/\∃fs' lv',aA (((W.alloc (.cells #[.i 10] 172)).setCell (aD (w+1) 0) (.i 10)).setCell (aD w 0) (.int .i32 0)) β sv lv' fs'/\aI w (fpF β sv lv) (fpF β sv lv')/\fs'.dy/\fs'.safe=fs.safe/\fs'.late=[]/\fs'.failed=fs.failed/\(fs'.life==0)=false):=λW ⟨_,j2,fs',L,al,N,j5,j6,j7,j8⟩=>by
   have M:∀c,c=w.1.size\/c=w+1->¬fpF β sv L c:=λc a aa=>by
    rcases N c aa with h|h
    .have:=k.lies c h;omega
    .omega
   refine⟨(((V j2).alloc _).setCell (p:=(aD (w+1) 0)) (.inr σ) _).setCell (p:=(aD w 0)) (.inr (jU _)) _,fs',L,al.on ((((CM _ W).alloc (λc a=>al.lies c a) _).setCell (p:=(aD (w+1) 0)) (M _ (.inr rfl)) _).setCell (p:=(aD w 0)) (M _ (.inl rfl)) _),λc a=>(N c a).imp id (λh=>ω),j5,j6,j7,?_⟩
   grind
  go_enter func11,ntmps11;go_wp2_with (first
   |(apply Calls.m a8;rintro g w' ⟨rfl,aq⟩;subst w')
   |(apply Calls.m a7;rintro g X ⟨rfl,W,j,rfl⟩;obtain⟨y1,fs',L,y2⟩:=Y.o W j))
  go_ret2
  exact⟨y1,10,fs',L,rfl,y2.1,y2.2.1,y2.2.2.1,y2.2.2.2.1,y2.2.2.2.2.1,.inr ⟨rfl,y2.2.2.2.2.2⟩⟩
theorem qHk(b : UInt8)(m : Int)(e : 0 <= m)(f : m < 255): ∃t : UInt8, t ≠ b /\ bits BinOp.xor IntKind.u8 (b.toNat : Int) (1 + m) = (t.toNat : Int):= by
  obtain⟨n, rfl⟩: ∃n : Nat, m = n := ⟨m.toNat, by omega⟩;have g := b.toNat_lt;have c : (1 : Int) + (n : Int) = ((1 + n : Nat): Int):= by omega
  have hx : b.toNat ^^^ (1 + n) < 256 := GH (n := 8) ω ω;refine⟨UInt8.ofNat (b.toNat ^^^ (1 + n)), λh => ?_, ?_⟩
  . have a := BR UInt8.toNat h
    rw[DV (by simpa[UInt8.size] using hx)]at a;have d := BR (λx => b.toNat ^^^ x) a;simp only[<-EP, FV, Nat.zero_xor]at d;omega
  . rw[c, u8_xor_nat _ _ ω ω, DV (by simpa[UInt8.size] using hx)]
theorem qDw(β : Nat)(sv lv : Value)(fs : Fs)(p k : Nat)(m : Int)(w : World)(h : aA w β sv lv fs)(R : 0 <= m)(S : m < 255)(I : p < fs.safe)(H : k < 256)(N : (fs.safe[p]).size = 256):
    Calls prog 57 #[.p β 0, .i (p : Nat), .i (k : Nat), .int .i64 (1 + m)] w λe w' => (∃v, e = .returned v) /\ ∃t : UInt8, (fs.safe[p]).data.toList[k]? ≠ some t /\ aA w' β sv lv {fs with safe := fs.safe.set p (oP fs.safe[p] k t)} /\ Fr (fpF β sv lv) w w' := by
  obtain⟨aj, x, rfl⟩:= aG h.safe;obtain⟨s, A⟩: ∃s, fs.safe[p] = s := ⟨_, rfl⟩;rw[A]at N⊢;have V : s.data.toList.length = 256 := by rw[GA]; exact N
  obtain⟨Z, a0, a1, a2, a3⟩:= cS h.box;obtain⟨g, T, ad, ac, ae⟩:= gU h.safe (j := p) (u := .t s) (by rw[BM, jQ I, A]; rfl);subst T;obtain⟨c, v, aa, L, q, M, r, l, n, ai⟩:= Vl s w;have i : k < s.data.toList := by omega
  obtain⟨b, z⟩: ∃b, s.data.toList[k]'i = b := ⟨_, rfl⟩;have a9 : v.cell? (aD w k) = some (.int .u8 (b.toNat : Int)):= z ▸ q k i;obtain⟨t, ht, hx⟩:= qHk b m R S;have ab := M k ω;obtain⟨a, K⟩: ∃a, v.setCell (aD w k) (.int .u8 (t.toNat : Int)) = a := ⟨_, rfl⟩;have B : a.1[w.1.size]? = some (.cells (r.setIfInBounds k (eO t)) 5 l):= K ▸ qNm n _;have O  := K ▸ (AE (Bl.one w) v).setCell (p := (aD w k)) (.inl rfl) _;have C  := L.t (O.below L.size (λ_=>φ));have f := h.bl C;obtain⟨y, a4, a5, a6, a7⟩:= cS f.box;obtain⟨a8, U, _, _, af⟩:= gU f.safe (j := p) (u := .t s) (by rw[BM, jQ I, A]; rfl)
  cases U;have ak := JJ (w := a) f.safe;have ah : (p : Int) < (fs.safe.length : Int):= by omega
  have ag : (k : Int) < 256 := by omega
  obtain⟨d, o⟩: ∃d, oP s k t = d := ⟨_, rfl⟩;have F : (convert 108 9 (.s (some (aD w 0)) 256 c)).run prog a.drew = .ok (.t d) a.drew := o ▸ Dq v a.drew w k c s.data.toList t q r l n B i 256 ω;have J := ((AE (Bl.one g) a.drew).setCell (p := (aD g p)) (.inl rfl) (.t d)).heap B φ;have G : (convert 108 9 (.s (some (aD w 0)) 256 c)).run prog (a.drew.setCell (aD g p) (.t d)) = .ok (.t d) (a.drew.setCell (aD g p) (.t d)):= o ▸ Dq v _ w k c s.data.toList t q r l n (o ▸ J) i 256 ω;have W : g ≠ β := λe => aQ f.safe f.box δ (by simp[Value.ownBlock, e]);have E : (a.drew.setCell (aD g p) (.string d)).cell? (aD β 0) = some (.slice (some (aD g 0)) fs.safe x):= by rw[DU _ _ _ _ (by intro e; exact W (BR Addr.block e))]; exact y
  have D := f.stored (p := p) (data := d) rfl;have Q : Hid (s.data.toList[k]? ≠ some t):= λe => ht (by rw[jQ i, z]at e; exact(GY e).symm);have Y : Hid (aA a β (.s (some (aD g 0)) fs.safe x) lv fs):= f;have P : Hid (aA (a.setCell (aD g p) (.t d)) β (.s (some (aD g 0)) fs.safe x) lv {fs with safe := fs.safe.set p d}):= D;clear q M n B J z V f D h;go_enter func57, ntmps57;go_wp2;go_region_held3 (λX => X.c β 0 = some (.s (some (aD g 0)) fs.safe x) /\ (convert 108 9 (.s (some (aD w 0)) 256 c)).run prog X = .ok (.string d) X)
    ((first | (with_reducible exact⟨y, F⟩) | (with_reducible exact⟨E, G⟩) | exact⟨y, F⟩ | exact⟨E, G⟩))
    (fail)
  all_goals
    go_wp2
    go_end0;refine⟨⟨_, rfl⟩, t, Q.o, ?_, (((AB C).setCell (p := (aD g p)) (.inl (.inr (.inl rfl))) _)).drew⟩;rw[o];exact P.o.on (CM _ _).drew
theorem Ja{w:World}{b a o o':Nat}{v u:Value}(c:a≠b)(h:w.c b o=some u):(w.setCell (aD a o') v).cell? (aD b o)=some u:=by
 rw[DU _ _ _ _ (by simp[c])];exact h
theorem qHc(β:Nat)(sv lv:Value)(fs:Fs)(ka:Option Addr)(kc:Nat)(keep:List Int)(S:Bl)(w:World)(h:aA w β sv lv fs)(hsz:∀p (h:p<fs.safe.length),(fs.safe[p]).size=256)(hlz:∀x∈fs.late,x.2.size=256)(hfit:fs.fits)(hR:aH w S ka (keep.map (.int .i64)))(hS:∀k,S k->k<w/\¬fpF β sv lv k)(hkn:keep.length<=9223372036854775807):
  cL 16 #[.p β 0,.s ka keep kc] w λe w'=>(∃v,e=.r v)/\∃safe',iB fs.safe fs.late safe'/\aA w' β sv .n {fs with safe:=safe',late:=[],wait:=-1,life:=-1}/\Fr (fpF β sv lv) w w':=by
 obtain⟨sa,sc,rfl⟩:=aG h.safe;obtain⟨la,lc,rfl⟩:=aG h.late;have hfw:=h.few;go_enter func16,ntmps16;go_wp2;go_loopw [4] (λi wr=>∃(j:Nat) (cur:List ByteArray),i=.i j/\j<=fs.late/\Hid (iB fs.safe fs.late cur)/\aA wr β (.s sa fs.safe sc) (.s la fs.late lc) {fs with safe:=cur}/\Fr (fpF β (.s sa fs.safe sc) (.s la fs.late lc)) w wr) (λi _=>fs.late-(intOf i).toNat)
 case atStart=>exact⟨0,fs.safe,rfl,AG _,Pq hsz,h,AE _ _⟩
 case round =>
  obtain⟨j,cur,rfl,hj,HC,hf,hF⟩:=hrel;have⟨c0,c1,c2,c3,c4⟩:=cS hf.box;by_cases hlt:j<fs.late
  .have hlti:(j:Int)<(fs.late.length:Int):=ω
   have⟨q1,q2⟩:=vI (l:=fs.late) (j:=j) hlt;have⟨g,hg,hglt,hgc,hgv⟩:=gU hf.late q1;have⟨g',hg',_,_,hgv'⟩:=gU hf.late q2;subst hg;cases hg'
   have hp:=hfit _ (AA hlt);have⟨x,hx⟩:=nM (fs.late[j]);rw[hx]at hgv hgv' hp;have nB:=aB wr (.cells #[.i x.1,.t x.2] 104);have⟨W0,hW0⟩:=nM (wr.alloc (.cells #[.i x.1,.t x.2] 104));have b0:=hW0▸(bA _ _);rw[hW0]at nB;have HX:Hid (x∈fs.late):=hx▸AA hlt;go_wp2;have⟨bx,hbx⟩:=nM (wr.1.size);rw[hbx]at nB⊢;have HBX:Hid (w<=bx):=by have:=hF.size;show _<=_;omega
   go_loopw [6] (λkk wr=>∃(m:Nat) (cur:List ByteArray),kk=.i m/\m<=4/\Hid (iB fs.safe fs.late cur)/\Hid (aA wr β (.s sa fs.safe sc) (.q g fs.late lc) {fs with safe:=cur})/\Hid (Fr (fpF β (.s sa fs.safe sc) (.q g fs.late lc)) w wr)/\Hid (cW wr bx #[.i x.1,.t x.2] 104)) (λkk _=>4-(intOf kk).toNat)
   case atStart=>exact⟨0,cur,rfl,ω,HC,hf.bl b0,hF.t (AB b0),nB⟩
   case round =>
    obtain⟨m,cur,rfl,hm,HC,HF,HFr,HB⟩:=hrel;by_cases hm4:m<4
    .have hmi:(m:Int)<4:=ω
     by_cases hn:4 * j+m<keep
     .have hni:¬((keep.length:Int)<=4 * (j:Int)+(m:Int)):=ω
      have⟨y,hy⟩:=nM (keep[4 * j+m]'hn);have hRw:=hR.on (HFr.on (λk hk=>hS k hk));rcases hRw with h0|⟨rb,off,rfl,hrb,hRc⟩
      .have:=BR List.length h0
       rw[AF,jN]at this;omega
      have hcell:=hRc _ _ (by rw[BM,jQ hn,hy];rfl);have htn:(4 * (j:Int)+(m:Int)).toNat=4 * j+m:=ω
      clear hRc hy;have hxl:x.1<cur:=by rw[HC.o.len];exact hp
      have hSr:=by have:=HF.safe;simp only[HC.o.len]at this;exact this
      have⟨sg,hsg,hsl,hsc,hsv⟩:=gU hSr (j:=x.1) (u:=.t cur[x.1]) (by simp[hxl]);subst hsg;have hxi:(x.1:Int)<(fs.safe.length:Int):=ω
      have⟨d0,d1,d2,d3,d4⟩:=cS HF.box;have⟨e0,e1⟩:wr.c bx 0=some (.i x.1)/\wr.c bx 1=some (.t x.2):=by simp[World.cell?,HB.o]
      have sfr:=JJ (w:=wr) hSr;have hS256:=HC.size _ hxl;have hD256:=hlz x HX;have⟨s,hs⟩:=nM (cur[x.1]);rw[hs]at hsv hS256;have HSS:Hid (cur[x.1]=s):=hs;clear hs;go_wp2
      .exact⟨⟨m+1,cur,ν,ω,HC,HF,HFr,HB⟩,θ⟩
      .go_region_held3 (λX=>X.c β 0=some (.q sg fs.safe sc)/\X.c bx 0=some (.i x.1)/\X.c bx 1=some (.t x.2)/\X.c sg x.1=some (.t s))
        ((first|exact⟨d0,e0,e1,hsv⟩))
        (fail)
       all_goals go_wp2
       have h64:(m:Int) * 256 / 4=((64 * m:Nat):Int):=ω
       have⟨f,hf64⟩:=nM (64 * m);have HF64:Hid (64 * m=f):=hf64;rw[h64,hf64];have hb0:(0:Int)<=(f:Int):=ω
       have hb1:(f:Int)<=(s.size:Int):=ω
       have hb2:(f:Int)<=(f:Int)+64:=ω
       have hb3:(f:Int)+64<=(x.2.size:Int):=ω
       have hb4:(f:Int)+64<=(s.size:Int):=ω
       have hb5:(0:Int)<=(f:Int)+64:=ω
       have HS256:Hid (s.size=256):=hS256;have HD256:Hid (x.2.size=256):=hD256;have nsb:sg≠β:=λe=>aQ hSr HF.box δ (by rw[e];rfl);have nsx:sg≠bx:=λe=>aQ hSr HB δ (by rw[e];rfl);have hq1:¬(9223372036854775807<min f s+(min (f+64) x.2-f)):=ω
       have hq2:¬(9223372036854775807<min f s+(min (f+64) x.2-f)+(s-(f+64))):=ω
       have hfn:((f:Int)+64).toNat=f+64:=ω
       clear hS256 hD256 hf64 h64;refine wp_region_held_drew (S:=(λX=>X.c β 0=some (.q sg fs.safe sc)/\X.c bx 0=some (.i x.1)/\X.c bx 1=some (.t x.2))) κ ⟨d0,e0,e1⟩ (λhHeld=>?_);change wpAnyH _ _ _ _ _ 21 (.replicate 21 false) _ _;apply cG.take [(0,60,.p β 0),(1,61,.p β 0),(2,62,.p β 0),(3,63,.q sg fs.safe sc),(4,64,.p bx 0),(5,65,.i x.1),(6,66,.t s),(7,67,.i f),(8,68,.t (s.extract 0 f)),(9,69,.p bx 1),(10,70,.t x.2),(11,71,.i f),(12,72,.i (f+64)),(13,73,.t (x.2.extract f (f+64))),(14,74,.t (s.extract 0 f++x.2.extract f (f+64))),(15,75,.t s),(16,76,.i (f+64)),(17,77,.t (s.extract (f+64) s)),(18,78,.t (s.extract 0 f++x.2.extract f (f+64)++s.extract (f+64) s)),(19,79,.p sg x.1)] (n:=1) κ ψ;iterate 20 (refine⟨_,rfl,rfl,κ,λ_ _ _ h=>h,τ,?_⟩;simp only[pS])
       rw[cG];refine wH1 (i:=20) κ rfl λK hK=>?_;go_simp;refine hK _ _ ⟨Ja nsb d0,Ja nsx e0,Ja nsx e1⟩ (λhHeld=>?_);clear hK K;refine wpAnyH_done κ ?_ _;all_goals go_wp2
       have hto:s.extract 0 f++x.2.extract f (f+64)++s.extract (f+64) s=Jw s x.2 m:=by rw[HS256.o,<-HF64.o];exact Xi s x.2 m HS256 HD256 hm4
       rw[hto];refine⟨⟨m+1,cur.set x.1 (Jw s x.2 m),ν,ω,?_,(HF.o.stored (p:=x.1) (data:=Jw s x.2 m) HC.o.len.symm).on (CM _ _).drew.drew,((HFr.setCell (p:=(aD sg x.1)) (.inl (.inr (.inl rfl))) _).drew).drew,(DI wr (aD sg x.1) _ bx (λe=>nsx e.symm)).t HB⟩,θ⟩;have:=HC.step HX HD256 hxl hm4;rw[HSS.o]at this;exact this
     .have hni:(keep.length:Int)<=4 * (j:Int)+(m:Int):=ω
      go_wp2;exact⟨⟨m+1,cur,ν,ω,HC,HF,HFr,HB⟩,θ⟩
    .obtain rfl:m=4:=ω
     go_wp2;exact⟨⟨j+1,cur,ν,ω,HC,HF,HFr⟩,θ⟩
  .obtain rfl:j=fs.late:=ω
   have b1:=aC hf.box 1 .n;have b2:=aC b1 2 (.i (-1));have b3:=aC b2 3 (.i (-1));have hfr:=aF hf.box;have F:Fr (Bl.one β) wr (((wr.setCell (aD β 1) .n).setCell (aD β 2) (.i (-1))).setCell (aD β 3) (.i (-1))):=(((AE (Bl.one β) wr).setCell (p:=(aD β 1)) (.inl rfl) _).setCell (p:=(aD β 2)) (.inl rfl) _).setCell (p:=(aD β 3)) (.inl rfl) _;have hne:=aQ hf.safe hf.box δ;have HFF:Hid (aA (((wr.setCell (aD β 1) .n).setCell (aD β 2) (.i (-1))).setCell (aD β 3) (.i (-1))) β (.s sa fs.safe sc) .n {fs with safe:=cur,late:=[],wait:=-1,life:=-1}):=
    ⟨by simpa using b3,aS hf.safe (F.on (Z:=λk=>Value.ownBlock _=some k) (λk hk=>⟨aL hf.safe hk,λe=>by cases e;exact hne hk⟩)) (λk hk=>hk),AO _ _ _ _,hf.small,σ⟩
   have HFr:Hid (Fr (fpF β (.s sa fs.safe sc) (.s la fs.late lc)) w (((wr.setCell (aD β 1) .n).setCell (aD β 2) (.i (-1))).setCell (aD β 3) (.i (-1)))):=hF.t (F.m (λk hk=>.inl (.inl hk)));clear b1 b2 b3 F hne hf hF;go_wp2;go_end0;exact⟨⟨_,rfl⟩,cur,HC,HFF,HFr⟩
