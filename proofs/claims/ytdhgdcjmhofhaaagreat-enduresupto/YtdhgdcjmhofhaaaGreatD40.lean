import Derived.Test.YtdhgdcjmhofhaaaGreatD39
set_option linter.all false
set_option maxRecDepth 100000
set_option maxHeartbeats 8000000
namespace Go.Proofs.YtdhgdcjmhofhaaaGreat.Tree
open Go.RowKit Pages
section
variable (D:Db) (x:Int) (i:Nat) (t:Tx) (w:World) (h:aO w 0 D) (hal:(D.fs.life==0)=true) (hr0:t.root≠0) (hn:D.ts.length<=1000) (hi:i<D.ts.length) (ht:D.ts[i]=t) (hx:gG D.ts x=i) (hr:cF t.cs) (hcs:t.cs.length<=1000000)
include h hal hr0 hn hi ht hx hr hcs
def qGu(key:ByteArray)(a8:1<=key.size)(a9:key.size<=24)(a7:fnd t.cs key=false):
  cL 17 #[.p D.d 0,.i x,.t key] w λe w'=>e=.r (.tuple #[.e,.i 9])/\aO w' 0 D/\Fr (Bl.one D.d) w w':=qKs D true x key 9 w h (by
  intro a k p F G H _;have v:t∈D.ts:=ht▸AA hi;have C:=gJ D 1 x i t a p (by omega) hi ht hx;have n:Hid (∀X,bW a X->aO X 1 D/\X.c k 0=some (.p D.d 0)/\X.cell? (aD (k+1) 0)=some (.i x)/\X.cell? (aD (k+1+1) 0)=some (.string key)/\X.c t.b 2=some (.p D.β 0)/\X.c t.b 3=some (.i t.root)/\X.c t.b 4=some (.slice t.ca t.cs.length t.cc)):=by
   intro X c;have f:=p.on (vV c p.lies);obtain⟨an,ao,z,A,B,ap⟩:=qA (f.each t v).box;exact⟨f,bJ ((c.block _ (gL F)).t F),bJ ((c.block _ (gL G)).t G),bJ ((c.block _ (gL H)).t H),z,A,B⟩
  obtain⟨_,M,V,W,z,A,B⟩:=n.o a (AC _ _);have y:∀X,cL 39 #[.string key] X λe w'=>e=.returned (.bool true)/\w'=X:=λX=>by
   have:=iD key X;rw[CU (LQ a8 a9)]at this;exact this
  have J:Hid (∀X,bW a X->cL 47 #[.agg #[.p D.β 0,.i t.root,.slice t.ca t.cs.length t.cc],.string key] X λe w'=>e=.panicked (kH 9)/\bW a w'):=λX c=>by
   have f:=(n.o X c).1;obtain⟨R,ad,s,N,u⟩:=bR (f.each t v).row;simp only[Tx.cv,AQ,CV]at s;obtain⟨Y,Z⟩:=s;subst Y Z;exact(Kg D.β D.sv D.lv D.fs hal t.root hr0 t.ca t.cc t.cs key (λg=>t.cv.ownBlock=some g) X f.file u (λg Q=>aK (f.each t v).row Q) hr hcs N a7 (by omega)).m λe w' ⟨s,m⟩=>⟨s,c.t (m.m c.size)⟩
  go_enter Tryz.func45,Tryz.ntmps45;go_wp2_with (first
   |(go_at_call 46;apply Calls.m C;rintro e o ⟨rfl,l⟩;obtain⟨ah,M,V,W,z,A,B⟩:=n.o o l;have E:=y o)
   |(go_at_call 39;apply Calls.m E;rintro e T ⟨rfl,aj⟩;subst T))
  have L:Hid (∀X,bW a X->X.cell? (aD (k+1+1) 0)=some (.string key)/\X.c t.b 2=some (.p D.β 0)/\X.c t.b 3=some (.i t.root)/\X.c t.b 4=some (.slice t.ca t.cs.length t.cc)):=λX c=>(n.o X c).2.2.2;refine cS (S:=λX=>X.cell? (aD (k+1+1) 0)=some (.string key)/\X.c t.b 2=some (.p D.β 0)/\X.c t.b 3=some (.i t.root)/\X.c t.b 4=some (.slice t.ca t.cs.length t.cc)) 10 (by kernel_rfl) ?_;have ai:=(show(λX:World=>X.cell? (aD (k+1+1) 0)=some (.string key)/\X.c t.b 2=some (.p D.β 0)/\X.c t.b 3=some (.i t.root)/\X.c t.b 4=some (.slice t.ca t.cs.length t.cc)) o.drew from L.o _ l.drew);refine tks [(0,.p t.b 0),(1,.p t.b 0),(2,.p t.b 2),(3,.agg #[.p D.β 0,.i t.root,.slice t.ca t.cs.length t.cc]),(4,.string key)] (by assumption) ?_;iterate 5 (refine⟨_,rfl,by kernel_rfl,λ_ _ _ h=>h,.inl ⟨by rfl,λw I=>by(try dsimp only at I);go_simp⟩,?_⟩;try simp only[pS])
  refine tke ?_;refine mO (i:=5) (j:=9) (by kernel_rfl) rfl rfl (λK r=>?_) (λK r=>?_)
  .go_simp
   go_at_call 47;refine Calls.m (J.o _ l.drew) ?_;rintro e U ⟨rfl,m⟩;exact⟨rfl,rfl,m⟩
  .go_simp
   have O:bW a (o.drew.alloc rU):=l.drew.alloc l.size _;refine r.out _ _ (λ_=>L.o _ O) ?_;try simp only[pS]
   refine aR (i:=5) (by kernel_rfl) rfl (λK r=>?_);go_simp;go_at_call 47;refine Calls.m (J.o _ O) ?_;rintro e U ⟨rfl,m⟩;exact⟨rfl,rfl,m⟩)
def Ru(a9:t.wr=true)(key:ByteArray)(a6:1<=key.size)(a7:key.size<=24)(a5:fnd t.cs key=false):
  cL 71 #[.p D.d 0,.i x,.t key] w λe w'=>e=.r (.i 9)/\aO w' 0 D/\Fr (Bl.one D.d) w w':=qKu D true x key 9 w h (by
  intro a o n E F G;have u:t∈D.ts:=ht▸AA hi;have B:=nY D 1 x i t a n (by omega) hi ht hx a9;have l:Hid (∀X,bW a X->aO X 1 D/\X.c o 0=some (.p D.d 0)/\X.cell? (aD (o+1) 0)=some (.i x)/\X.cell? (aD (o+1+1) 0)=some (.string key)/\X.c t.b 2=some (.p D.β 0)/\X.c t.b 3=some (.i t.root)/\X.c t.b 4=some (.slice t.ca t.cs.length t.cc)):=by
   intro X b;have d:=n.on (vV b n.lies);obtain⟨ah,ai,y,z,A,aj⟩:=qA (d.each t u).box;exact⟨d,bJ ((b.block _ (gL E)).t E),bJ ((b.block _ (gL F)).t F),bJ ((b.block _ (gL G)).t G),y,z,A⟩
  obtain⟨_,L,R,T,y,z,A⟩:=l.o a (AC _ _);have v:∀X,cL 39 #[.string key] X λe w'=>e=.returned (.bool true)/\w'=X:=λX=>by
   have:=iD key X;rw[CU (LQ a6 a7)]at this;exact this
  have I:Hid (∀X,bW a X->cL 47 #[.agg #[.p D.β 0,.i t.root,.slice t.ca t.cs.length t.cc],.string key] X λe w'=>e=.panicked (kH 9)/\bW a w'):=λX b=>by
   have d:=(l.o X b).1;obtain⟨W,Y,r,C,H⟩:=bR (d.each t u).row;simp only[Tx.cv,AQ,CV]at r;obtain⟨U,V⟩:=r;subst U V;exact(Kg D.β D.sv D.lv D.fs hal t.root hr0 t.ca t.cc t.cs key (λf=>t.cv.ownBlock=some f) X d.file H (λf O=>aK (d.each t u).row O) hr hcs C a5 (by omega)).m λe w' ⟨r,k⟩=>⟨r,b.t (k.m b.size)⟩
  go_enter Tryz.func107,Tryz.ntmps107;go_wp2_with (first
   |(go_at_call 38;apply Calls.m B;rintro e m ⟨rfl,g⟩;obtain⟨ad,L,R,T,y,z,A⟩:=l.o m g;have M:=v m)
   |(go_at_call 39;apply Calls.m M;rintro e P ⟨rfl,Z⟩;subst P))
  have J:Hid (∀X,bW a X->X.cell? (aD (o+1+1) 0)=some (.string key)/\X.c t.b 2=some (.p D.β 0)/\X.c t.b 3=some (.i t.root)/\X.c t.b 4=some (.slice t.ca t.cs.length t.cc)):=λX b=>(l.o X b).2.2.2;refine cS (S:=λX=>X.cell? (aD (o+1+1) 0)=some (.string key)/\X.c t.b 2=some (.p D.β 0)/\X.c t.b 3=some (.i t.root)/\X.c t.b 4=some (.slice t.ca t.cs.length t.cc)) 10 (by kernel_rfl) ?_;have ae:=(show(λX:World=>X.cell? (aD (o+1+1) 0)=some (.string key)/\X.c t.b 2=some (.p D.β 0)/\X.c t.b 3=some (.i t.root)/\X.c t.b 4=some (.slice t.ca t.cs.length t.cc)) m.drew from J.o _ g.drew);refine tks [(0,.p t.b 0),(1,.p t.b 0),(2,.p t.b 2),(3,.agg #[.p D.β 0,.i t.root,.slice t.ca t.cs.length t.cc]),(4,.string key)] (by assumption) ?_;iterate 5 (refine⟨_,rfl,by kernel_rfl,λ_ _ _ h=>h,.inl ⟨by rfl,λw s=>by(try dsimp only at s);go_simp⟩,?_⟩;try simp only[pS])
  refine tke ?_;refine mO (i:=5) (j:=9) (by kernel_rfl) rfl rfl (λK p=>?_) (λK p=>?_)
  .go_simp
   go_at_call 47;refine Calls.m (I.o _ g.drew) ?_;rintro e Q ⟨rfl,k⟩;exact⟨rfl,rfl,k⟩
  .go_simp
   have N:bW a (m.drew.alloc rU):=g.drew.alloc g.size _;refine p.out _ _ (λ_=>J.o _ N) ?_;try simp only[pS]
   refine aR (i:=5) (by kernel_rfl) rfl (λK p=>?_);go_simp;go_at_call 47;refine Calls.m (I.o _ N) ?_;rintro e Q ⟨rfl,k⟩;exact⟨rfl,rfl,k⟩)
def qAd(q:Sp)(most:Nat)(a7:q.lo.size<=24)(a4:q.hi.size<=24)(S:most≠0):
  cL 61 #[.p D.d 0,.i x,.t q.lo,.t q.hi,.i (most:Nat)] w λe w'=>e=.r (.tuple #[.n,.i 9])/\aO w' 0 D/\Fr (Bl.one D.d) w w':=qEk D true x q.lo q.hi most 9 w h (by
  intro c a k H I u v y _;have R:t∈D.ts:=ht▸AA hi;have A:Hid (∀X,bW c X->aO X 1 D/\X.cell? (aD (a+1+1) 0)=some (.string q.lo)/\X.cell? (aD (a+1+1+1) 0)=some (.string q.hi)/\X.cell? (aD (a+1+1+1+1) 0)=some (.i (most:Nat))):=λX b=>⟨k.on (vV b k.lies),bJ ((b.block _ (gL u)).t u),bJ ((b.block _ (gL v)).t v),bJ ((b.block _ (gL y)).t y)⟩;have J:Hid (∀X,bW c X->cL 105 #[.p t.b 0,.string q.lo,.string q.hi,.i (most:Nat)] X λe w'=>e=.panicked (kH 9)/\bW c w'):=λX b=>by
   have E:=(A X b).1;exact(Wm D.β D.sv D.lv D.fs hal t hr0 q most X E.file (E.each t R) hr hcs S).m λe w' ⟨Q,m⟩=>⟨Q,b.t (m.m b.size)⟩
  have L:=bJ H;have U:=bJ I;have o:(q.lo.size:Int)<=24:=by omega
  have f:(q.hi.size:Int)<=24:=by omega
  have l:(0:Int)<=(most:Int):=by omega
  go_enter Tryz.func104,Tryz.ntmps104;go_wp2_with (first
   |(go_at_call 46;apply Calls.m (gJ D 1 x i t c k (by omega) hi ht hx);rintro e B ⟨rfl,G⟩;have⟨g,Y,Z,j⟩:=A B G;have N:=J B G)
   |(go_at_call 105;apply Calls.m N;rintro e T ⟨rfl,m⟩))
  exact⟨rfl,rfl,m⟩)
end
structure LkT (fs:Fs) (t:Tx) (ot:Option (Nat×T)) (r:RT):Prop where
 num:t.num=r.num
 wr:t.wr=r.wr
 tr:Tr [] fs ot
 root:t.root=rootOf ot
 bg:kvB (aU ot)=r.bg
 cs:t.cs=r.ch.foldl dG []
 good:∀c∈r.ch,c.good
 l:r.ch.foldl dP r.bg=r.l
 ro:t.wr=false->r.ch=[]
 lost:t.wr=true->∀y,y∈t.ks↔y∈r.oth
def Db.sm(D D':Db):Prop:=D'.d=D.d/\D'.β=D.β/\D'.fs=D.fs/\D'.failed=D.failed
def Db.sm_rfl{D:Db}:D.sm D:=⟨rfl,rfl,rfl,rfl⟩
def Let{a:Type}(fs:Fs)(z:Int)(x y c:a):Prop:=y=x\/(y=c/\fs.life=0/\z≠3/\z≠1)
structure Lk (n B:Nat) (w:World) (D:Db) (v:Nat) (o ao:Option (Nat×T)) (ots:List (Option (Nat×T))) (M:RM):Prop where
 db:aO w 0 D
 well:D.fs.dy
 failed:D.failed=false->fA [] n D.fs v o ao
 ver:D.ver=v
 root:D.root=rootOf o
 aroot:D.aroot=rootOf ao
 store:View n D.fs v o ao
 nv:M.nv=v
 last:D.last=M.last
 last0:0<=M.last
 last1:M.last<=B
 vB:v<=B
 now:kvB (aU o)=M.now
 ah:kvB (aU ao)=M.ah\/ao=o
 len:D.ts.length=M.ts.length
 leno:ots.length=M.ts.length
 n8:M.ts.length<=8
 each:∀i (h:i<M.ts.length),LkT D.fs (D.ts[i]'(by omega)) (ots[i]'(by omega)) M.ts[i]
 rise:M.ts.Pairwise (λa b=>a.num<b.num)
 le:∀t∈M.ts,t.num<=M.last
 few:∃C,M.now.length<=C/\M.ah.length<=C/\(∀t∈M.ts,t.bg.length<=C/\t.oth.length<=C)/\C+tot (λt:RT=>t.ch.length) M.ts<=B
def Bj{c β:Type}(f:c->Int)(g x):∀(l:List c) (m:List β),l.map f=m.map g->l.findIdx? (λt=>f t==x)=m.findIdx? (λt=>g t==x)
 |[],[],_=>rfl
 |[],_ :: _,h=>by simp at h
 |_ :: _,[],h=>by simp at h
 |a :: l,b :: m,h=>by
  simp only[BH,GM]at h;rw[List.findIdx?_cons,List.findIdx?_cons,h.1,Bj f g x l m h.2]
section
variable {n B:Nat}{w:World}{D:Db}{v:Nat}{o ao:Option (Nat×T)}{ots:List (Option (Nat×T))}{M:RM}
def Lk.idx(h:Lk n B w D v o ao ots M)(x):gG D.ts x=sP M.ts x:=by
 have c:D.ts.map (·.num)=M.ts.map (·.num):=by
  refine GB (by simp[h.len]) (λe d b=>?_);simp only[AF]at d b;simp only[EJ];exact(h.each e b).num
 unfold gG sP;rw[Bj (λa:Tx=>a.num) (λa:RT=>a.num) x D.ts M.ts c];cases M.ts.findIdx? (λa=>a.num==x)<;>rfl
def LkT.rise{fs t i}{e:RT}(h:LkT fs t i e):cQ (aU i)/\cF t.cs/\kvB (bF (aU i) t.cs)=e.l/\cQ (bF (aU i) t.cs)/\(∀c∈t.cs,c.good)/\t.cs.length<=e.ch.length:=by
 have f:=eL h.tr.rooted;have⟨g,j⟩:=qH f e.ch (cs:=[]) EC;rw[<-h.cs]at g j;rw[nP f,h.bg,h.l]at g;refine⟨f,j,g,vL f j,?_,?_⟩
 .rw[h.cs]
  have:∀(b a:List Ch),cF a->(∀c∈b,c.good)->(∀c∈a,c.good)->∀c∈b.foldl dG a,c.good:=λb=>by
   induction b with
   |nil=>simp
   |cons d b ih=>intro a k l n;exact ih (dG a d) (nI k d) (λc m=>l c (by simp[m])) (qDq k n (l d (by simp)))
  exact this e.ch [] EC h.good (by simp)
 .rw[h.cs]
  have:∀(b a:List Ch),cF a->(b.foldl dG a).length<=a.length+b.length:=λb=>by
   induction b with
   |nil=>simp
   |cons d b ih =>
    intro a k;have f:=ih (dG a d) (nI k d);have g:=(qDo k d).1;grind
  have:=this e.ch [] EC;grind
def Lb{b}(f):∀{l:List b}{x:b},x∈l->f x<=tot f l
 |y :: l,x,a=>by
  rw[cK];rcases AS.1 a with rfl|a
  .omega
  .have:=Lb f a;omega
def Lk.bounds(h:Lk n B w D v o ao ots M):M.now.length<=B/\M.ah.length<=B/\∀t∈M.ts,t.bg.length<=B/\t.l.length<=B/\t.ch.length<=B/\t.oth.length<=B:=by
 have⟨f,g,i,c,j⟩:=h.few;refine⟨by omega,by omega,λt a=>?_⟩;have k:=Lb (λt:RT=>t.ch.length) a;obtain⟨b,e,rfl⟩:=AV a;have d:=qR (M.ts[b]).ch (M.ts[b]).bg;rw[(h.each b e).l]at d;grind
def Lk.hit(h:Lk n B w D v o ao ots M){x j}{f:RT}(d:cD M.ts x (some (j,f))):∃(a:j<D.ts.length) (e:Option (Nat×T)),LkT D.fs D.ts[j] e f/\gG D.ts x=j/\f∈M.ts:=by
 have⟨b,c⟩:=d;obtain⟨a,rfl⟩:=AD.1 b;exact⟨by rw[h.len];exact a,_,h.each j a,by rw[h.idx,c],AA a⟩
def Lk.miss(h:Lk n B w D v o ao ots M){x}(a:cD M.ts x none):gG D.ts x = -1:=by rw[h.idx];exact a
def LkT.dead{fs:Fs}{t:Tx}{i:Option (Nat×T)}{a:RT}(h:LkT fs t i a)(j:i≠none):t.root≠0:=by
 cases i with
 |none=>exact absurd rfl j
 |some x=>rw[h.root];exact DL h.tr.rooted.1
def Vz(h:Lk n B w D v o ao ots M)(F:B<=1000000)(x key r)(m:cD M.ts x r):∃f,Let D.fs (eO r key).2 (eO r key) f (⟨#[]⟩,9)/\
  cL 17 #[.p D.d 0,.i x,.t key] w λe w'=>e=.r (.tuple #[.t f.1,.i f.2])/\aO w' 0 D/\Fr (Bl.one D.d) w w':=by
 have J:=h.len;have C:=h.n8;cases r with
 |none=>exact⟨_,.inl rfl,Ze D x key (.pointer none) 3 3 w h.db (λX g=>pC D 1 x X g (by omega) (h.miss m)) (.inl ⟨by decide,rfl⟩)⟩
 |some p =>
  have⟨a,r⟩:=p;have⟨l,i,d,k,s⟩:=h.hit m;have⟨H,u,y,z,f,I⟩:=d.rise;have G:=(h.bounds.2.2 r s).2.2.1;by_cases hk:1<=key.size/\key.size<=24
  .by_cases hq:fnd D.ts[a].cs key=false->i≠none->(D.fs.life==0)=false
   .refine⟨_,.inl rfl,(qJv D x a D.ts[a] i key w h.db hq (by rw[d.root];exact d.tr.rooted) d.tr.flat (by omega) l rfl k u f (by omega) hk.1 hk.2).m ?_⟩
    rintro e w' ⟨L,K,rfl,b,c,q⟩;have A:=Xw z key;rw[y]at A;simp only[eO];rw[AU hk,A];rcases q with⟨j,rfl,rfl⟩|⟨t,j,rfl,rfl⟩
    .rw[show valOf (bF (aU i) D.ts[a].cs) key=none from j];grind
    .rw[show valOf (bF (aU i) D.ts[a].cs) key=some t from j];grind
   .have⟨E,O,N⟩:fnd D.ts[a].cs key=false/\i≠none/\(D.fs.life==0)=true:=by grind
    refine⟨(⟨#[]⟩,9),.inr ⟨rfl,by simpa using N,?_⟩,qGu D x a D.ts[a] w h.db N (d.dead O) (by omega) l rfl k u (by omega) key hk.1 hk.2 E⟩;simp only[eO];rw[AU hk];cases rF r.l key<;>simp
  .refine⟨_,.inl rfl,(Ze D x key (.p ((D.ts[a]).b) 0) 0 1 w h.db (λX g=>gJ D 1 x a D.ts[a] X g (by omega) l rfl k) (.inr ⟨rfl,rfl,hk⟩)).m ?_⟩
   rintro e w' ⟨rfl,b,c⟩;simp only[eO];grind
end
def Yc{b}(f):∀(l:List b) (j:Nat) (h:j<l.length) (a:b),tot f (l.set j a)+f l[j]=tot f l+f a
 |x :: l,0,_,a=>by simp only[jZ,cK,CX];omega
 |x :: l,j+1,h,a=>by
  have:=Yc f l j (by grind) a;simp only[jX,cK,DI];omega
section
variable {n B:Nat}{w:World}{D:Db}{v:Nat}{o ao:Option (Nat×T)}{ots:List (Option (Nat×T))}{M:RM}
def Lk.change(h:Lk n B w D v o ao ots M){x j r}(P:cD M.ts x (some (j,r)))(N:j<D.ts.length)(Q:r.wr=true)(c)(K:c.good){w':World}{u:Option Addr}{y:Nat}(I:aO w' 0 {D with ts:=D.ts.set j {D.ts[j] with cs:=dG (D.ts[j]).cs c,ca:=u,cc:=y}})(s t):
  Lk n (B+1) w' {D with ts:=D.ts.set j {D.ts[j] with cs:=dG (D.ts[j]).cs c,ca:=u,cc:=y}} v o ao ots {M with ts:=M.ts.set j (r.changed c s t)}:=by
 have⟨H,T⟩:=P;obtain⟨m,rfl⟩:=AD.1 H;have e:=h.each j m;have⟨l,F,G,z,S⟩:=h.few;refine⟨I,h.well,h.failed,h.ver,h.root,h.aroot,h.store,h.nv,h.last,h.last0,by have:=h.last1;grind,by have:=h.vB;omega,h.now,h.ah,by simp[h.len],by simp[h.leno],by simp;exact h.n8,λp E=>?_,?_,λi g=>?_,l,F,G,λi g=>?_,?_⟩
 .simp only[CL]at E
  show LkT D.fs ((D.ts.set j _)[p]'_) _ ((M.ts.set j _)[p]'_)
  simp only[DN];by_cases f:j=p
  .subst f
   simp only[MA];refine⟨e.num,e.wr,e.tr,e.root,e.bg,?_,?_,?_,λL=>?_,e.lost⟩
   .show dG _ c=(M.ts[j].ch++[c]).foldl dG []
    rw[GV,<-e.cs];rfl
   .intro d k
    rcases AO.1 k with k|k
    .exact e.good d k
    grind
   .show(M.ts[j].ch++[c]).foldl dP M.ts[j].bg=dP M.ts[j].l c
    rw[GV,e.l];rfl
   .have:=L
    rw[e.wr,Q]at this;cases this
  .simp only[f,KS]
   exact h.each p E
 .refine BD.2 (λa b A C J=>?_)
  simp only[CL]at A C;have q:=BD.1 h.rise a b A C J;simp only[DN];split
  .next f=>subst f;rw[AR (by omega)];exact q
  .split
   .next f=>subst f;exact q
   .exact q
 .rcases EI g with g|rfl
  .exact h.le i g
  .show(M.ts[j]).num<=M.last
   exact h.le _ (AA m)
 .rcases EI g with g|rfl
  .exact z i g
  .show(M.ts[j]).bg.length<=l/\(M.ts[j]).oth.length<=l
   grind
 .have f:=Yc (λi:RT=>i.ch.length) M.ts j m ((M.ts[j]).changed c s t)
  have R:((M.ts[j]).changed c s t).ch.length=(M.ts[j]).ch.length+1:=by show(M.ts[j].ch++[c]).length=_;simp
  grind
def Lk.more(h:Lk n B w D v o ao ots M){w'}(e:aO w' 0 D){B'}(g:B<=B'):Lk n B' w' D v o ao ots M:=by
 have⟨a,b,c,d,f⟩:=h.few;exact{h with db:=e,last1:=by have:=h.last1;omega,vB:=by have:=h.vB;omega,few:=⟨a,b,c,d,by omega⟩}
def Qg{k}(h:1<=k.size):lt ⟨#[]⟩ k=true:=by
 cases hq:lt ⟨#[]⟩ k with
 |true=>rfl
 |false =>
  have:=lE (Vb k) hq;rw[this]at h;simp[ByteArray.size]at h
def qFb(h:Lk n B w D v o ao ots M)(G:B<=900000)(x key a r)(q:cD M.ts x r):
  cL 13 #[.p D.d 0,.i x,.t key,.t a] w λe w'=>e=.r (.i (mG r key a))/\∃D',D.sm D'/\Fr (fpD D) w w'/\aJ w (fpD D) (fpD D')/\((mG r key a≠0/\Lk n (B+1) w' D' v o ao ots M)\/∃j t,r=some (j,t)/\t.wr=true/\(1<=key.size/\key.size<=24)/\a.size<=400/\mG r key a=0/\∀s u,Lk n (B+1) w' D' v o ao ots {M with ts:=M.ts.set j (t.changed ⟨key,a,false⟩ s u)}):=by
 have I:=h.len;have F:=h.n8;have l:∀{w':World},Fr (Bl.one D.d) w w'->Fr (fpD D) w w':=λc=>c.m (λJ b=>.inl (.inl b));cases r with
 |none =>
  have f:mG none key a=3:=by rfl
  rw[f];apply(Lq D x key a (.pointer none) 3 3 w h.db (λX g=>Ad D 1 x X g (by omega) (h.miss q)) (.inl ⟨by decide,rfl⟩)).m;rintro e w' ⟨rfl,d,c⟩;exact⟨rfl,D,⟨rfl,rfl,rfl,rfl⟩,l c,CR _ _,.inl ⟨by decide,h.more d (by omega)⟩⟩
 |some p =>
  have⟨j,r⟩:=p;have⟨k,K,i,m,C⟩:=h.hit q;have⟨L,E,N,O,P,Q⟩:=i.rise;have H:=(h.bounds.2.2 r C).2.2.1;cases hw:r.wr with
  |false =>
   have f:mG (some (j,r)) key a=4:=by simp[mG,bU,hw]
   rw[f];apply(Lq D x key a (.pointer none) 4 4 w h.db (λX g=>Ac D 1 x j D.ts[j] X g (by omega) k rfl m (by rw[i.wr];exact hw)) (.inl ⟨by decide,rfl⟩)).m;rintro e w' ⟨rfl,d,c⟩;exact⟨rfl,D,⟨rfl,rfl,rfl,rfl⟩,l c,CR _ _,.inl ⟨by decide,h.more d (by omega)⟩⟩
  |true =>
   by_cases b:(1<=key.size/\key.size<=24)/\a.size<=400
   .have f:mG (some (j,r)) key a=0:=by simp only[mG,bU,hw];rw[AR (by simp),AU b]
    rw[f];apply(qIz D x j D.ts[j] key a w h.db (by omega) k rfl m (by rw[i.wr];exact hw) E (by omega) b.1.1 b.1.2 b.2).m;rintro e w' ⟨rfl,y,A,d,c,z⟩;exact⟨rfl,{D with ts:=D.ts.set j {D.ts[j] with cs:=dG (D.ts[j]).cs ⟨key,a,false⟩,ca:=y,cc:=A}},⟨rfl,rfl,rfl,rfl⟩,c,z,.inr ⟨j,r,rfl,hw,b.1,b.2,rfl,λs u=>h.change q k hw ⟨key,a,false⟩ ⟨Qg b.1.1,b.1.2,b.2⟩ d s u⟩⟩
   .have f:mG (some (j,r)) key a=1:=by simp only[mG,bU,hw];rw[AR (by simp),AR b]
    rw[f];apply(Lq D x key a (.p ((D.ts[j]).b) 0) 0 1 w h.db (λX g=>nY D 1 x j D.ts[j] X g (by omega) k rfl m (by rw[i.wr];exact hw)) (.inr ⟨rfl,rfl,b⟩)).m;rintro e w' ⟨rfl,d,c⟩;exact⟨rfl,D,⟨rfl,rfl,rfl,rfl⟩,l c,CR _ _,.inl ⟨by decide,h.more d (by omega)⟩⟩
end
def qCn{fs root o cs key}(p:bQ fs root o)(m:pM o)(n:cF cs)(k:∀c∈cs,c.good):(kI o cs key=false/\sB o cs key=none)\/(kI o cs key=true/\∃l,sB o cs key=some l):=by
 have⟨d,g,h⟩:∃d:Ent,(fnd cs key=true->∀c,cs[dH cs key]?=some c->d=(chE c).e)/\(fnd cs key=false->∀b e,cU (oP key) o=b :: e->d=b.e):=by
  cases hq:fnd cs key with
  |true =>
   cases hs:cs[dH cs key]? with
   |none=>exact⟨⟨⟨#[]⟩,⟨#[]⟩,0,0⟩,(λ_ c a=>by cases a),(λa=>by cases a)⟩
   |some c=>simp
  |false =>
   cases hs:cU (oP key) o with
   |nil=>exact⟨⟨⟨#[]⟩,⟨#[]⟩,0,0⟩,(λa=>by cases a),(λ_ b e a=>by cases a)⟩
   |cons b e=>simp
 rcases Kf p m n k g h with a|⟨X,_,_,i,f⟩
 .grind
 grind
section
variable {n B:Nat}{w:World}{D:Db}{v:Nat}{o ao:Option (Nat×T)}{ots:List (Option (Nat×T))}{M:RM}
def qLr(h:Lk n B w D v o ao ots M)(U:B<=900000)(x key r)(C:cD M.ts x r):∃z,(z=iF r key\/(z=9/\D.fs.life=0/\pD r key=0))/\
  cL 71 #[.p D.d 0,.i x,.t key] w λe w'=>e=.r (.i z)/\∃D',D.sm D'/\Fr (fpD D) w w'/\aJ w (fpD D) (fpD D')/\((z≠0/\Lk n (B+1) w' D' v o ao ots M)\/∃j t S,r=some (j,t)/\t.wr=true/\(1<=key.size/\key.size<=24)/\rF t.l key=some S/\iF r key=0/\z=0/\∀E F,Lk n (B+1) w' D' v o ao ots {M with ts:=M.ts.set j (t.changed ⟨key,⟨#[]⟩,true⟩ E F)}):=by
 have Y:=h.len;have T:=h.n8;have u:∀{w':World},Fr (Bl.one D.d) w w'->Fr (fpD D) w w':=λb=>b.m (λZ a=>.inl (.inl a));cases r with
 |none =>
  have c:iF none key=3:=by rfl
  refine⟨_,.inl rfl,?_⟩;rw[c];apply(wA D x key (.pointer none) 3 3 w h.db (λX k=>Ad D 1 x X k (by omega) (h.miss C)) (.inl ⟨by decide,rfl⟩)).m;rintro e w' ⟨rfl,d,b⟩;exact⟨rfl,D,⟨rfl,rfl,rfl,rfl⟩,u b,CR _ _,.inl ⟨by decide,h.more d (by omega)⟩⟩
 |some p =>
  have⟨j,r⟩:=p;have⟨l,m,f,A,N⟩:=h.hit C;have⟨a0,J,P,Q,R,a1⟩:=f.rise;have W:=(h.bounds.2.2 r N).2.2.1;cases hw:r.wr with
  |false =>
   have c:iF (some (j,r)) key=4:=by simp[iF,bU,hw]
   refine⟨_,.inl rfl,?_⟩;rw[c];apply(wA D x key (.pointer none) 4 4 w h.db (λX k=>Ac D 1 x j D.ts[j] X k (by omega) l rfl A (by rw[f.wr];exact hw)) (.inl ⟨by decide,rfl⟩)).m;rintro e w' ⟨rfl,d,b⟩;exact⟨rfl,D,⟨rfl,rfl,rfl,rfl⟩,u b,CR _ _,.inl ⟨by decide,h.more d (by omega)⟩⟩
  |true =>
   have y:iF (some (j,r)) key=(eO (some (j,r)) key).2:=by simp[iF,bU,hw]
   by_cases a:1<=key.size/\key.size<=24
   .have g:=Xw Q key
    rw[P]at g;have I:bQ D.fs (D.ts[j]).root m:=by rw[f.root];exact f.tr.rooted
    by_cases hq:fnd D.ts[j].cs key=false->m≠none->(D.fs.life==0)=false
    case neg=>
     have⟨q1,q2,q3⟩:fnd D.ts[j].cs key=false/\m≠none/\(D.fs.life==0)=true:=by grind
     refine⟨9,.inr ⟨rfl,by simpa using q3,by simp[pD,bU,hw,a]⟩,(Ru D x j D.ts[j] w h.db q3 (f.dead q2) (by omega) l rfl A J (by omega) (by rw[f.wr];exact hw) key a.1 a.2 q1).m ?_⟩;rintro e w' ⟨rfl,d,b⟩;exact⟨rfl,D,⟨rfl,rfl,rfl,rfl⟩,u b,CR _ _,.inl ⟨by decide,h.more d (by omega)⟩⟩
    refine⟨_,.inl rfl,?_⟩;apply(Wu D x j D.ts[j] m key w h.db hq I (by omega) l rfl A (by rw[f.wr];exact hw) J (by omega) a.1 a.2).m;rintro e w' ⟨z,D',rfl,d,V,b,G,H⟩;rcases qCn (key:=key) I f.tr.flat J R with⟨q,s⟩|⟨q,O,s⟩
    .rw[show valOf (bF (aU m) D.ts[j].cs) key=none from s]at g
     have c:iF (some (j,r)) key=5:=by rw[y];simp only[eO];grind
     rw[c];rcases H with⟨i,_⟩|⟨_,rfl,rfl⟩
     .grind
     .exact⟨rfl,D',⟨rfl,rfl,rfl,rfl⟩,b,G,.inl ⟨by decide,h.more d (by omega)⟩⟩
    .rw[show valOf (bF (aU m) D.ts[j].cs) key=some O from s]at g
     have c:iF (some (j,r)) key=0:=by rw[y];simp only[eO];grind
     rw[c];rcases H with⟨_,rfl,K,L,rfl⟩|⟨i,_⟩
     .exact⟨rfl,{D with ts:=D.ts.set j {D.ts[j] with cs:=dG (D.ts[j]).cs ⟨key,⟨#[]⟩,true⟩,ca:=K,cc:=L}},⟨rfl,rfl,rfl,rfl⟩,b,G,.inr ⟨j,r,_,rfl,hw,a,g,rfl,rfl,λE F=>h.change C l hw ⟨key,⟨#[]⟩,true⟩ ⟨Qg a.1,a.2,by simp[ByteArray.size]⟩ d E F⟩⟩
     grind
   .have c:iF (some (j,r)) key=1:=by rw[y];simp only[eO];rw[AR a]
    refine⟨_,.inl rfl,?_⟩;rw[c];apply(wA D x key (.p ((D.ts[j]).b) 0) 0 1 w h.db (λX k=>nY D 1 x j D.ts[j] X k (by omega) l rfl A (by rw[f.wr];exact hw)) (.inr ⟨rfl,rfl,a⟩)).m;rintro e w' ⟨rfl,d,b⟩;exact⟨rfl,D,⟨rfl,rfl,rfl,rfl⟩,u b,CR _ _,.inl ⟨by decide,h.more d (by omega)⟩⟩
def qAb{fs root o}(a:bQ fs root o){cs}(b:cF cs)(q):lM o cs q=(bF (aU o) cs).filter (λx=>q.has x.e.key):=by
 unfold lM;rw[vM a,Wr (eL a) b]
def Lj(h:Lk n B w D v o ao ots M)(T:B<=900000)(x lo hi most)(Q:most<=9223372036854775807)(r)(t:cD M.ts x r):∃j,Let D.fs (cZ r lo hi most).2 (cZ r lo hi most) j ([],9)/\
  ∀W,aO W 0 D->cL 61 #[.p D.d 0,.i x,.t lo,.t hi,.i most] W λe w'=>∃vl,e=.r (.tuple #[vl,.i j.2])/\aO w' 0 D/\Fr (Bl.one D.d) W w'/\w'.ownsRow 0 71 2 vl j.1.length (aI j.1)/\nW vl W:=by
 have P:=h.len;have L:=h.n8;cases r with
 |none =>
  refine⟨_,.inl rfl,λW f=>?_⟩;apply(Nv D x lo hi most (.pointer none) 3 3 W f (λX l=>pC D 1 x X l (by omega) (h.miss t)) (.inl ⟨by decide,rfl⟩)).m;rintro e w' ⟨rfl,k,g⟩;exact⟨_,rfl,k,g,AL _ _ _ _,λy b=>by simp[Value.ownBlock]at b⟩
 |some p =>
  have⟨a,r⟩:=p;have⟨s,d,i,q,H⟩:=h.hit t;have⟨R,z,j,I,J,S⟩:=i.rise;have U:=h.bounds.2.2 r H;by_cases b:lo.size<=24/\hi.size<=24/\0<=most
  .obtain⟨c,rfl⟩:∃c:Nat,most=c:=⟨most.toNat,by omega⟩
   have A:bQ D.fs (D.ts[a]).root d:=by rw[i.root];exact i.tr.rooted
   have m:=qAb A z ⟨lo,hi⟩;have E:(lM d (D.ts[a]).cs ⟨lo,hi⟩).length<=1000000:=by
    rw[m];have K:=KN (λx:En=>(⟨lo,hi⟩:Sp).has x.e.key) (bF (aU d) (D.ts[a]).cs);have N:=pH (bF (aU d) (D.ts[a]).cs);grind
   by_cases hq:c≠0->d≠none->(D.fs.life==0)=false
   case neg=>
    have⟨F,Y,V⟩:c≠0/\d≠none/\(D.fs.life==0)=true:=by grind
    refine⟨([],9),.inr ⟨rfl,by simpa using V,by simp[cZ,b.1,b.2.1]⟩,λW f=>(qAd D x a D.ts[a] W f V (i.dead Y) (by omega) s rfl q z (by omega) ⟨lo,hi⟩ c b.1 b.2.1 F).m ?_⟩;rintro e w' ⟨rfl,k,g⟩;exact⟨_,rfl,k,g,AL _ _ _ _,λy b=>by simp[Value.ownBlock]at b⟩
   refine⟨_,.inl rfl,λW f=>?_⟩;apply(qEm D x a D.ts[a] d ⟨lo,hi⟩ c W f hq A i.tr.flat (by omega) s rfl q z J (by omega) b.1 b.2.1 E (by omega)).m;rintro e w' ⟨vl,rfl,k,g,G,O⟩;have u:(cZ (some (a,r)) lo hi (c:Int))=(sC r.l lo hi c,0):=by simp only[cZ];grind
   rw[u];have C:kvB ((lM d (D.ts[a]).cs ⟨lo,hi⟩).take c)=sC r.l lo hi c:=by rw[m,qIx I,j]
   rw[<-Pz,<-pH,C]at G;grind
  .refine⟨_,.inl rfl,λW f=>?_⟩;apply(Nv D x lo hi most (.p ((D.ts[a]).b) 0) 0 1 W f (λX l=>gJ D 1 x a D.ts[a] X l (by omega) s rfl q) (.inr ⟨rfl,rfl,b⟩)).m
   rintro e w' ⟨rfl,k,g⟩;have u:cZ (some (a,r)) lo hi most=([],1):=by simp only[cZ];rw[AR b]
   rw[u];exact⟨_,rfl,k,g,AL _ _ _ _,λy b=>by simp[Value.ownBlock]at b⟩
end
def tX{a}(f):∀(l:List a) (j:Nat) (h:j<l.length),tot f (l.eraseIdx j)+f l[j]=tot f l
 |x :: l,0,_=>by simp only[List.eraseIdx_cons_zero,cK,CX];omega
 |x :: l,j+1,h=>by
  have:=tX f l j (by grind);simp only[List.eraseIdx_cons_succ,cK,DI];omega
section
variable {n B:Nat}{w:World}{D:Db}{v:Nat}{o ao:Option (Nat×T)}{ots:List (Option (Nat×T))}{M:RM}
def Hb(h:Lk n B w D v o ao ots M)(O:B<=900000)(i)(R:M.ts.length<8):
  cL 12 #[.p D.d 0,.bool i] w λe w'=>e=.r (.tuple #[.i (M.last+1),.i 0])/\∃D',D.sm D'/\Fr (fpD D) w w'/\aJ w (fpD D) (fpD D')/\∀u l,Lk n (B+1) w' D' v o ao (ots++[o]) {M with last:=M.last+1,ov:=u,ts:=M.ts++[M.begun (M.last+1) i l]}:=by
 have r:=h.len;have s:=h.leno;have C:=h.last0;have N:=h.last1;obtain⟨m,p,I,J,L⟩:=h.few;refine(qDf D i w h.db (by omega) (by rw[h.last];exact C) (by rw[h.last];omega)).m ?_;rintro e w' ⟨rfl,b,K,z,A,P,F⟩;refine⟨by rw[h.last],{D with last:=D.last+1,ov:=K,ts:=D.ts++[Eo b (D.last+1) i D.root]},⟨rfl,rfl,rfl,rfl⟩,A,?_,λu l=>⟨z,h.well,h.failed,h.ver,h.root,h.aroot,h.store,h.nv,by show D.last+1=M.last+1;rw[h.last],by show 0<=M.last+1;omega,by show M.last+1<=((B+1:Nat):Int);omega,by have:=h.vB;omega,h.now,h.ah,by simp[r],by simp[s],by simp;omega,λk H=>?_,?_,λg d=>?_,m,p,I,λg d=>?_,?_⟩⟩
 .rintro G (f|f|f|⟨x,j,f⟩)
  .exact .inl (.inl f)
  .exact .inl (.inr (.inl f))
  .exact(F G f).imp (λy=>.inr (.inr (.inl y))) id
  .rcases AO.1 j with j|j
   .exact .inl (.inr (.inr (.inr ⟨x,j,f⟩)))
   .rw[AJ]at j
    subst j;have:=Em f;exact .inr (by omega)
 .simp only[jK,AM]at H
  rcases BR k M.ts.length with t|Q
  .rw[GK (by omega),GK (by omega),GK t]
   exact h.each k t
  .obtain rfl:k=M.ts.length:=by omega
   rw[GF (by omega),GF (by omega),GF (jU _)];simp only[r,s,JF,CX];exact⟨by show D.last+1=M.last+1;rw[h.last],rfl,h.store.sure,h.root,h.now,rfl,by simp[RM.begun],rfl,λ_=>rfl,λ_ x=>by simp[RM.begun]⟩
 .refine CO.2 ⟨h.rise,by simp,λa E c q=>?_⟩
  rw[AJ]at q;subst q;have:=h.le a E;show a.num<M.last+1;omega
 .rcases AO.1 d with d|d
  .have:=h.le g d;show g.num<=M.last+1;omega
  .rw[AJ]at d;subst d;exact KX _
 .rcases AO.1 d with d|d
  .exact J g d
  .rw[AJ]at d
   subst d;exact⟨p,AG _⟩
 .show m+tot (λg:RT=>g.ch.length) (M.ts++[M.begun (M.last+1) i l])<=B+1
  rw[qY];have:tot (λg:RT=>g.ch.length) [M.begun (M.last+1) i l]=0:=rfl;omega
def Lk.dropG(h:Lk n B w D v o ao ots M){j:Nat}(b:j<M.ts.length){g c:Nat}{w':World}{y fs fd}(m:aO w' 0 {D.drop j g c with lv:=y,fs:=fs,failed:=fd})(W:fs.dy)(u:fd=false->fA [] n fs v o ao)(r:View n fs v o ao)(k:∀p∈ots.eraseIdx j,Tr [] D.fs p->Tr [] fs p)(t):Lk n (B+1) w' {D.drop j g c with lv:=y,fs:=fs,failed:=fd} v o ao (ots.eraseIdx j) {M with ov:=t,ts:=M.ts.eraseIdx j}:=by
 have A:=h.len;have s:=h.leno;obtain⟨f,i,z,l,x⟩:=h.few;have C:(D.drop j g c).ts=D.ts.eraseIdx j:=rfl;refine⟨m,W,u,h.ver,h.root,h.aroot,r,h.nv,h.last,h.last0,by have:=h.last1;show M.last<=((B+1:Nat):Int);omega,by have:=h.vB;omega,h.now,h.ah,?_,?_,?_,λd p=>?_,h.rise.sublist (DF _ _),λa e=>h.le a ((DF _ _).subset e),f,i,z,λa e=>l a ((DF _ _).subset e),?_⟩
 .show(D.ts.eraseIdx j).length=(M.ts.eraseIdx j).length
  rw[CJ (by omega),CJ b,A]
 .show(ots.eraseIdx j).length=(M.ts.eraseIdx j).length
  rw[CJ (by omega),CJ b,s]
 .show(M.ts.eraseIdx j).length<=8
  rw[CJ b];have:=h.n8;omega
 .have q:=p
  rw[CJ b]at q;have X:LkT D.fs ((D.ts.eraseIdx j)[d]'(by rw[CJ (by omega)];omega)) ((ots.eraseIdx j)[d]'(by rw[CJ (by omega)];omega)) (M.ts.eraseIdx j)[d]:=by
   simp only[KO];split
   .exact h.each d (by omega)
   .exact h.each (d+1) (by omega)
  exact{X with tr:=k _ (AA _) X.tr}
 .have:=tX (λa:RT=>a.ch.length) M.ts j b
  show f+tot (λa:RT=>a.ch.length) (M.ts.eraseIdx j)<=B+1
  omega
def Lk.drop(h:Lk n B w D v o ao ots M){j}(b:j<M.ts.length){g c w'}(m:aO w' 0 (D.drop j g c))(t):Lk n (B+1) w' (D.drop j g c) v o ao (ots.eraseIdx j) {M with ov:=t,ts:=M.ts.eraseIdx j}:=h.dropG (y:=D.lv) (fs:=D.fs) (fd:=D.failed) b m h.well h.failed h.store (λ_ _ a=>a) t
def Tf(h:Lk n B w D v o ao ots M)(x j r)(l:cD M.ts x (some (j,r))):
  cL 27 #[.p D.d 0,.i x] w λe w'=>e=.r (.i 0)/\∃D',D.sm D'/\Fr (fpD D) w w'/\aJ w (fpD D) (fpD D')/\∀a,Lk n (B+1) w' D' v o ao (ots.eraseIdx j) {M with ov:=a,ts:=M.ts.eraseIdx j}:=by
 have q:=h.len;have m:=h.n8;have⟨k,t,p,i,s⟩:=h.hit l;apply(qDi D x j D.ts[j] w h.db (by omega) k rfl i).m;rintro e w' ⟨rfl,g,c,b,d,f⟩;exact⟨rfl,D.drop j g c,⟨rfl,rfl,rfl,rfl⟩,d,f,λa=>h.drop (by omega) b a⟩
end
variable {fs:Fs} {t:Tx}
section
variable {n B:Nat}{w:World}{D:Db}{v:Nat}{o ao:Option (Nat×T)}{ots:List (Option (Nat×T))}{M:RM}
def LkT.keys {a}{b:RT}(h:LkT fs t a b)(k):k∈t.cs.map (·.key)↔k∈b.ch.map (·.key):=by
 rw[h.cs,Ke b.ch (cs:=[]) EC k];simp
def LkT.none_iff {b}{d:RT}(h:LkT fs t b d):t.cs=[]↔d.ch=[]:=by
 constructor
 .intro a
  cases hc:d.ch with
  |nil=>rfl
  |cons c ch =>
   have:=(h.keys c.key).2 (by rw[hc];simp);grind
 .intro a;rw[h.cs,a];rfl
def LkT.conf {j}{f:RT}(h:LkT fs t j f)(i:f.wr=true):(∃c∈t.cs,c.key∈t.ks)↔gM f.ch f.oth=true:=by
 rw[yT];have g:=h.lost (by rw[h.wr];exact i);constructor
 .intro⟨c,b,k⟩
  have⟨d,e,a⟩:=AW.1 ((h.keys c.key).1 (AW.2 ⟨c,b,rfl⟩));grind
 .intro⟨c,b,k⟩
  have⟨d,e,a⟩:=AW.1 ((h.keys c.key).2 (AW.2 ⟨c,b,rfl⟩));grind
def otL(ts:List Tx)(ots:List (Option (Nat×T)))(t:Tx):Option (Nat×T):=(ots[(gG ts t.num).toNat]?).getD none
def Lk.ot_at(h:Lk n B w D v o ao ots M)(i)(hi:i<D.ts.length)(e:i<ots.length):otL D.ts ots D.ts[i]=ots[i]:=by
 have g:=h.len;have b:gG D.ts (D.ts[i]).num=i:=Qq hi (by simp) (λa j f=>by
  have c:=(h.each a (by omega)).num;have d:=(h.each i (by omega)).num;have:=BD.1 h.rise a i (by omega) (by omega) f;grind)
 unfold otL;grind
def Lk.ot_map(h:Lk n B w D v o ao ots M)(j)(a:j<D.ts.length):(D.ts.eraseIdx j).map (otL D.ts ots)=ots.eraseIdx j:=by
 have e:=h.len;have f:=h.leno;refine GB (by grind) (λb c d=>?_);rw[AF,CJ a]at c;simp only[EJ,KO];split
 .exact h.ot_at b (by omega) (by omega)
 .exact h.ot_at (b+1) (by omega) (by omega)
def Lk.ot_mem (h:Lk n B w D v o ao ots M)(c:t∈D.ts):Tr [] D.fs (otL D.ts ots t)/\t.root=rootOf (otL D.ts ots t):=by
 obtain⟨a,b,rfl⟩:=AV c;have d:=h.len;have e:=h.leno;rw[h.ot_at a b (by omega)];exact⟨(h.each a (by omega)).tr,(h.each a (by omega)).root⟩
def Lk.ots_mem(h:Lk n B w D v o ao ots M){p}(a:p∈ots):Tr [] D.fs p:=by
 obtain⟨b,c,rfl⟩:=AV a;have d:=h.leno;exact(h.each b (by omega)).tr
def Bt(h:Lk n B w D v o ao ots M)(C:B<=900000)(x j r)(u:cD M.ts x (some (j,r)))(z)(y:(r.ch=[]/\z=0)\/(r.ch≠[]/\gM r.ch r.oth=true/\z=7)):
  cL 14 #[.p D.d 0,.i x] w λe w'=>e=.r (.i z)/\∃D',D.sm D'/\Fr (fpD D) w w'/\aJ w (fpD D) (fpD D')/\∀i,Lk n (B+1) w' D' v o ao (ots.eraseIdx j) {M with ov:=i,ts:=M.ts.eraseIdx j}:=by
 have F:=h.len;have A:=h.n8;have⟨s,G,a,q,t⟩:=h.hit u;have⟨H,I,J,K,L,N⟩:=a.rise;have E:=(h.bounds.2.2 r t).2.2.1;refine(qHv D x j D.ts[j] w h.db (by omega) s rfl q (by omega) z ?_).m ?_
 .rcases y with⟨b,d⟩|⟨b,d,k⟩
  .simp_all
  .have f:r.wr=true:=by
    cases f:r.wr with
    |true=>rfl
    |false=>exact absurd (a.ro (by rw[a.wr];exact f)) b
   refine .inr ⟨?_,(a.conf f).2 d,k⟩;exact BQ.2 (λe=>b (a.none_iff.1 e))
 .rintro e w' ⟨rfl,g,c,l,m,p⟩
  exact⟨rfl,D.drop j g c,⟨rfl,rfl,rfl,rfl⟩,m,p,λi=>h.drop (by omega) l i⟩
end
variable {fs:Fs}
def Fx {x:En}(h:x.good fs):x.e.size=(x.value.length:Int):=by
 obtain⟨_,_,⟨c,_,d,_⟩|⟨_,a,i,g,e,j,k,_,f⟩⟩:=h
 .rw[d];unfold En.value;simp_all
 .have:x.e.over≠0:=λb=>by rw[b]at a;exact absurd a (by decide)
  unfold En.value;rw[AR this,wF x.ch g i f,e]
section
variable {n B:Nat}{w:World}{D:Db}{v:Nat}{o ao:Option (Nat×T)}{ots:List (Option (Nat×T))}{M:RM}
def Di {p}(h:Tr [] fs p):dJ (kvB (aU p))=2+(2 * (aU p).length+ovs (aU p)):=Er (λb a=>Fx (gO h.rooted h.flat b a))
abbrev osL(o ao:Option (Nat×T))(ots:List (Option (Nat×T)))(j:Nat):List (Option (Nat×T)):=[o,ao]++ots.eraseIdx j
def Lk.os(h:Lk n B w D v o ao ots M)(j):∀p∈osL o ao ots j,Tr [] D.fs p:=by
 intro p a;rcases AO.1 a with a|a
 .simp only[AS,FK,KT]at a
  rcases a with rfl|rfl
  .exact h.store.sure
  .exact h.store.ahead
 .exact h.ots_mem ((DF _ _).subset a)
def Lk.plan(h:Lk n B w D v o ao ots M)(g:B<=400000)(d:n<=4096){j}(b:j<M.ts.length)(k:j<D.ts.length):sE [] n D.fs o (D.ts[j]).cs (eP n (dD (osL o ao ots j)))/\∀p∈osL o ao ots j,∀q∈cR p,q ∉ eP n (dD (osL o ao ots j)):=by
 have⟨l,e,m,r,f,s⟩:=(h.each j b).rise;have a:=h.bounds;have i:=(a.2.2 _ (AA b)).2.2.1;have c:=pH (aU o);rw[h.now]at c;exact qFg h.store.len d (h.os j) (by simp) e f (by omega)
def Yd{fs}:∀(f:List Tx) (ots:List (Option (Nat×T))) (rs:List RT),f.length=rs.length->ots.length=rs.length->(∀i (h:i<rs.length) (d:i<f.length) (e:i<ots.length),LkT fs f[i] ots[i] rs[i])->tot (λp=>2 * (aU p).length+ovs (aU p)) ots<=tot (λt:RT=>dJ t.bg) rs
 |[],[],[],_,_,_=>jU _
 |t :: f,p :: ots,r :: rs,d,e,h3=>by
  have g:=h3 0 (by simp) (by simp) (by simp);have l:=Yd (fs:=fs) f ots rs (by grind) (by grind) (λi a b c=>h3 (i+1) (by grind) (by grind) (by grind));have j:dJ (kvB (aU p))=2+(2 * (aU p).length+ovs (aU p)):=Di g.tr;have k:kvB (aU p)=r.bg:=g.bg;rw[k]at j;simp only[cK];omega
 |[],_ :: _,[],_,e,_=>by simp at e
 |_ :: _,_,[],d,_,_=>by simp at d
 |[],_,_ :: _,d,_,_=>by simp at d
 |_ :: _,[],_ :: _,_,e,_=>by simp at e
def Tp {K:List ByteArray}{o:Option (Nat×T)}(h:Tr K fs o)(a:fs.safe.length<=4096)(l):dD (o :: o :: l)=dD (o :: none :: l):=by
 unfold dD;simp only[AK,jI];rw[xL (ps:=cR o) (λc b=>xH.2 (.inr ⟨b,by have:=Af h c b;rw[DP];omega⟩))];rfl
def Bs(h:Lk n B w D v o ao ots M)(al:(D.fs.life==0)=false)(J:B<=400000)(y:n<=4096)(I:2<=n)(x j r)(a0:cD M.ts x (some (j,r)))(q:r.ch≠[])(S:gM r.ch r.oth=false)(k:j<D.ts.length)(z:(eP n (dD (osL o ao ots j))).length<(bM o (D.ts[j]).cs (eP n (dD (osL o ao ots j)))).2.length):
  n<iN M r/\cL 14 #[.p D.d 0,.i x] w λe w'=>e=.r (.i 8)/\∃D',D.sm D'/\Fr (fpD D) w w'/\aJ w (fpD D) (fpD D')/\∀m,Lk n (B+1) w' D' v o ao (ots.eraseIdx j) {M with ov:=m,ts:=M.ts.eraseIdx j}:=by
 have Y:=h.len;have a6:=h.n8;have Z:=h.leno;have f:j<M.ts.length:=by omega
 obtain⟨H,V⟩:=a0;obtain⟨_,rfl⟩:=AD.1 H;have U:gG D.ts x=j:=by rw[h.idx,V]
 have d:=h.each j f;obtain⟨a9,A,aa,ab,C,ac⟩:=d.rise;have Q:=h.bounds;have a8:=(Q.2.2 _ (AA f)).2.2.1;have l:(M.ts[j]).wr=true:=by
  cases l:(M.ts[j]).wr with
  |true=>rfl
  |false=>exact absurd (d.ro (by rw[d.wr];exact l)) q
 obtain⟨P,_⟩:=h.plan J y f k;have X:∀c∈(D.ts[j]).cs,c.key ∉ (D.ts[j]).ks:=λc R W=>by
  have:=(d.conf l).1 ⟨c,R,W⟩;rw[S]at this;cases this
 have u:=h.ot_map j k;have s:=h.store.len;constructor
 .have ad:∀(p:Option (Nat×T)),Tr [] D.fs p->dD (osL o p ots j)=dD (osL o ao ots j)->dJ (kvB (aU p))<=dJ M.ah->n<iN M M.ts[j]:=λp hp hu hr=>by
   have a7:=qAx (K:=[]) (a:=osL o p ots j) y (λq hq=>by
    rcases AS.1 hq with rfl|hq
    .exact h.store.sure
    .rcases AS.1 hq with rfl|hq
     .exact hp
     .exact h.ots_mem ((DF _ _).subset hq)) h.store.sure A C (by rw[hu];exact z)
   have E:kvB (bF (aU o) (D.ts[j]).cs)=(M.ts[j]).ch.foldl dP M.now:=by
    have:=(qH (eL h.store.sure.rooted) (M.ts[j]).ch (cs:=[]) EC).1;rw[nP (eL h.store.sure.rooted),h.now,<-d.cs]at this;exact this
   have a3:dJ ((M.ts[j]).ch.foldl dP M.now)=2+(2 * (bF (aU o) (D.ts[j]).cs).length+ovs (bF (aU o) (D.ts[j]).cs)):=by
    rw[<-E];exact Er (λx a2=>Fx (kM (eL h.store.sure.rooted) A (gO h.store.sure.rooted h.store.sure.flat) C x a2))
   have F:=Di h.store.sure;rw[h.now]at F;have G:=Di hp;have a4:=Yd D.ts ots M.ts Y Z (λi a b c=>h.each i a);have a5:tot (λp=>2 * (aU p).length+ovs (aU p)) (osL o p ots j)<=(2 * (aU o).length+ovs (aU o))+((2 * (aU p).length+ovs (aU p))+tot (λp=>2 * (aU p).length+ovs (aU p)) ots):=by
    have:=tX (λp:Option (Nat×T)=>2 * (aU p).length+ovs (aU p)) ots j (by omega);show tot _ (o :: p :: ots.eraseIdx j)<=_;rw[cK,cK];omega
   unfold iN;omega
  rcases h.ah with q|q
  .exact ad ao h.store.ahead rfl (by rw[q];exact jU _)
  .exact ad none ⟨rfl,trivial,trivial,.inl rfl⟩ (by rw[q];exact(Tp h.store.sure (by rw[s];exact y) _).symm) (show dJ []<=_ from Nat.add_le_add_left (AG _) 2)
 .refine(qHu D x j D.ts[j] w h.db (by omega) k rfl U (λX' g c hD hT=>((Sj (n:=n) D x j D.ts[j] v o ao (otL D.ts ots) w h.db (by omega) k rfl U (BQ.2 (λe=>q (d.none_iff.1 e))) X (by omega) h.well h.failed h.ver (by have:=h.vB;omega) h.store I h.root h.aroot (λt a1=>?_) _ (by rw[u,s]) P).1 X' g c hD hT).m ?_)).m ?_
  .obtain⟨a,b⟩:=h.ot_mem ((DF _ _).subset a1)
   exact⟨a.rooted,b⟩
  .rintro e w' (⟨rfl,_,_,b⟩|⟨_,_,_,_,_,_,(⟨_,(⟨(b|b),_⟩|⟨_,b,_⟩)⟩|⟨_,_,b,_⟩)⟩)
   .exact⟨rfl,b⟩
   .have b:=b
    rw[b]at al;cases al
   .exact absurd b.1 (by omega)
   .exact absurd b (by omega)
   .exact absurd b (by omega)
  .rintro e w' ⟨rfl,g,c,L,N,O⟩
   exact⟨rfl,D.drop j g c,⟨rfl,rfl,rfl,rfl⟩,N,O,λm=>h.drop f L m⟩
end
structure qMy (M:RM) (j:Nat) (r:RT) (M':RM):Prop where
 now:M'.now=r.ch.foldl dP M.now
 nv:M'.nv=M.nv+1
 ah:M'.ah=M.now
 last:M'.last=M.last
 len:M'.ts.length=(M.ts.eraseIdx j).length
 each:∀i (h:i<(M.ts.eraseIdx j).length) (h':i<M'.ts.length),M'.ts[i].num=(M.ts.eraseIdx j)[i].num/\M'.ts[i].wr=(M.ts.eraseIdx j)[i].wr/\M'.ts[i].bg=(M.ts.eraseIdx j)[i].bg/\M'.ts[i].l=(M.ts.eraseIdx j)[i].l/\M'.ts[i].ch=(M.ts.eraseIdx j)[i].ch/\M'.ts[i].oth=(M.ts.eraseIdx j)[i].oth++r.ch.map (·.key)
section
variable {n B:Nat}{w:World}{D:Db}{v:Nat}{o ao:Option (Nat×T)}{ots:List (Option (Nat×T))}{M:RM}
def qDu{d β}(f g):∀(l:List d) (m:List β),l.length=m.length->(∀i (h:i<l.length) (j:i<m.length),f l[i]=g m[i])->tot f l=tot g m
 |[],[],_,_=>rfl
 |[],_ :: _,h,_=>by simp at h
 |_ :: _,[],h,_=>by simp at h
 |x :: l,y :: m,h,he=>by
  have c:=he 0 (by simp) (by simp);simp only[CX]at c;rw[cK,cK,c,qDu f g l m (by simpa using h) (λi a b=>he (i+1) (by simpa using a) (by simpa using b))]
def qNg(n:Nat)(D D':Db)(v:Nat)(o ao:Option (Nat×T))(L:KV):Prop:=(D'.fs=D.fs/\(D.fs.life=0\/D.failed=true))\/((D.failed=false/\¬D.fs.well)/\D'.fs.failed=wrap64 (D.fs.failed+1)/\∃C,iE n D'.fs.safe D'.fs.late v o C/\∀v' t,C v' t->(t=ao/\v'≠v+1)\/(v'=v+1/\kvB (aU t)=L))
def Br(h:Lk n B w D v o ao ots M)(a2:B<=400000)(am:n<=4096)(H:2<=n)(x j r)(an:cD M.ts x (some (j,r)))(L:r.ch≠[])(ad:gM r.ch r.oth=false)(z:j<D.ts.length)(aq:¬((D.fs.life==0)=false/\(eP n (dD (osL o ao ots j))).length<(bM o (D.ts[j]).cs (eP n (dD (osL o ao ots j)))).2.length)):
  cL 14 #[.p D.d 0,.i x] w λe w'=>∃zz D',e=.r (.i zz)/\(D'.d=D.d/\D'.β=D.β)/\Fr (fpD D) w w'/\aJ w (fpD D) (fpD D')/\((zz=9/\D'.failed=true/\D'.fs.dy/\qNg n D D' v o ao (r.ch.foldl dP M.now)/\∀i,Lk n (B+1) w' D' v o ao (ots.eraseIdx j) {M with ov:=i,ts:=M.ts.eraseIdx j})\/(zz=0/\D.failed=false/\(D.fs.life==0)=false/\D'.failed=false/\D'.fs.failed=D.fs.failed/\∃o',∀M',qMy M j r M'->Lk n (B+1) w' D' (v+1) o' o (ots.eraseIdx j) M')):=by
 have ba:=h.len;have b4:=h.n8;have bb:=h.leno;have u:j<M.ts.length:=by omega
 have⟨a1,ai⟩:=an;obtain⟨_,rfl⟩:=AD.1 a1;have ah:gG D.ts x=j:=by rw[h.idx,ai]
 have m:=h.each j u;have⟨be,bf,bg,bh,bi,bj⟩:=m.rise;have b7:=(h.bounds.2.2 _ (AA u)).2.2.1;have F:(M.ts[j]).wr=true:=by
  cases F:(M.ts[j]).wr with
  |true=>rfl
  |false=>exact absurd (m.ro (by rw[m.wr];exact F)) L
 have⟨a6,a9⟩:=h.plan a2 am u z;have al:∀c∈(D.ts[j]).cs,c.key ∉ (D.ts[j]).ks:=λc ac ak=>by
  have:=(m.conf F).1 ⟨c,ac,ak⟩;grind
 have P:=h.ot_map j z;have O:=h.store.len;have bd:=h.vB;have Y0:∀t,(aU t).map En.kv=(bF (aU o) (D.ts[j]).cs).map En.kv->kvB (aU t)=(M.ts[j]).ch.foldl dP M.now:=λt W=>by
   rw[qLk W];have:=(qH (eL h.store.sure.rooted) (M.ts[j]).ch (cs:=[]) EC).1;rw[nP (eL h.store.sure.rooted),h.now,<-m.cs]at this;exact this
 refine((Sj (n:=n) D x j D.ts[j] v o ao (otL D.ts ots) w h.db (by omega) z rfl ah (BQ.2 (λe=>L (m.none_iff.1 e))) al (by omega) h.well h.failed h.ver (by omega) h.store H h.root h.aroot (λi l=>?_) _ (by rw[P,O]) a6).2 aq).m ?_
 .obtain⟨a,b⟩:=h.ot_mem ((DF _ _).subset l)
  exact⟨a.rooted,b⟩
 .rintro e w' ⟨zz,D',g,c,rfl,a3,hR,a4,a5⟩
  rcases hR with⟨rfl,(⟨hq,rfl⟩|⟨hq,aa,K,N,ap,hW,rfl⟩)⟩|⟨rfl,bm,aa,K,N,av,G,hW,I,rfl⟩
  .exact⟨9,{D.drop j g c with failed:=true},rfl,⟨rfl,rfl⟩,a4,a5,.inl ⟨rfl,rfl,h.well,.inl ⟨rfl,hq.imp id (λq=>q.2)⟩,λi=>h.dropG (y:=D.lv) (fs:=D.fs) (fd:=true) u a3 h.well (λe=>by cases e) h.store (λ_ _ a=>a) i⟩⟩
  .have J:Xp [] n D.fs o (D.ts[j]).cs (eP n (dD (osL o ao ots j))):=⟨a6,aa⟩
   have⟨V,aw,ax,W,X⟩:=nF (h.failed K) J (by omega) H;have hC:=hW.cut rfl;have⟨C,hH,bo⟩:=qHo (h.failed K) J (a9 ao (by simp)) (by omega) H hC;have⟨bn,bl,_⟩:=hH.view;have tr:∀p∈osL o ao ots j,Tr [] D.fs p->Tr [] N p:=λp hp ht=>qLs hC (h.failed K).late (λy hy=>by rw[O];exact(J.free _ (sK ax y hy)).2) (by omega) ht (λq hq hm=>a9 p hp q hq (by obtain⟨y,hy,rfl⟩:=AW.1 hm;exact sK ax y hy));refine⟨9,{D.drop j g c with lv:=ap,fs:=N,failed:=true},rfl,⟨rfl,rfl⟩,a4,a5,.inl ⟨rfl,rfl,hW.dy,.inr ⟨⟨K,λe=>by cases hW.well e⟩,hW.failed,C,hH,λv' t q=>(bo v' t q).imp (λq=>⟨q.1,by omega⟩) (λq=>⟨q.1,by rw[q.2];exact Y0 _ W⟩)⟩,λi=>h.dropG (y:=ap) (fs:=N) (fd:=true) u a3 hW.dy (λe=>by cases e) ⟨hH.len,bn,bl,tr ao (by simp) h.store.ahead⟩ (λp hp=>tr p (FS _ hp)) i⟩⟩
  have J:Xp [] n D.fs o (D.ts[j]).cs (eP n (dD (osL o ao ots j))):=⟨a6,aa⟩;have⟨V',aw,ax,W,X'⟩:=nF (h.failed K) J (by omega) H;have⟨hs,hl⟩:=hW.ok rfl;have hl2:N.late=(D.fs.made (bM o (D.ts[j]).cs (eP n (dD (osL o ao ots j)))).2 ((v+1) % 2) (bK (v+1:Nat) (rootOf (bM o (D.ts[j]).cs (eP n (dD (osL o ao ots j)))).1))).late:=hl;have V:=V'.eq hs hl2;have X:=λt a b=>(X' t a b).eq hs hl2;refine⟨0,{(D.drop j g c).made av N (v+1) (rootOf (bM o (D.ts[j]).cs (eP n (dD (osL o ao ots j)))).1) with ts:=G},rfl,⟨rfl,rfl⟩,a4,a5,.inr ⟨rfl,K,bm,K,hW.failed,(bM o (D.ts[j]).cs (eP n (dD (osL o ao ots j)))).1,λM' d=>?_⟩⟩;have Y:=Y0 _ W;have ay:(M.ts.eraseIdx j).length=M.ts.length-1:=CJ u;have az:(D.ts.eraseIdx j).length=D.ts.length-1:=CJ z;have b0:(ots.eraseIdx j).length=ots.length-1:=CJ (by omega);have b6:=d.len;have b5:=I.len;have⟨S,b1,b2,a0,b3⟩:=h.few;have bc:=tX (λi:RT=>i.ch.length) M.ts j u;have b8:=qR (M.ts[j]).ch M.now;have b9:=h.last1;have R:∀i∈M'.ts,∃s∈M.ts,i.num=s.num/\i.bg=s.bg/\i.oth=s.oth++(M.ts[j]).ch.map (·.key):=λi l=>by
   obtain⟨f,C,rfl⟩:=AV l;have⟨q,_,p,_,_,t⟩:=d.each f (by omega) C;grind
  refine⟨a3,hW.dy,λ_=>V,rfl,rfl,h.root,V.view,by rw[d.nv,h.nv];rfl,by rw[d.last];exact h.last,by rw[d.last];exact h.last0,by rw[d.last];omega,by omega,by rw[Y,d.now],.inl (by rw[d.ah];exact h.now),by grind,by omega,by omega,λf C=>?_,?_,λi l=>?_,S+(M.ts[j]).ch.length,by rw[d.now];omega,by rw[d.ah];omega,λi l=>by grind,?_⟩
  .have ag:f<(M.ts.eraseIdx j).length:=by omega
   have af:f<(D.ts.eraseIdx j).length:=by omega
   have aj:f<(ots.eraseIdx j).length:=by omega
   have⟨q,T,p,U,y,t⟩:=d.each f ag C;have⟨bk,au,l,ar⟩:=I.each f af;have k:LkT D.fs (D.ts.eraseIdx j)[f] (ots.eraseIdx j)[f] (M.ts.eraseIdx j)[f]:=by
    simp only[KO];split
    .exact h.each f (by omega)
    .exact h.each (f+1) (by omega)
   rw[l];refine⟨by rw[q];exact k.num,by rw[T];exact k.wr,X _ k.tr (a9 _ (FS _ (AA aj))),k.root,by rw[p];exact k.bg,by rw[y];exact k.cs,by rw[y];exact k.good,by rw[y,p,U];exact k.l,λae=>by rw[y];exact k.ro ae,λQ A=>?_⟩;rw[t,AO];show A∈au↔_;rw[ar Q A,k.lost Q A,m.keys A]
  .refine BD.2 (λa b a7 ab a8=>?_)
   rw[(d.each a (by omega) a7).1,(d.each b (by omega) ab).1];exact(BD.1 (h.rise.sublist (DF M.ts j)) a b (by omega) (by omega) a8)
  .have⟨s,E,q,_,_⟩:=R i l
   rw[q,d.last];exact h.le s E
  .have Z:tot (λi:RT=>i.ch.length) M'.ts=tot (λi:RT=>i.ch.length) (M.ts.eraseIdx j):=qDu _ _ _ _ (by omega) (λf a b=>by rw[(d.each f b a).2.2.2.2.1])
   rw[Z];omega
end
open Go.Shelf
attribute [local go_sem] CM
def aO.still{w w' c D}(h:aO w c D)(d:aO w' c D)(a:Fr (Bl.one D.d) w w'):bW w w' :=
 ⟨a.os,a.tape,a.output,a.size,λb f=>by
  by_cases e:b=D.d
  .subst e;rw[h.box,d.box]
  .exact a.block b f (λh=>e h)⟩
def qMh{xs j x}(h:xs[j]?=some x):(fK xs)[j * 2]?=some (.t x.e.key)/\(fK xs)[j * 2+1]?=some (.t ⟨x.value.toArray⟩):=by
 unfold fK;induction xs generalizing j with
 |nil=>simp at h
 |cons y xs ih =>
  cases j with
  |zero=>simp at h;subst h;simp
  |succ j =>
   simp only[JZ]at h;have⟨b,c⟩:=ih h;have a:(j+1) * 2=j * 2+2:=by omega
   rw[a];simp only[AK];constructor
   .rw[BC (by simp)];simpa using b
   .rw[BC (by simp)];simpa using c
def qHk(D x xs lo hi b0 b1 b2 b3 Rd w)(h:aO w 0 D)(hsm:xs.length<=1000000)(hScan:∀W,aO W 0 D->cL 61 #[.p D.d 0,.i x,.t lo,.t hi,.i ((9223372036854775807:Nat):Int)] W λe w'=>∃v z,e=.r (.tuple #[v,.i z])/\aO w' 0 D/\Fr (Bl.one D.d) W w'/\w'.ownsRow 0 71 2 v xs.length (fK xs)/\nW v W)(x0:cW w b0 #[.p D.d 0] 29)(x1:cW w b1 #[.i x] 3)(x2:cW w b2 #[.t lo] 9)(x3:cW w b3 #[.t hi] 9)(r0:Rd b0)(r1:Rd b1)(r2:Rd b2)(r3:Rd b3)(rD:∀k,fpD D k->Rd k):
  nH Tryz.prog 106 #[.p b0 0,.p b1 0,.p b2 0,.p b3 0] Tj xs Rd w:=by
 intro l J Jx Y W m ab sJ lJ ae ac hY h0;refine KB Tryz.func106 rfl trivial ?_ rfl;simp only[Tryz.ntmps106,jA,jB,jN,Nat.reduceAdd,Nat.reduceSub,jR,jO,jP,jT,jE,jF];have lY:=lJ [] Y W h0;have hD:=h.on (m.m rD);have c0:=bJ (m.heap x0 r0);have c1:=bJ (m.heap x1 r1);have c2:=bJ (m.heap x2 r2);have c3:=bJ (m.heap x3 r3);have a6:=hScan W hD;gi_wp2_with (refine⟨trivial,rfl,?_⟩;gi_at_call 61;refine(AZ.2 a6).m ?_;rintro e W1 ⟨v,sz,rfl,T,N,f,E⟩;obtain⟨U,M,rfl⟩:=aG f);have B1:=hD.still T N;have HN:Hid (∀k,(Value.slice U xs.length M).ownBlock=some k->W.heap.size<=k):=E;have HB:Hid (bW W W1):=B1;have a1:Hid (W1.ownsRow 0 71 2 (.s U xs.length M) xs.length (fK xs)):=f;clear hD T N E B1 f c0 c1 c2 c3;gi_wp2;gi_loopw [20] (λi wr=>∃(j:Nat) (I:Bl),j<=xs.length/\i=.i j/\J (xs.take j) I wr/\Fr Y W wr/\aJ W Y I/\wr.ownsRow 0 71 2 (.s U xs.length M) xs.length (fK xs)/\∀k,(Value.slice U xs.length M).ownBlock=some k->¬I k) (λi _=>xs.length-(intOf i).toNat)
 case atStart =>
  exact⟨0,Y,AG _,rfl,by simpa using sJ _ _ _ _ h0 (vV HB.o lY),AB HB.o,CR _ _,a1.o,λk b hy=>by have:=HN.o k b;have:=lY k hy;omega⟩
 case round =>
  obtain⟨j,I,hj,rfl,L,hF,K,C,S⟩:=hrel;by_cases hlt:j<xs.length
  .have aa:(j:Int)<(xs.length:Int):=by omega
   have X:=jQ hlt;obtain⟨y,a5⟩:=nM (xs[j]);rw[a5]at X;obtain⟨q1,q2⟩:=qMh X;obtain⟨g,hg,a7,af,O⟩:=iO C q1;obtain⟨g',a2,_,_,F⟩:=iO C q2;subst hg;cases a2;obtain⟨w1,a0,-,z1,-⟩:=al1 wr (.cells #[.t y.e.key,.t ⟨y.value.toArray⟩] 71);have H:Fr Bl.none wr w1:=a0▸(AE _ wr).alloc _;have Q:=hF.t (H.m (λ_ h=>h.elim));have a4:=lJ _ _ _ L;have o1:=H.on (λk b=>⟨a4 k b,λh=>h⟩);obtain⟨fn,a8,V,a9,ad,a3⟩:=hY _ y _ #[.t y.e.key,.t ⟨y.value.toArray⟩] Bl.none I w1 (sM X) (sJ _ _ _ _ L o1) rfl (λ_ h=>h.elim) Q K;obtain⟨m0,m1⟩:=bY z1;have n:=aS C (H.on (Z:=λk=>Value.ownBlock _=some k) (λk b=>⟨aK C b,λh=>h⟩)) (λk b=>b);gi_wp2;refine⟨rfl,(eT a3).m ?_⟩;have HT:Hid (xs.take (j+1)=xs.take j++[y]):=oD X;rintro e W3 (⟨rfl,Y3,G,u,B⟩|⟨rfl,Y3,G,u,B⟩)
   .have F3:Fr Y W W3:=Q.grow u K
    have G3:aJ W Y Y3:=K.t Q.size B;have R:W3.ownsRow 0 71 2 (.q g xs.length M) xs.length (fK xs):=aS n (u.on (Z:=λk=>Value.ownBlock _=some k) (λk b=>⟨aK n b,S k b⟩)) (λk b=>b);have n3:∀k,(Value.q g xs.length M).ownBlock=some k->¬Y3 k:=λk b hy=>by
     rcases B k hy with h'|h'
     .exact S k b h'
     .have:=aK n b;omega
    clear L O F m0 m1 z1;gi_wp2;go_roundw
    case rel=>exact⟨j+1,Y3,by omega,by go_num,by rw[HT.o];exact G,F3,G3,R,n3⟩
    case measure=>simp[intOf];omega
   .clear L O F m0 m1 z1
    gi_wp2;refine BI (EN rfl _ _ _) rfl ?_;refine⟨⟨_,rfl⟩,Y3,Q.grow u K,K.t Q.size B,.inr ⟨_,?_,?_,G⟩⟩
    .rw[<-HT.o];exact JU _ _
    .simp
  .obtain rfl:j=xs.length:=by omega
   have HJ:Hid (J xs I wr):=by rw[BK]at L;exact L
   gi_wp2;go_end0;exact⟨⟨_,rfl⟩,I,hF,K,.inl HJ.o⟩
def qCu(d x lo hi)(o:lo.size<=2000000)(A:hi.size<=2000000)(w):
  cL 65 #[.p d 0,.i x,.t lo,.t hi] w λe w' =>
   e=.r (.func (.func 106) #[] #[.p w.heap.size 0,.p (w.heap.size+1) 0,.p (w.heap.size+1+1) 0,.p (w.heap.size+1+1+1) 0]) /\
   cW w' w.heap.size #[.p d 0] 29/\cW w' (w.heap.size+1) #[.i x] 3/\cW w' (w.heap.size+1+1) #[.t lo] 9/\cW w' (w.heap.size+1+1+1) #[.t hi] 9/\bW w w':=by
 obtain⟨a,g,t,D,E,j,k,-⟩:=al4 w (.cells #[.p d 0] 29) (.cells #[.i x] 3) (.cells #[.t lo] 9) (.cells #[.t hi] 9); have l:Hid (∀X,bW a X->X.c (w.heap.size+1+1) 0=some (.t lo)/\X.c (w.heap.size+1+1+1) 0=some (.t hi)/\X.setCell (aD (w.heap.size+1+1) 0) (.t lo)=X/\X.setCell (aD (w.heap.size+1+1+1) 0) (.t hi)=X/\(∀p,X.frozen? (aD (w.heap.size+1+1) p)=false)/\∀p,X.frozen? (aD (w.heap.size+1+1+1) p)=false):=λX c=>by
  have q:=(c.block _ (gL j)).t j;have r:=(c.block _ (gL k)).t k;exact⟨bJ q,bJ r,dI q rfl,dI r rfl,aA q,aA r⟩
 have f:Hid (∀(s:ByteArray) X,s.size<=2000000->cL 41 #[.t s] X λe w'=>e=.r (.t s)/\bW X w'):=λs X P=>rC s (by omega) X;have b:bW a a.drew:=(AC _ _).drew;have⟨h,i,B,C,v,y⟩:=l a.drew b;have n:=f lo a.drew o;have z:=f hi a.drew A;have F:Hid (∀X,bW a X->cW X w.heap.size #[.p d 0] 29/\cW X (w.heap.size+1) #[.i x] 3/\cW X (w.heap.size+1+1) #[.t lo] 9/\cW X (w.heap.size+1+1+1) #[.t hi] 9/\bW w X):=λX c =>
  ⟨(c.block _ (gL D)).t D,(c.block _ (gL E)).t E,(c.block _ (gL j)).t j,(c.block _ (gL k)).t k,t.t (c.m t.size)⟩
 go_enter Tryz.func65,Tryz.ntmps65;go_wp2;go_region_held3 (λX=>X.c (w.heap.size+1+1) 0=some (.t lo)/\X.c (w.heap.size+1+1+1) 0=some (.t hi))
  ((first|exact⟨h,i⟩|(simp[h,i])))
  (first
   |(go_at_call 41;apply Calls.m n;rintro e m ⟨rfl,N⟩;have b:=b.t N;have⟨h,i,B,C,v,y⟩:=l m b;have z:=f hi m A;have n:=f lo m o)
   |(go_at_call 41;apply Calls.m z;rintro e u ⟨rfl,O⟩;have b:=b.t (O.m b.size);have⟨h,i,B,C,v,y⟩:=l u b;have n:=f lo u o))
 all_goals
  have⟨I,J,K,L,M⟩:=F _ b;go_wp2;go_ret;exact⟨rfl,I,J,K,L,M⟩
def mkE(x:ByteArray×ByteArray):En:=⟨⟨x.1,x.2,x.2.size,0⟩,[]⟩
def Jk(x):(⟨(mkE x).value.toArray⟩:ByteArray)=x.2:=by
 unfold En.value mkE;rw[AU rfl]
def Ed:∀(l:KV),fK (l.map mkE)=aI l
 |[]=>rfl
 |x :: l=>by
  have:=Ed l;simp only[fK,aI,BH,AK,Jk]at this⊢;rw[this];rfl
section
variable {n B:Nat}{w:World}{D:Db}{v:Nat}{o ao:Option (Nat×T)}{ots:List (Option (Nat×T))}{M:RM}
def Iv(r lo hi most)(h:∀j t,r=some (j,t)->t.l.length<=B):(cZ r lo hi most).1.length<=B:=by
 cases r with
 |none=>exact AG _
 |some p =>
  have⟨j,t⟩:=p;have:=h j t rfl;simp only[cZ];split
  .have a:(sC t.l lo hi most.toNat).Sublist t.l:=((FU _ _).t (List.takeWhile_sublist _)).t (FH _ _)
   grind
  simp
def qKb(h:Lk n B w D v o ao ots M)(g:B<=900000)(x lo hi r)(f:cD M.ts x r)(a b c d Rd)(C:cW w a #[.p D.d 0] 29)(l:cW w b #[.i x] 3)(F:cW w c #[.t lo] 9)(p:cW w d #[.t hi] 9)(s:Rd a)(t:Rd b)(u:Rd c)(y:Rd d)(z:∀k,fpD D k->Rd k):∃L,(L=(cZ r lo hi 9223372036854775807).1\/(L=[]/\D.fs.life=0))/\
  nH Tryz.prog 106 #[.p a 0,.p b 0,.p c 0,.p d 0] Tj (L.map mkE) Rd w:=by
 have⟨e,G,J⟩:=Lj h g x lo hi 9223372036854775807 (by omega) r f;refine⟨e.1,G.imp (CI _) (λq=>⟨by rw[q.1],q.2.1⟩),?_⟩;refine qHk D x _ lo hi a b c d Rd w h.db ?_ (λW m=>by apply(J W m).m;rintro j w' ⟨I,rfl,i,A,q,E⟩;exact⟨I,_,rfl,i,A,by rw[AF,Ed];exact q,E⟩) C l F p s t u y z
 .rw[AF]
  have:=Iv (B:=B) r lo hi 9223372036854775807 (λH e j=>by
   subst j;exact(h.bounds.2.2 e (BL f.1)).2.1)
  rcases G with q|q
  .rw[q];omega
  .rw[q.1];simp
end
variable {B':Nat} {M:RM} {d w:World}
def qFr(w):cL 11 #[.pointer none] w λe w'=>e=.r (.tuple #[.pointer none,.i 1])/\w'=w:=by
 go_enter Tryz.func11,Tryz.ntmps11;go_wp2;go_ret2;exact⟨rfl,rfl⟩
def qFs(β sv lv fs w)(b:aF w β sv lv fs)(d:fs.safe.length<40):cL 11 #[.p β 0] w λe w'=>e=.r (.tuple #[.pointer none,.i 1])/\w'=w:=by
 have c:(fs.safe.length:Int)<40:=by omega
 go_enter Tryz.func11,Tryz.ntmps11;go_wp2_with (go_at_call 31;apply Calls.m (nN β sv lv fs w b);rintro e w' ⟨rfl,a⟩;subst w');go_ret2;exact⟨rfl,rfl⟩
def Lk.opened {n B v:Nat}{D:Db}{o ao:Option (Nat×T)}(d:aO w 0 D)(y:D.fs.dy)(S:fA [] n D.fs v o ao)(p:D.ver=v)(q:D.root=rootOf o)(i:D.aroot=rootOf ao)(t:D.last=0)(u:D.ts=[])(a:M.ts=[])(f:M.last=0)(H:M.nv=v)(j:kvB (aU o)=M.now)(k:kvB (aU ao)=M.ah\/ao=o)(e:v<=B)(x:M.now.length<=B)(z:M.ah.length<=B):Lk n B w D v o ao [] M:=by
 have h:∀c∈M.ts,False:=λc b=>by grind
 exact{db:=d,well:=y,failed:=λ_=>S,ver:=p,root:=q,aroot:=i,store:=S.view,nv:=H,last:=by rw[t,f],last0:=by omega,last1:=by rw[f];omega,vB:=e,now:=j,ah:=k,len:=by rw[u,a];rfl,leno:=by rw[a];rfl,n8:=by grind,each:=λl g=>(by grind),rise:=by simp_all,le:=λc b=>(h c b).elim,few:=⟨B,x,z,λc b=>(h c b).elim,by rw[a];exact jU _⟩}
def Yl{n B v:Nat}{fs o ao}{L:KV}(S:fA [] n fs v o ao)(k:40<=n)(g:fs.well)(β sv lv w)(E:aF w β sv lv fs)(I:v<=B)(N:B<=400000)(G:(aU o).length<=B)(t:kvB (aU ao)=L\/ao=o)(A:L.length<=B):
  cL 11 #[.p β 0] w λe w'=>∃(D:Db) (ao':Option (Nat×T)),e=.r (.tuple #[.p D.d 0,.i 0])/\D.β=β/\D.failed=false/\D.fs.well/\Fr (fpF β sv lv) w w'/\aJ w (fpF β sv lv) (fpD D)/\∀M:RM,M.ts=[]->M.last=0->M.nv=v->M.now=kvB (aU o)->M.ah=L->Lk n B w' D v o ao' [] M:=by
 have⟨R,O,z⟩:=S.hold;apply(Oo z k (by omega) ⟨by rw[g.1];decide,by rw[g.1];decide,by rw[g.2];decide,by rw[g.2];decide⟩ β sv lv w E).m;rintro e w' ⟨x,⟨_,_,_,_,_,_,_,h,_⟩|⟨D,Q,P,i,rfl,u,H,_,j,l,m,p,q,r,s,K,J,F,C,f,y⟩⟩
 .exact absurd g h
 rcases f with⟨rfl,rfl,f⟩|⟨_,_,f⟩
 .exact⟨D,i,rfl,H,p,F.2 g,x,y,λM a b c d e=>Lk.opened u s C j l m q r a b c d.symm (by
   rw[e];rcases f with f|⟨_,_,_,f⟩
   .exact .inr f
   .subst f;exact t) I (by rw[d,pH];exact G) (by rw[e];exact A)⟩
 .omega
def oQ(β sv lv fs w)(h:aF w β sv lv fs):
  cL 50 #[.p β 0] w λe w'=>e=.r (.i fs.failed)/\w'=w:=by
 have⟨a,b,c,d,f⟩:=cV h.box;go_enter Tryz.func50,Tryz.ntmps50;go_wp2;go_ret;simp
def sI(q β sv lv fs w)(b:aF w β sv lv fs)(d:w.c q 0=some (.p β 0))(z):
  cL 51 #[.p q 0,.i z] w λe w'=>e=.r (.bool (decide (z<fs.failed)||fs.life==0))/\w'=w:=by
 have a:=fU β sv lv fs w b;cases hl:fs.life==0<;>by_cases hz:z<fs.failed
 all_goals rw[hl]at a
 all_goals go_enter Tryz.func51,Tryz.ntmps51
 all_goals go_wp2_with (first|(go_at_call 50;apply Calls.m (oQ β sv lv fs w b);rintro e w' ⟨rfl,g⟩;subst w')|(go_at_call 49;apply Calls.m a;rintro e w' ⟨rfl,g⟩;subst w'))
 all_goals refine BI (v:=.bool _) ?_ rfl ⟨rfl,rfl⟩
 all_goals simp[results,Tryz.results51,go_sem,hz,hl]
def qJm(q β sv lv fs w)(b:aF w β sv lv fs)(d:w.c q 0=some (.p β 0))(f:w.c q 12=some (.bool false))(z):
  cL 60 #[.p q 0,.i z] w λe w'=>e=.r (.bool (z==9&&fs.life==0))/\w'=w:=by
 have a:=fU β sv lv fs w b;cases hl:fs.life==0<;>cases h9:z==9<;>cases h10:z==10
 all_goals rw[hl]at a
 all_goals go_enter Tryz.func60,Tryz.ntmps60
 all_goals go_wp2_with (go_at_call 49;apply Calls.m a;rintro e w' ⟨rfl,g⟩;subst w')
 all_goals refine BI (v:=.bool _) ?_ rfl ⟨rfl,rfl⟩
 all_goals simp[results,Tryz.results60,go_sem,h9,h10,hl]
def Yh:∀(a:List RT) (j:Nat) (t t':RT),a[j]?=some t->t'.num=t.num->t'.wr=t.wr->t'.vb=t.vb->t'.bv=t.bv->t'.vl=t.vl->t'.vc=t.vc->(a.flatMap RT.cells).set (j * 7+6) t'.vo=(a.set j t').flatMap RT.cells
 |[],_,_,_,h,_,_,_,_,_,_=>by simp at h
 |x :: a,0,t,t',h,h1,h2,h3,h4,h5,h6=>by
  simp_all
 |x :: a,j+1,t,t',h,h1,h2,h3,h4,h5,h6=>by
  rw[jX,AK,AK,<-(Yh a j t t' (by grind) h1 h2 h3 h4 h5 h6)];grind
def RT.lost(t:RT)(key:ByteArray)(vo:Value):RT:={t with oth:=t.oth++[key],vo:=vo}
def aY.lose {w X3 d K q}(h:aY w K q M){j t}(u:M.ts[j]?=some t){g c}(e:M.ov=.q g M.ts.length c)(key){b:Value}(m:fF 9 1 t.vo t.oth.length (t.oth.map .string) [.t key] 1 w b X3)(A:d=X3.setCell (aD g (j * 7+6)) b):
  aY d K q {M with ts:=M.ts.set j (t.lost key b)}/\Fr (fpR q M) w d/\∀k,Bl.or K (fpR q {M with ts:=M.ts.set j (t.lost key b)}) k->Bl.or K (fpR q M) k\/w.heap.size<=k:=by
 obtain⟨T,_⟩:=AD.1 u;have o:=BL u;have l:=h.each t o;have I:M.ov.ownBlock=some g:=by rw[e];rfl
 have N:=h.row.1;have L:=m.keeps h.row (dS h.row l.oth (by decide));have E:Fr (Bl.one g) X3 d:=A▸(AE (Bl.one g) X3).s g (j * 7+6);have S:d.ownsRow 0 119 7 M.ov M.ts.length ((M.ts.set j (t.lost key b)).flatMap RT.cells):=by
  have:=dR (e▸L) (j * 7+6) (by omega) b;rw[A,e,<-Yh M.ts j t (t.lost key b) u rfl rfl rfl rfl rfl rfl];exact this
 have F:∀{r:TypeId}{D n:Nat}{v:Value}{C:List Value},X3.ownsRow 0 r D v n C->r≠119->d.ownsRow 0 r D v n C:=λ{r D n v C} x P=>aS x (E.on (Z:=λk=>v.ownBlock=some k) (λk a=>⟨aK x a,λf=>by
  simp only[Bl.one]at f;rcases dS x L P with i|i
  .grind
  grind⟩)) (λk a=>a)
 have Q:=F m.row (by decide);have p:Fr (λk=>k=g\/fpX t k) w d:=(m.fr.m (λk a=>.inl (.inr (.inr a)))).t (E.m (λk a=>.inl (.inl a)));have G:=p.on (λk a=>⟨(h.kp k a).1,λB=>by
  rcases B with f|B
  .exact(h.kp k a).2.2.1 (by rw[I,f])
  .exact(h.kp k a).2.2.2 t o B⟩)
 have y:∀k,fpX (t.lost key b) k->fpX t k\/w.heap.size<=k:=λk a=>by
  rcases a with a|a
  .exact .inl (.inl a)
  .exact(m.lies k a).imp .inr id
 have R:=h.retx (t':=t.lost key b) (K':=K) u e (λk a=>.inl a) (λk a=>a) p S ⟨l.bg.on G,l.l.on G,F (m.keeps l.ch (dS l.ch l.oth (by decide))) (by decide),by simpa[RT.lost] using Q⟩ y (λk a=>jY (h.kp k a).1 p.size) (λk a H=>by
  rcases y k a with i|i
  .exact(h.kp k H).2.2.2 t o i
  .have:=(h.kp k H).1;omega)
 refine⟨R,p.m (λk a=>.inl ?_),λk a=>?_⟩
 .rcases a with f|a
  .exact .inr (.inl (by rw[I,f]))
  .exact .inr (.inr ⟨t,o,a⟩)
 .rcases a with a|rfl|a|⟨s,z,a⟩
  .exact .inl (.inl a)
  .exact .inl (.inr (.inl rfl))
  .exact .inl (.inr (.inr (.inl a)))
  .rcases EI z with z|rfl
   .exact .inl (.inr (.inr (.inr ⟨s,z,a⟩)))
   .exact(y k a).imp (λJ=>.inr (.inr (.inr ⟨t,o,J⟩))) id
section
variable{w w':World}{K K':Bl}{q:Nat}{M M':RM}
def aY.keep(h:aY w K q M)(g:Fr (Bl.one q) w w'):On K w w'/\∀b,K b->b<w'.heap.size/\¬fpR q M b:=⟨g.on (λd a=>⟨(h.kp d a).1,λb=>(h.kp d a).2.1 b⟩),λb a=>⟨jY (h.kp b a).1 g.size,λc=>by
 have:=h.kp b a;rcases c with c|c|⟨o,l,c⟩
 .exact this.2.1 c
 .exact this.2.2.1 c
 .exact this.2.2.2 o l c⟩⟩
def aY.reobj(h:aY w K q M)(g:Fr (Bl.one q) w w')(t:w'.heap[q]?=some M'.obj)(k:∀b,K b->K' b)(u:∀b,K' b->b<w'.heap.size/\¬fpR q M b)(n:fM w' K' M'.vn M'.now)(v:Kv2 w' K' M')(B:(M'.ov=M.ov/\M'.ts=M.ts)\/(M'.ov=.n/\M'.ts=[])):aY w' K' q M':=by
 have m:=(h.keep g).1;have f:∀{c:TypeId}{p n:Nat}{e:Value}{j:List Value},w.ownsRow 0 c p e n j->c≠43->w'.ownsRow 0 c p e n j:=λ{c p n e j} i x=>aS i (g.on (Z:=λk=>e.ownBlock=some k) (λk a=>⟨aK i a,λs=>by cases s;exact aP i h.box (λb=>x b.symm) a⟩)) (λk a=>a);rcases B with⟨e,d⟩|⟨e,d⟩
 .exact⟨t,by rw[e,d];exact f h.row (by decide),n,v,λo l=>by
   rw[d]at l;have d:=h.each o l;exact⟨(d.bg.on m).m k,(d.l.on m).m k,f d.ch (by decide),f d.oth (by decide)⟩,by rw[d];exact h.apart,λb a=>by
   rw[e,d];have⟨r,z⟩:=u b a;exact⟨r,λc=>z (.inl c),λc=>z (.inr (.inl c)),λo l y=>z (.inr (.inr ⟨o,l,y⟩))⟩⟩
 .exact⟨t,by rw[e,d];exact AL _ _ _ _,n,v,λo l=>(by rw[d]at l;cases l),by rw[d];exact EC,λb a=>by
   have⟨r,z⟩:=u b a;rw[e,d];exact⟨r,λc=>z (.inl c),by simp[Value.ownBlock],λo l=>(by cases l)⟩⟩
def aY.renow(h:aY w K q M){v L}(y:w.ownsRow 0 71 2 v L.length (aI L))(u:∀k,v.ownBlock=some k->¬fpR q M k)(z)(g:Fr (Bl.one q) w w')(t:w'.heap[q]?=some ({M with va:=M.vn,av:=M.nv,ah:=M.now,vn:=v,nv:=z,now:=L}:RM).obj):
  aY w' (λk=>K k\/v.ownBlock=some k) q {M with va:=M.vn,av:=M.nv,ah:=M.now,vn:=v,nv:=z,now:=L}:=by
 have⟨m,i⟩:=h.keep g;have f:=aS y (g.on (Z:=λk=>v.ownBlock=some k) (λk a=>⟨aK y a,λs=>u k a (.inl s)⟩)) (λk a=>a);exact h.reobj g t (λb a=>.inl a) (λb a=>a.elim (i b) (λa=>⟨aK f a,u b a⟩)) ((JT f).m (λk a=>.inr a)) ⟨(h.now.on m).m (λk a=>.inl a),(h.ah.2.on m).m (λk a=>.inl a)⟩ (.inl ⟨rfl,rfl⟩)
end
def mD {a b C:Bl}(h:∀k,a k->¬C k)(e:lW C w)(f:∀k,b k->a k\/w.heap.size<=k):∀k,b k->¬C k:=λk g d=>by
 grind
def aY.aside {w w' K Y q}(h:aY w K q M)(b:Fr Y w w')(c:∀k,Y k->¬Bl.or K (fpR q M) k):aY w' K q M:=h.on (b.on (λk a=>⟨h.lies k a,λd=>c k d a⟩))
def aO.aside{w w' Y D}(h:aO w 0 D)(b:Fr Y w w')(c:∀k,Y k->¬fpD D k):aO w' 0 D:=h.on (b.on (λk a=>⟨h.lies k a,λd=>c k d a⟩))
def qMz(M:RM)(v:Nat)(o:Option (Nat×T))(C:Nat->Option (Nat×T)->Prop):Prop:=(∃u,M.p1=.int .i64 u/\(M.p2=.bool true->u=v+1))/\∀v' t,C v' t->(v'=v+1->M.p2=.bool true/\kvB (aU t)=M.oth)/\(v'≠v+1->kvB (aU t)=M.ah\/t=o)
def Safe(n:Nat)(fs:Fs)(v:Nat)(o:Option (Nat×T))(M:RM):Prop:=∃C,iE n fs.safe fs.late v o C/\qMz M v o C
def Fl(B:Nat)(fs:Fs)(M:RM):Prop:=0<=fs.failed/\fs.failed<=B/\M.oth.length<=B/\∀x∈M.ah,x.2.size<=400
def Fl.more {B b:Nat}{fs:Fs}(h:Fl B fs M)(d:B<=b):Fl b fs M:=⟨h.1,by have:=h.2.1;omega,by have:=h.2.2.1;omega,h.2.2.2⟩
structure Wd (n B:Nat) (w:World) (q:Nat) (Bk K:Bl) (D:Db) (v:Nat) (o ao:Option (Nat×T)) (ots:List (Option (Nat×T))) (M:RM):Prop where
 ref:aY w K q M
 lk:Lk n B w D v o ao ots M
 f:M.f=.pointer (some (aD D.β 0))
 x:M.x=.pointer (some (aD D.d 0))
 twice:M.p2=.bool D.failed
 broken:M.p3=.bool D.failed
 safe:Safe n D.fs v o M
 fl:Fl B D.fs M
 spoiled:M.p4=.bool false
 meta':M.p5=.bool false/\M.p6=.slice none 0 0/\M.p7=.slice none 0 0/\M.p8=.slice none 0 0
 apart:∀k,fpD D k->¬Bl.or K (fpR q M) k/\¬Bk k
 book:∀k,Bk k->k<w.heap.size/\¬Bl.or K (fpR q M) k
def Lw(n B:Nat)(w:World)(q:Nat)(Bk:Bl)(vp:Value):Prop:=∃K D v o ao ots M,Wd n B w q Bk K D v o ao ots M/\M.p9=vp
section
variable {n B:Nat}{w w':World}{q:Nat}{Bk K:Bl}{D:Db}{v:Nat}{o ao:Option (Nat×T)}{ots:List (Option (Nat×T))}{M:RM}
def Wd.still (h:Wd n B w q Bk K D v o ao ots M)(e:aO w' 0 D)(c:Fr (Bl.one D.d) w w')(d:B<=B'):Wd n B' w' q Bk K D v o ao ots M :=
 ⟨h.ref.aside c (λb a=>by cases a;exact(h.apart _ (.inl rfl)).1),h.lk.more e d,h.f,h.x,h.twice,h.broken,h.safe,h.fl.more d,h.spoiled,h.meta',h.apart,λb a=>⟨jY (h.book b a).1 c.size,(h.book b a).2⟩⟩
def Wd.below(h:Wd n B w q Bk K D v o ao ots M)(a:bW w w'):Wd n B w' q Bk K D v o ao ots M :=
 ⟨h.ref.below a,h.lk.more (h.lk.db.on (vV a h.lk.db.lies)) (jU _),h.f,h.x,h.twice,h.broken,h.safe,h.fl,h.spoiled,h.meta',h.apart,λc b=>⟨jY (h.book c b).1 a.size,(h.book c b).2⟩⟩
def Wd.both (h:Wd n B w q Bk K D v o ao ots M){D' K' M' B' v' o' ao' ots'}(z:D'.d=D.d)(r:D'.β=D.β)(x:Fr (fpD D) w d)(j:aJ w (fpD D) (fpD D'))(e:Lk n B' d D' v' o' ao' ots' M')(y:aY w' K' q M')(i:Fr (fpR q M) d w')(l:∀k,Bl.or K' (fpR q M') k->Bl.or K (fpR q M) k\/d.heap.size<=k)(t:M'.f=M.f)(u:M'.x=M.x)(p:M'.p2=.bool D'.failed)(E:M'.p3=.bool D'.failed)(s:M'.p4=M.p4)(b:M'.p5=M.p5/\M'.p6=M.p6/\M'.p7=M.p7/\M'.p8=M.p8/\M'.p9=M.p9)(S:Safe n D'.fs v' o' M')(A:Fl B' D'.fs M'):Lw n B' w' q Bk M.p9:=by
 have F:=x.size;have G:=i.size;have C:=e.db.lies;have g:=mD (w:=w) (λk a=>(h.apart k a).1) h.ref.lies j;refine⟨K',D',v',o',ao',ots',M',⟨y,e.more (e.db.aside i (λk a m=>g k m (.inr a))) (jU _),by rw[t,h.f,r],by rw[u,h.x,z],p,E,S,A,by rw[s];exact h.spoiled,by rw[b.1,b.2.1,b.2.2.1,b.2.2.2.1];exact h.meta',λk a=>⟨λf=>by grind,(mD (w:=w) (λk a=>(h.apart k a).2) (λk a=>(h.book k a).1) j) k a⟩,λk a=>⟨by have:=(h.book k a).1;omega,λf=>?_⟩⟩,b.2.2.2.2⟩
 .rcases l k f with c|c
  .exact(h.book k a).2 c
  .have:=(h.book k a).1;omega
def Wd.bothS (h:Wd n B w q Bk K D v o ao ots M){D':Db}{K':Bl}{M':RM}{ao':Option (Nat×T)}{ots':List (Option (Nat×T))}(z:D.sm D')(x:Fr (fpD D) w d)(j:aJ w (fpD D) (fpD D'))(e:Lk n B' d D' v o ao' ots' M')(g:B<=B')(y:aY w' K' q M')(i:Fr (fpR q M) d w')(l:∀k,Bl.or K' (fpR q M') k->Bl.or K (fpR q M) k\/d.heap.size<=k)(t:M'.f=M.f)(u:M'.x=M.x)(p:M'.p2=M.p2)(a:M'.p3=M.p3)(s:M'.p4=M.p4)(b:M'.p5=M.p5/\M'.p6=M.p6/\M'.p7=M.p7/\M'.p8=M.p8/\M'.p9=M.p9)(c:M'.p1=M.p1/\M'.oth=M.oth/\M'.ah=M.ah):Lw n B' w' q Bk M.p9:=by
 have⟨f,H,F,m⟩:=z;have⟨C,G,I⟩:=h.safe;exact h.both f H x j e y i l t u (by rw[p,m];exact h.twice) (by rw[a,m];exact h.broken) s b ⟨C,by rw[F];exact G,by unfold qMz;rw[p,c.1,c.2.1,c.2.2];exact I⟩ (by have:=h.fl.more g;unfold Fl at this⊢;rw[F,c.2.1,c.2.2];exact this)
end
structure OpV where
 kind:Int
 tx:Int
 p:ByteArray
 q:ByteArray
 n:Int
 wr:Bool
 ka:Option Addr
 kn:Nat
 kc:Nat
abbrev OpV.cells(o:OpV):Array Value:=#[.int .i64 o.kind,.int .i64 o.tx,.string o.p,.string o.q,.int .i64 o.n,.bool o.wr,.slice o.ka o.kn o.kc]
section
variable {n B:Nat}{w:World}{q:Nat}{Bk K:Bl}{D:Db}{v:Nat}{o ao:Option (Nat×T)}{ots:List (Option (Nat×T))}{M:RM}
def Wd.box(h:Wd n B w q Bk K D v o ao ots M)(e):Wd n B (w.alloc e) q (Bl.or Bk (Bl.one w.heap.size)) K D v o ao ots M:=by
 have f:bW w (w.alloc e):=bA _ _;have d:=h.below f;refine⟨d.ref,d.lk,h.f,h.x,h.twice,h.broken,h.safe,h.fl,h.spoiled,h.meta',λc a=>⟨(h.apart c a).1,λb=>?_⟩,λc a=>?_⟩
 .rcases b with b|b
  .exact(h.apart c a).2 b
  .cases b;have:=h.lk.db.lies _ a;omega
 .rcases a with a|a
  .exact d.book c a
  .cases a;exact⟨by simp,λb=>by have:=h.ref.lies _ b;omega⟩
def Wd.less(h:Wd n B w q Bk K D v o ao ots M){b}(c:∀k,b k->Bk k):Wd n B w q b K D v o ao ots M:=⟨h.ref,h.lk,h.f,h.x,h.twice,h.broken,h.safe,h.fl,h.spoiled,h.meta',λk a=>⟨(h.apart k a).1,λd=>(h.apart k a).2 (c k d)⟩,λk a=>h.book k (c k a)⟩
def qHm(h:Wd n B w q Bk K D v o ao ots M)(hB:B<=400000)(x key r)(ho:cD M.ts x r):∃z,(z=iF r key\/(z=9/\D.fs.life=0/\pD r key=0))/\
  cL 71 #[.p D.d 0,.i x,.t key] w λe w1=>e=.r (.i z)/\aY w1 K q M/\On Bk w w1/\w.heap.size<=w1.heap.size/\(∃D1,D1.β=D.β/\aO w1 0 D1/\D1.fs=D.fs/\∀k,fpD D1 k->¬Bl.or K (fpR q M) k/\¬Bk k)/\(z≠iF r key->Lw n (B+1) w1 q Bk M.p9)/\(z=iF r key->
   ∀X,bW w1 X->cL 73 #[.p q 2,.i x,.t key] X λe w'=>e=.r (.i (iF r key))/\On Bk w w'/\Lw n (B+1) w' q Bk M.p9):=by
 have hb:=h.lk.bounds;have h8:=h.lk.n8;have⟨z,Q,U⟩:=qLr h.lk (by omega) x key r ho;refine⟨z,Q,?_⟩;apply U.m;rintro e w1 ⟨rfl,N,s,H,I,O⟩;have hz:=H.size;have ap:∀k,fpD D k->¬Bl.or K (fpR q M) k:=λk g=>(h.apart k g).1;have m:=h.ref.aside H ap;have W:On Bk w w1:=H.on (λk g=>⟨(h.book k g).1,λS=>(h.apart k S).2 g⟩);have R:∀k,fpD N k->¬Bl.or K (fpR q M) k/\¬Bk k:=λk g=>⟨mD (w:=w) ap h.ref.lies I k g,mD (w:=w) (λk g=>(h.apart k g).2) (λk g=>(h.book k g).1) I k g⟩;have a0:aO w1 0 N:=by
  rcases O with⟨_,A⟩|⟨j,t,Z,_,_,_,_,_,_,A⟩
  .exact A.db
  .exact(A (.bool false) (.bool false)).db
 refine⟨rfl,m,W,hz,⟨N,s.2.1,a0,s.2.2.1,R⟩,λJ=>?_,λL X G=>?_⟩
 .rcases O with⟨_,A⟩|⟨j,t,Z,_,_,_,_,q1,q2,_⟩
  .exact h.bothS s H I A (by omega) m (AE _ _) (λk g=>.inl g) rfl rfl rfl rfl rfl ⟨rfl,rfl,rfl,rfl,rfl⟩ ⟨rfl,rfl,rfl⟩
  .exact absurd (q2.t q1.symm) J
 have a1:=G.size;have F:=m.below G;have C:∀t∈M.ts,t.l.length<=1000000:=λt ht=>by have:=(hb.2.2 t ht).2.1;omega
 have E:∀{w':World}{K':Bl}{M':RM},Fr (fpR q M) X w'->On Bk w w':=λy=>W.t ((vV G (λk g=>by have:=(h.book k g).1;omega)).t (y.on (λk g=>⟨by have:=(h.book k g).1;omega,λS=>(h.book k g).2 (.inr S)⟩)));rcases O with⟨u,A⟩|⟨j,t,Z,rfl,hw,g,hg,u,_,A⟩
 .rw[L]at u;refine(qEv F x key r ho (by omega) C u).m ?_
  rintro e w' ⟨rfl,rfl⟩;have fr:Fr (fpR q M) w1 w':=AB G;exact⟨rfl,W.t (vV G (λk g=>by have:=(h.book k g).1;omega)),h.bothS s H I A (by omega) F fr (λk g=>.inl g) rfl rfl rfl rfl rfl ⟨rfl,rfl,rfl,rfl,rfl⟩ ⟨rfl,rfl,rfl⟩⟩
 .have ht:=BL ho.1
  rw[u];apply(qEw F x key j t ho (by omega) (C t ht) (by grind) hw g Z hg C).m;rintro e w' ⟨rfl,K',v1,vc,V,y,Y⟩;refine⟨rfl,E (K':=K') (M':=M) y,h.bothS s H I (A v1 vc) (by omega) V ((AB G).t y) (λk g=>(Y k g).imp id (λh'=>by omega)) rfl rfl rfl rfl rfl ⟨rfl,rfl,rfl,rfl,rfl⟩ ⟨rfl,rfl,rfl⟩⟩
end
section
variable {n B:Nat}{w:World}{q:Nat}{Bk K:Bl}{D:Db}{v:Nat}{o ao:Option (Nat×T)}{ots:List (Option (Nat×T))}{M:RM}
def qFc(h:Wd n B w q Bk K D v o ao ots M)(hB:B<=400000)(x key val r)(ho:cD M.ts x r):
  cL 13 #[.p D.d 0,.i x,.t key,.t val] w λe w1=>e=.r (.i (mG r key val))/\aY w1 K q M/\On Bk w w1/\w.heap.size<=w1.heap.size/\(∃D1,D1.β=D.β/\aO w1 0 D1/\D1.fs=D.fs/\∀k,fpD D1 k->¬Bl.or K (fpR q M) k/\¬Bk k) /\
   ∀X,bW w1 X->cL 25 #[.p q 2,.i x,.t key,.t val] X λe w'=>e=.r (.i (mG r key val))/\On Bk w w'/\Lw n (B+1) w' q Bk M.p9:=by
 have V:=h.lk.bounds;have h8:=h.lk.n8;apply(qFb h.lk (by omega) x key val r ho).m;rintro e w1 ⟨rfl,E,c,A,C,S⟩;have hz:=A.size;have U:∀k,fpD D k->¬Bl.or K (fpR q M) k:=λk a=>(h.apart k a).1;have f:=h.ref.aside A U;have J:On Bk w w1:=A.on (λk a=>⟨(h.book k a).1,λH=>(h.apart k H).2 a⟩);have G:∀k,fpD E k->¬Bl.or K (fpR q M) k/\¬Bk k:=λk a=>⟨mD (w:=w) U h.ref.lies C k a,mD (w:=w) (λk a=>(h.apart k a).2) (λk a=>(h.book k a).1) C k a⟩;have Q:aO w1 0 E:=by
  rcases S with⟨_,y⟩|⟨j,t,_,_,_,_,_,y⟩
  .exact y.db
  .exact(y (.bool false) (.bool false)).db
 refine⟨rfl,f,J,hz,⟨E,c.2.1,Q,c.2.2.1,G⟩,λX z=>?_⟩;have Y:=z.size;have u:=f.below z;have O:∀t∈M.ts,t.l.length<=1000000:=λt R=>by have:=(V.2.2 t R).2.1;omega
 have s:∀{w':World}{K':Bl}{M':RM},Fr (fpR q M) X w'->On Bk w w':=λb=>J.t ((vV z (λk a=>by have:=(h.book k a).1;omega)).t (b.on (λk a=>⟨by have:=(h.book k a).1;omega,λH=>(h.book k a).2 (.inr H)⟩)));rcases S with⟨m,y⟩|⟨j,t,rfl,hw,a,F,m,y⟩
 .refine(qEs u x key val r ho (by omega) m).m ?_
  rintro e w' ⟨rfl,rfl⟩;have Z:Fr (fpR q M) w1 w':=AB z;exact⟨rfl,J.t (vV z (λk a=>by have:=(h.book k a).1;omega)),h.bothS c A C y (by omega) u Z (λk a=>.inl a) rfl rfl rfl rfl rfl ⟨rfl,rfl,rfl,rfl,rfl⟩ ⟨rfl,rfl,rfl⟩⟩
 .have R:=BL ho.1
  rw[m];apply(qEt u x key val j t ho (by omega) (O t R) (by grind) hw a F).m;rintro e w' ⟨rfl,K',v1,W,I,b,L⟩;refine⟨rfl,s (K':=K') (M':=M) b,h.bothS c A C (y v1 W) (by omega) I ((AB z).t b) (λk a=>(L k a).imp id (λh'=>by omega)) rfl rfl rfl rfl rfl ⟨rfl,rfl,rfl,rfl,rfl⟩ ⟨rfl,rfl,rfl⟩⟩
def wU(M:RM):Int×Int:=if M.ts.length<8 then (M.last+1,0) else (0,6)
def Xm(h:Wd n B w q Bk K D v o ao ots M)(N:B<=400000)(g):
  cL 12 #[.p D.d 0,.bool g] w λe f=>e=.r (.tuple #[.i (wU M).1,.i (wU M).2])/\aY f K q M/\On Bk w f/\w.heap.size<=f.heap.size /\
   ∀X,bW f X->cL 22 #[.p q 2,.bool g] X λe w'=>e=.r (.tuple #[.i (wU M).1,.i (wU M).2])/\On Bk w w'/\Lw n (B+1) w' q Bk M.p9:=by
 have r:=h.lk.bounds;have J:=h.lk.n8;have P:=h.lk.len;have A:∀a,fpD D a->¬Bl.or K (fpR q M) a:=λa b=>(h.apart a b).1;have u:=h.lk.last0;have Q:=h.lk.last1;unfold wU;by_cases hn:M.ts.length<8
 .simp only[hn,MA]
  refine(Hb h.lk (by omega) g hn).m ?_;rintro e f ⟨rfl,O,C,c,E,F⟩;have p:=c.size;have m:=h.ref.aside c A;have i:On Bk w f:=c.on (λa b=>⟨(h.book a b).1,λk=>(h.apart a k).2 b⟩);refine⟨rfl,m,i,p,λX d=>?_⟩;have y:=d.size;refine(Uj (m.below d) g hn (by have:=r.1;omega) ⟨u,by omega⟩).m ?_;rintro e w' ⟨rfl,I,z,H,G,l,x⟩;exact⟨rfl,i.t ((vV d (λa b=>by have:=(h.book a b).1;omega)).t (l.on (λa b=>⟨by have:=(h.book a b).1;omega,λk=>(h.book a b).2 (.inr k)⟩))),h.bothS C c E (F z H) (by omega) G ((AB d).t l) (λa b=>(x a b).imp id (λL=>by omega)) rfl rfl rfl rfl rfl ⟨rfl,rfl,rfl,rfl,rfl⟩ ⟨rfl,rfl,rfl⟩⟩
 .simp only[hn,KS]
  refine(Xl D g w h.lk.db (by omega)).m ?_;rintro e f ⟨rfl,s,c⟩;have t:Fr (Bl.one D.d) w f:=c.m (λ_ h=>h.elim);have j:=h.still s t (JY B 1);have i:=c.on (λa b=>⟨(h.book a b).1,λh=>h⟩);refine⟨rfl,j.ref,i,c.size,λX d=>?_⟩;have y:=d.size;have p:=c.size;refine(Oe (j.ref.below d) g (by omega)).m ?_;rintro e w' ⟨rfl,rfl⟩;exact⟨rfl,i.t (vV d (λa b=>by have:=(h.book a b).1;omega)),K,D,v,o,ao,ots,M,j.below d,rfl⟩
def qKn(r:Option (Nat×RT)):Int:=if r.isSome=true then 0 else 3
def Xo(h:Wd n B w q Bk K D v o ao ots M)(N:B<=400000)(x r)(k:cD M.ts x r):
  cL 27 #[.p D.d 0,.i x] w λe f=>e=.r (.i (qKn r))/\aY f K q M/\On Bk w f/\w.heap.size<=f.heap.size /\
   ∀X,bW f X->cL 28 #[.p q 2,.i x] X λe w'=>e=.r (.i (qKn r))/\On Bk w w'/\Lw n (B+1) w' q Bk M.p9:=by
 have J:=h.lk.n8;have P:=h.lk.len;have m:∀a,fpD D a->¬Bl.or K (fpR q M) a:=λa b=>(h.apart a b).1;cases r with
 |none =>
  refine(Xn D x w h.lk.db (by omega) (h.lk.miss k)).m ?_;rintro e f ⟨rfl,G,d⟩;have l:=d.size;have g:=h.ref.aside d m;have j:On Bk w f:=d.on (λa b=>⟨(h.book a b).1,λi=>(h.apart a i).2 b⟩);refine⟨rfl,g,j,l,λX c=>?_⟩;have H:=c.size;refine(qIy (g.below c) x k (by omega)).m ?_;rintro e w' ⟨rfl,rfl⟩;exact⟨rfl,j.t (vV c (λa b=>by have:=(h.book a b).1;omega)),h.bothS Db.sm_rfl d (CR _ _) (h.lk.more G (JY B 1)) (by omega) (g.below c) (AB c) (λa b=>.inl b) rfl rfl rfl rfl rfl ⟨rfl,rfl,rfl,rfl,rfl⟩ ⟨rfl,rfl,rfl⟩⟩
 |some p =>
  obtain⟨t,u⟩:=p;refine(Tf h.lk x t u k).m ?_;rintro e f ⟨rfl,O,E,d,y,z⟩;have l:=d.size;have g:=h.ref.aside d m;have j:On Bk w f:=d.on (λa b=>⟨(h.book a b).1,λi=>(h.apart a i).2 b⟩);refine⟨rfl,g,j,l,λX c=>?_⟩;have H:=c.size;refine(wS (g.below c) x t u k (by omega)).m ?_;rintro e w' ⟨rfl,F,A,I,C⟩;have s:Fr (fpR q M) X w':=I.m (λa b=>.inl (.inl b));exact⟨rfl,j.t ((vV c (λa b=>by have:=(h.book a b).1;omega)).t (s.on (λa b=>⟨by have:=(h.book a b).1;omega,λi=>(h.book a b).2 (.inr i)⟩))),h.bothS E d y (z F) (by omega) A ((AB c).t s) (λa b=>(C a b).imp id (λL=>by omega)) rfl rfl rfl rfl rfl ⟨rfl,rfl,rfl,rfl,rfl⟩ ⟨rfl,rfl,rfl⟩⟩
end
variable {K:Bl} {M:RM} {c:List RT} {i q:Nat}
def aY.notK {w}(h:aY w K q M){k}(f:fpR q M k):¬K k:=λe=>by
 have⟨_,b,c,d⟩:=h.kp k e;rcases f with a|a|⟨i,g,a⟩
 .exact b a
 .exact c a
 .exact d i g a
def Te (h:c.Pairwise (λa b=>∀k,fpX a k->¬fpX b k)){j t}(m:c[j]?=some t):∀s∈c.eraseIdx j,∀k,fpX s k->¬fpX t k:=λs p k d e=>by
 obtain⟨i,f,o,rfl⟩:=LU.1 p;obtain⟨g,rfl⟩:=AD.1 m;rcases Nat.lt_or_gt_of_ne o with n|l
 .exact BD.1 h i j f g n k d e
 .exact BD.1 h j i g f l k e d
structure Upd (E:List RT) (ks:List ByteArray) (i m:Nat) (ts:List RT):Prop where
 len:ts.length=E.length
 each:∀a (h:a<E.length) (h':a<ts.length),ts[a].num=E[a].num/\ts[a].wr=E[a].wr/\ts[a].bg=E[a].bg/\ts[a].l=E[a].l/\ts[a].ch=E[a].ch/\ts[a].oth=E[a].oth++(if a<i then ks else if a=i then ks.take m else [])
def Upd.start(b ks):Upd b ks 0 0 b:=⟨rfl,λa c d=>⟨rfl,rfl,rfl,rfl,rfl,by by_cases e:a=0<;>simp[e]⟩⟩
def Upd.next {ks d}(h:Upd c ks i ks.length d):Upd c ks (i+1) 0 d:=⟨h.len,λa m n=>by
 have⟨e,f,g,j,k,l⟩:=h.each a m n;refine⟨e,f,g,j,k,l.t ?_⟩;congr 1;rcases GT a i with b|b|b
 .rw[AU b,AU (by omega)]
 .rw[AR (by omega),AU b,AU (by omega),BK]
 .rw[AR (by omega),AR (by omega),AR (by omega)];split<;>simp⟩
def Upd.step {ks i m b}(h:Upd c ks i m b)(hi:i<b.length)(p:m<ks.length)(q):Upd c ks i (m+1) (b.set i (b[i].lost ks[m] q)):=⟨by rw[CL];exact h.len,λa o n=>by
 rw[CL]at n;have⟨d,f,g,j,k,l⟩:=h.each a o n;rw[DN];by_cases e:i=a
 .subst e
  rw[AU rfl];refine⟨d,f,g,j,k,?_⟩;show b[i].oth++[ks[m]]=_;rw[l,AR (by omega),AU rfl,AR (by omega),AU rfl,AN p,BU]
 .rw[AR e]
  refine⟨d,f,g,j,k,l.t ?_⟩;congr 1;by_cases e2:a<i
  .rw[AU e2,AU e2]
  .rw[AR e2,AR e2,AR (by omega),AR (by omega)]⟩
structure tT (W X:World) (K:Bl) (q:Nat) (M:RM) (b:Nat) (ob:Obj) (ca:Option Addr) (cc:Nat) (ch:List Ch) (ts:List RT):Prop where
 ref:aY X K q {M with ts:=ts}
 fr:Fr (fpR q M) W X
 gr:∀k,Bl.or K (fpR q {M with ts:=ts}) k->Bl.or K (fpR q M) k\/W.heap.size<=k
 box:X.heap[b]?=some ob
 row:aH X (λk=>(Value.slice ca ch.length cc).ownBlock=some k) ca (ch.flatMap Ch.cells)
 nx:∀k,(k=b\/(Value.slice ca ch.length cc).ownBlock=some k)->k<X.heap.size/\¬fpR q {M with ts:=ts} k
def tT.lose {W X X3 b t n o p j}(h:tT W X K q M b t n o p j){s}(hi:j[i]?=some s){g c}(e:M.ov=.q g j.length c)(key){l:Value}(u:fF 9 1 s.vo s.oth.length (s.oth.map .string) [.t key] 1 X.drew l X3):
  tT W (X3.setCell (aD g (i * 7+6)) l) K q M b t n o p (j.set i (s.lost key l)):=by
 have⟨R,F,m⟩:=(h.ref.on (CN _ _).drew).lose hi e key u rfl;have k:=(AE _ X).drew.t F;have w:∀d,fpR q {M with ts:=j} d->fpR q M d\/W.heap.size<=d:=λd f=>by
  rcases h.gr d (.inr f) with(a|a)|a
  .exact absurd a (h.ref.notK f)
  .exact .inl a
  .exact .inr a
 have v:=k.on h.nx;refine⟨R,h.fr.grow k w,λd f=>?_,v.heap h.box (.inl rfl),h.row.on (v.m (λd f=>.inr f)),λd f=>⟨jY (h.nx d f).1 k.size,λr=>?_⟩⟩
 .rcases m d f with a|a
  .exact h.gr d a
  .have:=h.fr.size;exact .inr (vJ this a)
 .rcases m d (.inr r) with(a|a)|a
  .exact absurd a (R.notK r)
  .exact(h.nx d f).2 a
  .have y:=(h.nx d f).1;have:X.drew.heap.size=X.heap.size:=rfl;omega
def qAs {w}(h:aY w K q M)(x j t)(ho:cD M.ts x (some (j,t)))(hn:M.ts.length<=8)(hl:M.now.length+t.ch.length<=1000000)(hv:M.nv<1000000000/\0<=M.nv)(hch:0<t.ch.length)(hoth:∀s∈M.ts,s.oth.length<=1000000):
  cL 80 #[.p q 2,.i x] w λe w'=>e=.r (.tuple #[])/\∃K' v vo ts',aY w' K' q {M with va:=M.vn,av:=M.nv,ah:=M.now,vn:=v,nv:=M.nv+1,now:=t.ch.foldl dP M.now,ov:=vo,ts:=ts'}/\Upd (M.ts.eraseIdx j) (t.ch.map (·.key)) (M.ts.eraseIdx j).length 0 ts'/\Fr (fpR q M) w w'/\∀k,Bl.or K' (fpR q {M with va:=M.vn,av:=M.nv,ah:=M.now,vn:=v,nv:=M.nv+1,now:=t.ch.foldl dP M.now,ov:=vo,ts:=ts'}) k->Bl.or K (fpR q M) k\/w.heap.size<=k:=by
 have HF:Hid (∀X,bW w X->cL 66 #[.pointer (some (aD q 2)),.int .i64 x] X λe w'=>e=.returned (.int .i64 (j:Int))/\w'=X):=λX hX=>gS h ho hn X hX;have HA:Hid (∀X,bW w X->cL 79 #[.pointer (some (aD q 2)),.int .i64 x] X λe w'=>∃v,e=.returned (.agg #[v,.int .i64 (M.nv+1)])/\w'.ownsRow 0 71 2 v (t.ch.foldl dP M.now).length (aI (t.ch.foldl dP M.now))/\bW X w'/\∀k,v.ownBlock=some k->X.heap.size<=k):=λX hX=>vI (h.below hX) x j t ho hn hl hv;have hj:=ho.1;have hjl:j<M.ts.length:=(AD.1 hj).1;have hmem:t∈M.ts:=BL hj;obtain⟨L,hL⟩:=nM (t.ch.foldl dP M.now);rw[hL]at HA⊢;obtain⟨E,hE⟩:=nM (M.ts.eraseIdx j);rw[hE];obtain⟨ba,bc,e1,_⟩:=(h.each t hmem).bg;obtain⟨la,lc,e2,_⟩:=(h.each t hmem).l;obtain⟨ca,cc,e3⟩:=aG (h.each t hmem).ch;obtain⟨oa,oc,e4⟩:=aG (h.each t hmem).oth;have hvc:=(h.each t hmem).ch;obtain⟨num,wrb,bg,bv,tl,ch,oth,vb,vl,vc,vo⟩:=t;dsimp only at e1 e2 e3 e4 hl hch hvc⊢;subst e1 e2 e3 e4;obtain⟨g,c,hc,hTX⟩:=h.txCells hj;obtain⟨na,nc,hvn,_⟩:=h.now;have HTX:Hid (∀X,bW w X->Cy X q j M ⟨num,wrb,bg,bv,tl,ch,oth,.slice ba bg.length bc,.slice la tl.length lc,.slice ca ch.length cc,.slice oa oth.length oc⟩ g c):=hTX;have B0:bW w w:=AC _ _;have hchi:(0:Int)<(ch.length:Int):=by omega
 have hql:=(gL h.box);have HW4:Hid (∀W2 W3 (v3:Value),bW w W2->W2.heap[w.heap.size]?=some (.cells #[.int .i64 num,.bool wrb,.slice ba bg.length bc,.int .i64 bv,.slice la tl.length lc,.slice ca ch.length cc,.slice oa oth.length oc] 119)->bW W2 W3->W3.ownsRow 0 71 2 v3 L.length (aI L)->(∀k,v3.ownBlock=some k->W2.heap.size<=k)->∃W4 W5 W6,W3.alloc (.cells #[v3,.int .i64 (M.nv+1)] 32)=W4/\(W4.setCell (aD q 4) (.slice na M.now.length nc)).setCell (aD q 5) (.int .i64 M.nv)=W5/\(W5.setCell (aD q 2) v3).setCell (aD q 3) (.int .i64 (M.nv+1))=W6/\W4.heap[q]?=some M.obj/\(∃ob,W5.heap[q]?=some (.cells ob 43)/\W5.cell? (aD q 2)=some M.vn/\W5.cell? (aD q 3)=some (.int .i64 M.nv))/\W4.heap[W3.heap.size]?=some (.cells #[v3,.int .i64 (M.nv+1)] 32)/\W5.heap[W3.heap.size]?=some (.cells #[v3,.int .i64 (M.nv+1)] 32)/\aY W6 (λk=>K k\/v3.ownBlock=some k) q {M with va:=M.vn,av:=M.nv,ah:=M.now,vn:=v3,nv:=M.nv+1,now:=L}/\W6.heap[w.heap.size]?=some (.cells #[.int .i64 num,.bool wrb,.slice ba bg.length bc,.int .i64 bv,.slice la tl.length lc,.slice ca ch.length cc,.slice oa oth.length oc] 119)/\Fr (Bl.one q) w W6):=by
  intro W2 W3 v3 hB2 x2 hB3 hO3 hl3;have hB4:bW w W3:=hB2.t (hB3.m hB2.size);have z3:=hB4.size;have BA:bW w (W3.alloc (.cells #[v3,.int .i64 (M.nv+1)] 32)):=hB4.alloc hB4.size _;obtain⟨W4,hW4,-,y4,-⟩:=al1 W3 (.cells #[v3,.int .i64 (M.nv+1)] 32);rw[hW4]at BA;have hR4:=h.below BA;have q5:=aB (aB hR4.box 4 (.slice na M.now.length nc)) 5 (.int .i64 M.nv);obtain⟨W5,hW5⟩:=nM ((W4.setCell (aD q 4) (.slice na M.now.length nc)).setCell (aD q 5) (.int .i64 M.nv));rw[hW5]at q5;have f5:Fr (Bl.one q) W4 W5:=hW5▸((AE (Bl.one q) W4).s q 4).s q 5;have q6:=aB (aB q5 2 v3) 3 (.int .i64 (M.nv+1));obtain⟨W6,hW6⟩:=nM ((W5.setCell (aD q 2) v3).setCell (aD q 3) (.int .i64 (M.nv+1)));rw[hW6]at q6;have f6:Fr (Bl.one q) W5 W6:=hW6▸((AE (Bl.one q) W5).s q 2).s q 3;have hO4:W4.ownsRow 0 71 2 v3 L.length (aI L):=hW4▸CH (w:=W3) hO3 _;have hq3:W3.heap.size≠q:=λe=>by omega
  have RN:=hR4.renow (v:=v3) (L:=L) hO4 (λk hk hf=>by
   have h1:=hl3 k hk;have h2:k<w.heap.size:=h.lies k (.inr hf);have:=hB2.size;omega) (M.nv+1) (w':=W6) (f5.t f6) (by rw[<-hvn]at q6;simpa using q6)
  have x3:W3.heap[w.heap.size]?=_:=(hB3.block _ (gL x2)).t x2;have x4:=aQ (.cells #[v3,.int .i64 (M.nv+1)] 32) x3;rw[hW4]at x4;have x6:=(f5.t f6).heap x4 (oN (by omega));exact⟨W4,W5,W6,hW4,hW5,hW6,hR4.box,⟨_,q5,by simp[World.cell?,q5],by simp[World.cell?,q5]⟩,y4,f5.heap y4 hq3,RN,x6,(AB BA).t (f5.t f6)⟩
 have HEn:Hid (∀X (v3:Value),aY X (λk=>K k\/v3.ownBlock=some k) q {M with va:=M.vn,av:=M.nv,ah:=M.now,vn:=v3,nv:=M.nv+1,now:=L}->cL 28 #[.pointer (some (aD q 2)),.int .i64 x] X λe w'=>e=.returned (.int .i64 0)/\∃v,aY w' (λk=>K k\/v3.ownBlock=some k) q {M with va:=M.vn,av:=M.nv,ah:=M.now,vn:=v3,nv:=M.nv+1,now:=L,ov:=v,ts:=E}/\Fr (Bl.one q) X w'/\∀k,Bl.or (λk=>K k\/v3.ownBlock=some k) (fpR q {M with ov:=v,ts:=E}) k->Bl.or (λk=>K k\/v3.ownBlock=some k) (fpR q M) k\/X.heap.size<=k):=λX v3 hR=>by rw[<-hE];exact wS hR x j _ ho hn
 have HVN:Hid (M.vn=.slice na M.now.length nc):=hvn;clear hTX hvn;go_enter Tryz.func80,Tryz.ntmps80;go_wp2;obtain⟨b6,c0,c1,c2,c3,c4,c5,c6⟩:=HTX.o w B0;go_region_held3 (λX=>X.cell? (aD q 6)=some (.slice (some (aD g 0)) M.ts.length c)/\X.cell? (aD g (j * 7))=some (.int .i64 num)/\X.cell? (aD g (j * 7+1))=some (.bool wrb)/\X.cell? (aD g (j * 7+2))=some (.slice ba bg.length bc)/\X.cell? (aD g (j * 7+3))=some (.int .i64 bv)/\X.cell? (aD g (j * 7+4))=some (.slice la tl.length lc)/\X.cell? (aD g (j * 7+5))=some (.slice ca ch.length cc)/\X.cell? (aD g (j * 7+6))=some (.slice oa oth.length oc))
  ((refine HTX.o _ ?_;(repeat (first|exact B0|(refine JM ?_)|(refine KY ?_ (by first|omega|(simp;omega)|exact jU _) _)|(refine JQ ?_ (by first|omega|(simp;omega)|exact jU _) _)))))
  ((go_at_call 66;(with_reducible refine Calls.m (HF.o _ ?_) ?_);(first|exact B0.drew|exact(B0.alloc B0.size _).drew|exact B0.drew.alloc B0.size _);rintro e w' ⟨rfl,hw⟩;subst w'))
 all_goals
  obtain⟨W2,hW2⟩:=nM ((w.alloc (.cells #[.int .i64 num,.bool wrb,.slice ba bg.length bc,.int .i64 bv,.slice la tl.length lc,.slice ca ch.length cc,.slice oa oth.length oc] 119)).drew);have B2:bW w W2:=hW2▸(B0.alloc (jU _) _).drew;have x2:W2.heap[w.heap.size]?=some (.cells #[.int .i64 num,.bool wrb,.slice ba bg.length bc,.int .i64 bv,.slice la tl.length lc,.slice ca ch.length cc,.slice oa oth.length oc] 119):=by rw[<-hW2,GX];exact aC w _
  obtain⟨y0,y1,y2,y3,y4,y5,y6⟩:=qIe x2;have hA:=HA.o W2 B2;clear b6 c0 c1 c2 c3 c4 c5 c6;go_wp2_with (first
   |(go_at_call 79;apply Calls.m hA;rintro e W3 ⟨v3,rfl,hO3,hB3,hl3⟩;obtain⟨a3,d3,rfl⟩:=aG hO3;obtain⟨W4,W5,W6,hW4,hW5,hW6,q4,⟨ob5,q5,q52,q53⟩,s4,s5,hR6,x6,hF6⟩:=HW4.o W2 W3 _ B2 x2 hB3 hO3 hl3;obtain⟨_,_,m2,m3,m4,m5,_⟩:=dE q4;rw[HVN.o]at m2;have f4:=aA q4;have f5:=aA q5;obtain⟨r0,r1⟩:=bY s4;obtain⟨r2,r3⟩:=bY s5;have hEn:=HEn.o W6 _ hR6)
   |(go_at_call 28;apply Calls.m hEn;rintro e W7 ⟨rfl,vo,hR7,hF7,hG7⟩))
  obtain⟨M7,hM7⟩:∃M7:RM,{M with va:=M.vn,av:=M.nv,ah:=M.now,vn:=.slice a3 L.length d3,nv:=M.nv+1,now:=L,ov:=vo,ts:=E}=M7:=⟨_,rfl⟩;have F07:Fr (Bl.one q) w W7:=hF6.t hF7;have D7:tT W7 W7 (λk=>K k\/(Value.slice a3 L.length d3).ownBlock=some k) q M7 w.heap.size (.cells #[.int .i64 num,.bool wrb,.slice ba bg.length bc,.int .i64 bv,.slice la tl.length lc,.slice ca ch.length cc,.slice oa oth.length oc] 119) ca cc ch E:=by
   have x7:=hF7.heap x6 (oN (by omega));have lv:∀k,(Value.slice ca ch.length cc).ownBlock=some k->k<w.heap.size/\¬Bl.one q k:=λk hk=>⟨aK hvc hk,λe=>by simp only[Bl.one]at e;subst e;exact aP hvc h.box (by decide) hk⟩;have hvc7:=aS hvc (F07.on lv) (λk hk=>hk);obtain⟨ca',cc',ec,_,hrow⟩:=bR hvc7;simp only[AQ,CV]at ec;obtain⟨rfl,rfl⟩:=ec;refine⟨by rw[<-hM7];exact hR7,AE _ _,λk hk=>.inl (by rw[<-hM7]at hk⊢;exact hk),x7,hrow,λk hk=>?_⟩;rw[<-hM7];rcases hk with rfl|hk
   .refine⟨(gL x7),λhf=>?_⟩
    rcases hG7 _ (.inr hf) with(h1|h1)|h1
    .exact hR7.notK hf h1
    .exact absurd (h.lies _ (.inr h1)) (by omega)
    .have:=(gL x6);omega
   .refine⟨aK hvc7 hk,λhf=>?_⟩
    rcases hf with e|e|⟨s,hs,e⟩
    .exact(lv k hk).2 e
    .rcases dS hvc7 hR7.row (by decide) with h1|h1
     .rw[h1]at hk;cases hk
     .exact h1 (hk.t e.symm)
    .rw[<-hE]at hs
     exact Te h.apart hj s hs k e (.inl hk)
  have HFN:Hid (∀X ts',Upd E (ch.map (·.key)) E.length 0 ts'->tT W7 X (λk=>K k\/(Value.slice a3 L.length d3).ownBlock=some k) q M7 w.heap.size (.cells #[.int .i64 num,.bool wrb,.slice ba bg.length bc,.int .i64 bv,.slice la tl.length lc,.slice ca ch.length cc,.slice oa oth.length oc] 119) ca cc ch ts'->∃K' v vo ts',aY X K' q {M with va:=M.vn,av:=M.nv,ah:=M.now,vn:=v,nv:=M.nv+1,now:=L,ov:=vo,ts:=ts'}/\Upd E (ch.map (·.key)) E.length 0 ts'/\Fr (fpR q M) w X/\∀k,Bl.or K' (fpR q {M with va:=M.vn,av:=M.nv,ah:=M.now,vn:=v,nv:=M.nv+1,now:=L,ov:=vo,ts:=ts'}) k->Bl.or K (fpR q M) k\/w.heap.size<=k):=by
   intro X ts' hU hD;have hz7:=F07.size;have G0:∀k,Bl.or (λk=>K k\/(Value.slice a3 L.length d3).ownBlock=some k) (fpR q M7) k->Bl.or K (fpR q M) k\/w.heap.size<=k:=λk hk=>by
    rw[<-hM7]at hk;have hv3:∀k,(Value.slice a3 L.length d3).ownBlock=some k->w.heap.size<=k:=λk hk=>by have:=hl3 k hk;have:=B2.size;omega
    rcases hG7 k hk with(h1|h1)|h1
    .exact h1.imp (λh'=>.inl h') (hv3 k)
    .exact .inl (.inr h1)
    .have:=hF6.size;exact .inr (by omega)
   refine⟨(λk=>K k\/(Value.slice a3 L.length d3).ownBlock=some k),.slice a3 L.length d3,vo,ts',by have:=hD.ref;rw[<-hM7]at this;exact this,hU,(F07.m (λk hk=>.inl (.inl hk))).grow hD.fr (λk hk=>?_),λk hk=>?_⟩
   .rcases G0 k (.inr hk) with(h1|h1)|h1
    .exact absurd (GP h1) (D7.ref.notK (by rw[<-hM7]at hk⊢;exact hk))
    .exact .inl h1
    .exact .inr h1
   .rcases hD.gr k (by rw[<-hM7];exact hk) with h1|h1
    .exact G0 k h1
    .exact .inr (by omega)
  have HOE:Hid (∀s∈E,s.oth.length<=1000000):=λs hs=>hoth s (by rw[<-hE]at hs;exact(DF _ _).subset hs);have HD7:Hid (tT W7 W7 (λk=>K k\/(Value.slice a3 L.length d3).ownBlock=some k) q M7 w.heap.size (.cells #[.int .i64 num,.bool wrb,.slice ba bg.length bc,.int .i64 bv,.slice la tl.length lc,.slice ca ch.length cc,.slice oa oth.length oc] 119) ca cc ch E):=D7;obtain⟨oA,oC,hov⟩:=aG (show W7.ownsRow 0 119 7 M7.ov E.length _ from D7.ref.row);have HOV:Hid (M7.ov=.slice oA E.length oC):=hov;have HB6:Hid (∀X ts',tT W7 X (λk=>K k\/(Value.slice a3 L.length d3).ownBlock=some k) q M7 w.heap.size (.cells #[.int .i64 num,.bool wrb,.slice ba bg.length bc,.int .i64 bv,.slice la tl.length lc,.slice ca ch.length cc,.slice oa oth.length oc] 119) ca cc ch ts'->X.cell? (aD q 6)=some (.slice oA E.length oC)/\X.cell? (aD w.heap.size 5)=some (.slice ca ch.length cc)):=λX ts' hD=>by
   have:=(dE hD.ref.box).2.2.2.2.2.2.1;rw[show({M7 with ts:=ts'}:RM).ov=M7.ov from rfl,hov]at this;exact⟨this,(qIe hD.box).2.2.2.2.2.1⟩
  have hE8:E.length<=8:=by rw[<-hE,CJ hjl];omega
  clear hov D7 h ho hj hmem hR7 hF7 hG7 hF6 hR6 x6 hvc hEn hA hO3 hB3 hl3 hW4 hW5 hW6 q4 q5 s4 s5 m2 m3 m4 m5 f4 f5 r0 r1 r2 r3 q52 q53 x2 y0 y1 y2 y3 y4 y5 y6 hoth hM7 HW4 HEn HA HF HTX;go_loopw [6,7] (λi k wr=>∃(a:Nat) (ts':List RT),i=.int .i64 a/\a<=E.length/\Hid (Upd E (ch.map (·.key)) a 0 ts'/\tT W7 wr (λk=>K k\/(Value.slice a3 L.length d3).ownBlock=some k) q M7 w.heap.size (.cells #[.int .i64 num,.bool wrb,.slice ba bg.length bc,.int .i64 bv,.slice la tl.length lc,.slice ca ch.length cc,.slice oa oth.length oc] 119) ca cc ch ts')) (λi _ _=>E.length-(intOf i).toNat)
  case atStart=>exact⟨0,E,rfl,AG _,Upd.start _ _,HD7.o⟩
  case round =>
   obtain⟨a,ts',rfl,ha,HH⟩:=hrel;obtain⟨r6,r5⟩:=HB6.o wr ts' HH.o.2;rcases BR a E.length with hlt|hge
   .have hji:(a:Int)<(E.length:Int):=by omega
    go_wp2;go_loopw [7] (λk wr=>∃(m:Nat) (ts':List RT),k=.int .i64 m/\m<=ch.length/\Hid (Upd E (ch.map (·.key)) a m ts'/\tT W7 wr (λk=>K k\/(Value.slice a3 L.length d3).ownBlock=some k) q M7 w.heap.size (.cells #[.int .i64 num,.bool wrb,.slice ba bg.length bc,.int .i64 bv,.slice la tl.length lc,.slice ca ch.length cc,.slice oa oth.length oc] 119) ca cc ch ts')) (λk _=>ch.length-(intOf k).toNat)
    case atStart=>exact⟨0,ts',rfl,AG _,HH.o⟩
    case round =>
     clear r6 r5 HH;obtain⟨m,ts',rfl,hm,HH⟩:=hrel;obtain⟨r6,r5⟩:=HB6.o wr ts' HH.o.2;rcases BR m ch.length with hlt2|hge2
     .have hji2:(m:Int)<(ch.length:Int):=by omega
      obtain⟨hU,hD⟩:=HH.o;have hlen:=hU.len;have hal:a<ts'.length:=by omega
      have hsi:ts'[a]?=some ts'[a]:=jQ hal;obtain⟨s,hs⟩:=nM (ts'[a]);obtain⟨g1,c1,e1,hc1,k6⟩:=hD.ref.tx hsi;replace k6:=k6.2.2.2.2.2.2;rw[show({M7 with ts:=ts'}:RM).ov=M7.ov from rfl,HOV.o]at e1;simp only[AQ]at e1;replace e1:=e1.1;subst e1;rw[hs]at k6;have hmem:s∈ts':=hs▸AA hal;have hso:=(hD.ref.each s hmem).oth;obtain⟨sa,sc,hsv⟩:=aG hso;obtain⟨sn,hsn⟩:=nM (s.oth.length);rw[hsv,hsn]at hso;rw[hsv,hsn]at k6;have hsl:sn<=2000000:=by
       have e6:=(hU.each a hlt hal).2.2.2.2.2;have:=HOE.o _ (AA hlt);rw[hs]at e6;rw[<-hsn,e6,jK,AR (by omega),AU rfl,AY,AF];omega
      obtain⟨cb,co,rfl,hcb,d0,d1,d2⟩:=hD.row.ch hlt2;obtain⟨ck,hck⟩:=nM ((ch[m]).key);rw[hck]at d0;have hrow:=hD.ref.row;obtain⟨gcur,hgc⟩:=kZ (show wr.ownsRow 0 119 7 (.slice (some (aD g1 0)) E.length oC) _ _ by rw[<-HOV.o,<-hlen];exact hrow);have lg:=(gL hgc);have lq:=(gL hD.ref.box);have lb:=(gL hD.box);have hcl:=(hD.nx cb (.inr (hcb))).1;have nb:∀k,(k=w.heap.size\/(Value.slice (some (aD cb co)) ch.length cc).ownBlock=some k)->(Value.slice sa sn sc).ownBlock≠some k:=λk hk e=>(hD.nx k hk).2 (.inr (.inr ⟨s,hmem,.inr (by rw[hsv,hsn];exact e)⟩));have HS:Hid (∀X,bW wr X->X.cell? (aD q 6)=some (.slice (some (aD g1 0)) E.length oC)/\X.cell? (aD g1 (a * 7+6))=some (.slice sa sn sc)/\X.cell? (aD w.heap.size 5)=some (.slice (some (aD cb co)) ch.length cc)/\X.cell? (aD cb (co+m * 3))=some (.string ck)):=λX hX=>⟨(hX.cell (p:=(aD q 6)) lq).t r6,(hX.cell (p:=(aD g1 (a * 7+6))) lg).t k6,(hX.cell (p:=(aD w.heap.size 5)) lb).t r5,(hX.cell (p:=(aD cb (co+m * 3))) hcl).t d0⟩;have HO:Hid (wr.drew.ownsRow 0 9 1 (.slice sa sn sc) sn (s.oth.map .string)):=World.ownsRow.drew hso;have HS9:Hid (∀X v9,fF 9 1 (.slice sa sn sc) sn (s.oth.map .string) [.string ck] 1 wr.drew v9 X->X.cell? (aD q 6)=some (.slice (some (aD g1 0)) E.length oC)/\X.cell? (aD g1 (a * 7+6))=some (.slice sa sn sc)/\X.cell? (aD w.heap.size 5)=some (.slice (some (aD cb co)) ch.length cc)/\X.cell? (aD cb (co+m * 3))=some (.string ck)):=λX v9 A=>by
       obtain⟨z1,z2,z3,z4⟩:=HS.o wr.drew (AC _ wr).drew;exact⟨(A.fr.cell lq (aP hso hD.ref.box (by decide))).t z1,(A.fr.cell lg (aP hso hgc (by decide))).t z2,(A.fr.cell lb (nb _ (.inl rfl))).t z3,(A.fr.cell hcl (nb _ (.inr (hcb)))).t z4⟩
      have HFR:Hid (∀X v9,fF 9 1 (.slice sa sn sc) sn (s.oth.map .string) [.string ck] 1 wr.drew v9 X->∀i,X.frozen? (aD g1 i)=false):=λX v9 A=>aA (A.fr.heap hgc (aP hso hgc (by decide)));have HEND:Hid (∀X v9,fF 9 1 (.slice sa sn sc) sn (s.oth.map .string) [.string ck] 1 wr.drew v9 X->Upd E (ch.map (·.key)) a (m+1) (ts'.set a (s.lost ck v9))/\tT W7 (X.setCell (aD g1 (a * 7+6)) v9) (λk=>K k\/(Value.slice a3 L.length d3).ownBlock=some k) q M7 w.heap.size (.cells #[.int .i64 num,.bool wrb,.slice ba bg.length bc,.int .i64 bv,.slice la tl.length lc,.slice (some (aD cb co)) ch.length cc,.slice oa oth.length oc] 119) (some (aD cb co)) cc ch (ts'.set a (s.lost ck v9))):=λX v9 A=>by
       have hu:=hU.step hal (by rw[AF];exact hlt2) v9;rw[EJ,hck,hs]at hu;exact⟨hu,hD.lose (by rw[hsi,hs]) (by rw[HOV.o,hlen]) ck (by rw[hsv,hsn];exact A)⟩
      clear HH hU hD hc1 hlen hsi hs k6 hso hsv hrow hgc d0 d1 d2 hcb nb hmem;go_wp2;refine cS (S:=(λX:World=>X.cell? (aD q 6)=some (.slice (some (aD g1 0)) E.length oC)/\X.cell? (aD g1 (a * 7+6))=some (.slice sa sn sc)/\X.cell? (aD w.heap.size 5)=some (.slice (some (aD cb co)) ch.length cc)/\X.cell? (aD cb (co+m * 3))=some (.string ck))) 23 (by kernel_rfl) ?_;have hHeld:=(show(λX:World=>X.cell? (aD q 6)=some (.slice (some (aD g1 0)) E.length oC)/\X.cell? (aD g1 (a * 7+6))=some (.slice sa sn sc)/\X.cell? (aD w.heap.size 5)=some (.slice (some (aD cb co)) ch.length cc)/\X.cell? (aD cb (co+m * 3))=some (.string ck)) wr.drew from HS.o _ (AC _ wr).drew);refine tks [(0,.pointer (some (aD q 2))),(1,.pointer (some (aD q 2))),(2,.pointer (some (aD q 6))),(3,.slice (some (aD g1 0)) E.length oC),(4,.int .i64 (a:Int)),(5,.pointer (some (aD q 2))),(6,.pointer (some (aD q 2))),(7,.pointer (some (aD q 6))),(8,.slice (some (aD g1 0)) E.length oC),(9,.int .i64 (a:Int)),(10,.pointer (some (aD g1 (a * 7)))),(11,.pointer (some (aD g1 (a * 7+6)))),(12,.slice sa sn sc),(13,.pointer (some (aD w.heap.size 5))),(14,.slice (some (aD cb co)) ch.length cc),(15,.int .i64 (m:Int)),(16,.pointer (some (aD cb (co+m * 3)))),(17,.pointer (some (aD cb (co+m * 3)))),(18,.string ck)] (by assumption) ?_;iterate 19 (refine⟨_,rfl,by kernel_rfl,λ_ _ _ h=>h,.inl ⟨by rfl,λw hSw=>by(try dsimp only at hSw);go_simp⟩,?_⟩;try simp only[pS])
      refine tke ?_;refine aR (i:=19) (by kernel_rfl) rfl (λK hK=>?_);go_simp;refine hK.out _ _ (λ_=>HS.o _ ((AC _ wr).drew.alloc (jU _) _)) ?_;clear hK K;try simp only[pS]
      refine aR (i:=20) (by kernel_rfl) rfl (λK hK=>?_)
      (refine iZ wr.drew rfl (.tmp 66) (.tmp 73) 60 9 _ 1 16 rfl Tryz.underlying60 rR rfl (by decide) (.slice sa sn sc) sn _ (by simp[Act.eval,Act.put]) HO.o [.string ck] (by simp[Act.eval,Act.put]) rfl (by simp[Value.oneCell']) (by omega) (by omega) ?_;intro v9 X9 A9;obtain⟨g9,k9,rfl⟩:=A9.shape (by decide);have hS9:=HS9.o X9 _ A9;have gfr:=HFR.o X9 _ A9)
      refine hK.out _ _ (λ_=>hS9) ?_;clear hK K;try simp only[pS]
      have hHeld:=hS9;obtain⟨p1,p2,p3,p4⟩:=hS9;refine tks [(21,.pointer (some (aD g1 (a * 7)))),(22,.pointer (some (aD g1 (a * 7+6))))] (by assumption) ?_;iterate 2 (refine⟨_,rfl,by kernel_rfl,λ_ _ _ h=>h,.inl ⟨by rfl,λw hSw=>by(try dsimp only at hSw);go_simp⟩,?_⟩;try simp only[pS])
      refine tke ?_;refine aR (i:=23) (by kernel_rfl) rfl (λK hK=>?_);go_simp;refine hK.out _ _ (λe=>by cases e) ?_;clear hK K;try simp only[pS]
      refine dC (by kernel_rfl) ?_ _;have hfin:=HEND.o X9 _ A9;obtain⟨X10,hX10⟩:=nM (X9.setCell (aD g1 (a * 7+6)) (.slice (some (aD g9 0)) (sn+1) k9));rw[hX10]at hfin⊢;have HFI:Hid (Upd E (ch.map (·.key)) a (m+1) (ts'.set a (s.lost ck (.slice (some (aD g9 0)) (sn+1) k9)))/\tT W7 X10 (λk=>K k\/(Value.slice a3 L.length d3).ownBlock=some k) q M7 w.heap.size (.cells #[.int .i64 num,.bool wrb,.slice ba bg.length bc,.int .i64 bv,.slice la tl.length lc,.slice (some (aD cb co)) ch.length cc,.slice oa oth.length oc] 119) (some (aD cb co)) cc ch (ts'.set a (s.lost ck (.slice (some (aD g9 0)) (sn+1) k9)))):=hfin;clear hfin p1 p2 p3 p4 gfr A9 hX10 hHeld;go_wp2;exact⟨⟨m+1,_,by simp,by omega,HFI.o⟩,by simp[intOf];omega⟩
     .obtain rfl:m=ch.length:=by omega
      have HN:Hid (Upd E (ch.map (·.key)) (a+1) 0 ts'):=Upd.next (by have:=HH.o.1;rw[AF];exact this);go_wp2;exact⟨⟨a+1,ts',by simp,by omega,HN.o,HH.o.2⟩,by simp[intOf];omega⟩
   .obtain rfl:a=E.length:=by omega
    have hfin:=HFN.o wr ts' HH.o.1 HH.o.2;go_wp2;go_end0;exact⟨rfl,hfin⟩
