import Derived.Test.YtdhgdcjmhofhaaaGreatD40
set_option linter.all false
set_option maxRecDepth 100000
set_option maxHeartbeats 8000000
namespace Go.Proofs.YtdhgdcjmhofhaaaGreat.Tree
open Go.RowKit Pages
def dY{w:World}{b a c d e f g i t}(h:cW w b #[a,c,d,e,f,g,i] t):w.c b 0=some a/\w.c b 1=some c/\w.c b 2=some d/\w.c b 3=some e/\w.c b 4=some f/\w.c b 5=some g/\w.c b 6=some i:=qIe h
def Ys{w K q M D}(d:aY w K q M)(f:M.f=.p D.β 0)(g:M.p4=.bool false)(c:aO w 0 D)(z):
  cL 60 #[.p q 0,.i z] w λe w'=>e=.r (.bool (z==9&&D.fs.life==0))/\w'=w:=by
 have⟨a,_,_,_,_,_,_,_,_,_,_,_,b,_⟩:=dE d.box;rw[f]at a;rw[g]at b;exact qJm q D.β D.sv D.lv D.fs w c.file a b z
def Ob(r key):(eO r key).2≠9:=by
 unfold eO;grind
def Od(r key):iF r key≠9:=by
 have:=Ob r key;unfold iF bU;grind
section
variable {n B:Nat}{w:World}{q:Nat}{Bk K:Bl}{D:Db}{v:Nat}{o ao:Option (Nat×T)}{ots:List (Option (Nat×T))}{M:RM}
def Rt(h:Wd n B w q Bk K D v o ao ots M)(a4:B<=400000)(c:OpV):
  cL 26 #[.p q 0,.agg c.cells] w λe w'=>e=.r (.bool true)/\On Bk w w'/\Lw n (B+1) w' q Bk M.p9:=by
 have⟨L,a,P,Q,E,O,I,N,J⟩:=c;have⟨r,H⟩:=Dx M.ts a;obtain⟨b,G,z,k,-⟩:=al1 w (.cells #[.i L,.i a,.t P,.t Q,.i E,.bool O,.s I N J] 46);have x:=h.box (.cells #[.i L,.i a,.t P,.t Q,.i E,.bool O,.s I N J] 46);rw[G]at x;have A:bW b b:=AC _ _;have C:Hid (∀X,bW b X->X.c q 1=some (.p D.d 0)/\X.c w.heap.size 1=some (.i a)/\X.c w.heap.size 2=some (.t P)):=λX i=>by
  have p:=(dE (x.ref.below i).box).2.1;rw[h.x]at p;have⟨_,s,t,_⟩:=dY ((i.block _ (gL k)).t k);exact⟨p,s,t⟩
 have⟨zd,hz,hu⟩:=qHm (x.below A.drew) a4 a P r H;have u:Hid (cL 71 #[.p D.d 0,.i a,.t P] b.drew λe f=>e=.r (.i zd)/\Hid (On Bk w f/\(zd≠iF r P->Lw n (B+1) f q Bk M.p9)/\(∀d,bW f d->(d.c q 1=some (.p D.d 0)/\d.c w.heap.size 1=some (.i a)/\d.c w.heap.size 2=some (.t P))/\(cL 72 #[.p q 2,.i a,.t P] d λe w'=>e=.r (.i (pD r P))/\w'=d)/\(cL 60 #[.p q 0,.i zd] d λe w'=>e=.r (.bool (zd==9&&D.fs.life==0))/\w'=d)/\(zd=iF r P->cL 73 #[.p q 2,.i a,.t P] d λe w'=>e=.r (.i zd)/\(w'.c w.heap.size 1=some (.i a)/\w'.c w.heap.size 2=some (.t P))/\On Bk w w'/\Lw n (B+1) w' q Bk M.p9)))):=by
  apply hu.m;rintro e f ⟨rfl,F,S,ae,⟨a0,ac,R,ab,ad⟩,af,a5⟩;have i:=A.drew;have U:On Bk w b.drew:=vV (z.t (i.m z.size)) (λy j=>(h.book y j).1);refine⟨rfl,U.t (S.m (λy j=>.inl j)),λq1=>?_,λd m=>⟨?_,Ui (F.below m) a P r H h.lk.n8,ab▸Ys (D:=a0) (F.below m) (by rw[ac];exact h.f) h.spoiled (R.on (vV m R.lies)) _,λq1=>?_⟩⟩
  .have⟨K',D',v',o',ag,a3,M',a9,a2⟩:=af q1
   exact⟨K',D',v',o',ag,a3,M',a9.less (λy j=>.inl j),a2⟩
  .have Z:=S.heap ((i.block _ (gL k)).t k) (.inr rfl)
   have⟨_,s,t,_⟩:=dY ((m.block _ (gL Z)).t Z);have p:=(dE (F.below m).box).2.1;rw[h.x]at p;exact⟨p,s,t⟩
  .apply(a5 q1 d m).m
   rintro e w' ⟨rfl,T,a1,D',v',o',ag,a3,M',a9,a2⟩;have⟨_,s,t,_⟩:=dY (T.heap ((i.block _ (gL k)).t k) (.inr rfl));exact⟨by rw[q1],⟨s,t⟩,U.t (T.m (λy j=>.inl j)),a1,D',v',o',ag,a3,M',a9.less (λy j=>.inl j),a2⟩
 have⟨V,W,Y⟩:=C b A;rcases hz with hz|⟨rfl,hl,hc⟩
 .have hb:(zd==9&&D.fs.life==0)=false:=by
   have:=Od r P;rw[<-hz]at this;simp[this]
  rw[hb]at u;have ah:Hid (zd=iF r P):=hz;clear hz;generalize pD r P=zc at u;clear h x k H hu;go_enter Tryz.func26,Tryz.ntmps26;go_wp2;go_region_held3 (λX=>X.c q 1=some (.p D.d 0)/\X.c w.heap.size 1=some (.i a)/\X.c w.heap.size 2=some (.t P))
   (first|exact C _ A.drew|exact(g.2.2 _ (AC _ _)).1)
   ((go_at_call 71;apply Calls.m u;rintro e f ⟨rfl,g⟩))
  all_goals
   clear V W Y u C z;have l:bW f f:=AC _ _;have⟨V,W,Y⟩:=(g.2.2 f l).1;go_wp2;go_region_held3 (λX=>X.c w.heap.size 1=some (.i a)/\X.c w.heap.size 2=some (.t P))
    (exact(g.2.2 _ l.drew).1.2)
    ((go_at_call 72;apply Calls.m (g.2.2 _ l.drew).2.1;rintro e w' ⟨rfl,aa⟩;subst w'))
   go_wp2_with (go_at_call 60;apply Calls.m (g.2.2 _ l.drew).2.2.1;rintro e w' ⟨rfl,aa⟩;subst w');go_region_held3 (λX=>X.c w.heap.size 1=some (.i a)/\X.c w.heap.size 2=some (.t P))
    (first|exact(g.2.2 _ l.drew.drew).1.2|exact a6)
    ((go_at_call 73;apply Calls.m ((g.2.2 _ l.drew.drew).2.2.2 ah);rintro e af ⟨rfl,a6,a8,a7⟩))
   go_wp2;go_ret;exact⟨rfl,a8,a7⟩
 .have hb:((9:Int)==9&&D.fs.life==0)=true:=by simp[hl]
  have hn:Hid (9≠iF r P):=λe=>Od r P e.symm;rw[hb,hc]at u;go_enter Tryz.func26,Tryz.ntmps26;go_wp2;go_region_held3 (λX=>X.c q 1=some (.p D.d 0)/\X.c w.heap.size 1=some (.i a)/\X.c w.heap.size 2=some (.t P))
   (first|exact C _ A.drew|exact(g.2.2 _ (AC _ _)).1)
   ((go_at_call 71;apply Calls.m u;rintro e f ⟨rfl,g⟩))
  all_goals
   have l:bW f f:=AC _ _;have⟨V,W,Y⟩:=(g.2.2 f l).1;go_wp2;go_region_held3 (λX=>X.c w.heap.size 1=some (.i a)/\X.c w.heap.size 2=some (.t P))
    (exact(g.2.2 _ l.drew).1.2)
    ((go_at_call 72;apply Calls.m (g.2.2 _ l.drew).2.1;rintro e w' ⟨rfl,aa⟩;subst w'))
   go_wp2_with (go_at_call 60;apply Calls.m (g.2.2 _ l.drew).2.2.1;rintro e w' ⟨rfl,aa⟩;subst w');go_ret;have⟨K',D',v',o',ag,a3,M',a9,a2⟩:=g.2.1 hn;refine⟨rfl,g.1.t (vV l.drew (λy j=>?_)),K',D',v',o',ag,a3,M',a9.below l.drew,a2⟩;exact(a9.book y j).1
end
variable {ps:List Value} {vp:Value} {w:World}
def Ox(n:Nat)(z w)(g:n<=1000000000)(f:z=(n:Int)):
  cL 30 #[.i z] w λe w'=>e=.r (.t (lN n))/\bW w w':=by
 subst f;have a:=Ko w (UInt8.ofNat n) (UInt8.ofNat (n / 256));have b:((UInt8.ofNat n).toNat:Int)=(n:Int) % 256:=by simp
 have c:((UInt8.ofNat (n / 256)).toNat:Int)=(n:Int) / 256 % 256:=by simp
 rw[b,c]at a;have d:(⟨#[126,UInt8.ofNat n,UInt8.ofNat (n / 256)]⟩:ByteArray)=lN n:=rfl;rw[d]at a;go_enter Tryz.func30,Tryz.ntmps30;go_wp2;go_ret;exact⟨rfl,bA _ _⟩
def qDn{P ops s o a Q}(w)(E:o.guard=none)(t x T b zero z bytes)(J:o.op=.call {callee:=.builtin .append,args:=#[t,x],argTypes:=#[T,T]})(k:P.underlying T=some (.slice b))(hi:(P.info? b).map (λi=>(i.zero,i.size,i.bytes))=some (some zero,z,bytes))(r:zero.cells.size=z)(p:0<z)(v n xs)(M:a.eval t=v)(q:w.ownsRow 0 b z v n xs)(c)(O:a.eval x=.q w.heap.size 1 1)(H:c.length=z)(j:∀u∈c,u.oneCell'=true)(C:n+1<=140737488355328)(l:(n+1) * bytes<=140737488355328)(h:∀v' w',fF b z v n xs c 1 w v' w'->(∀d e g,w.ownsRow 0 b z e d g->(e.ownBlock≠v.ownBlock\/d<=n)->w'.ownsRow 0 b z e d g)->wpList P ops Q s (a.put o.dst v') w'):
  wpList P ops Q (o :: s) a (w.alloc (.cells c.toArray b)):=by
 refine EU E λK D=>?_;have⟨v',w',m,y⟩:=yG (P:=P) w T o.type b zero z bytes k hi r p v n xs q c H j C l;have⟨V,F,R,S,U⟩:=EX hi;have I:∀f u,c[f]?=some u->(w.alloc (.cells c.toArray b)).cell? (((aD w.heap.size 0):Addr).add f)=some u:=λf u N=>by
  have A:((aD w.heap.size 0):Addr).add f=(aD w.heap.size f):=by unfold Addr.add;split<;>simp_all
  rw[A];simp only[World.cell?,aC w (.cells c.toArray b)];simpa using N
 unfold Oper.wp execOp;simp only[J,resolve,invoke,builtin,EG,DZ,DJ,DM,BH,DB,M,O,m];exact D _ _ (h v' w' y (λd e g (B:w.ownsRow 0 b z e d g) L=>Na (P:=P) (w.alloc (.cells c.toArray b)) 0 T o.type b V zero z bytes k F R S U r p v n xs (CH q _) (aD w.heap.size 0) 1 1 c (by omega) I j (by decide) (by unfold maxLen;omega) l v' w' m 0 d e g (CH B _) L))
abbrev qCw(j:Nat):List Value:=[.string (lN (j / 4)),.string ⟨#[]⟩]
def mrk(j n:Nat):List Value:=(List.replicate n (qCw j)).flatten
def Yq(j n):(mrk j n).length=n * 2:=by simp[mrk]
def Ux(j):∀(n k i:Nat),k<n->i<2->(mrk j n)[k * 2+i]?=(qCw j)[i]?
 |0,_,_,h,_=>by omega
 |n+1,0,i,_,hi=>by
  rw[mrk,List.replicate_succ,FI,EB,DS,BO (by simpa using hi)]
 |n+1,k+1,i,h,hi=>by
  rw[mrk,List.replicate_succ,FI,BC (by simp;omega)];have a:(k+1) * 2+i-(qCw j).length=k * 2+i:=by simp;omega
  rw[a];exact Ux j n k i (by omega) hi
def Ov(j n):mrk j (n+1)=mrk j n++qCw j:=by rw[mrk,List.replicate_succ',List.flatten_append];simp[mrk]
def qJh(j i n)(xs:List Value)(c:xs.length=n * 2)(hi:i<n):((mrk j i++xs.drop (i * 2)).set (i * 2) (.t (lN (j / 4)))).set (i * 2+1) .e=mrk j (i+1)++xs.drop ((i+1) * 2):=by
 have a:xs.drop (i * 2)=xs[i * 2]'(by omega):: xs[i * 2+1]'(by omega):: xs.drop ((i+1) * 2):=by
  rw[CA (by omega:i * 2<xs.length),CA (by omega:i * 2+1<xs.length),show i * 2+1+1=(i+1) * 2 by omega]
 have b:=Yq j i;rw[a,EW _ _ (by omega),EW _ _ (by omega),b,Ov,BU,show i * 2-i * 2=0 by omega,show i * 2+1-i * 2=1 by omega];rfl
structure kS (w:World) (vp:Value) (ps:List Value):Prop where
 row:w.ownsRow 0 30 1 vp ps.length ps
 four:ps.length % 4=0
 cut:∀j (h:j<ps.length),∃n,n<=1100000/\w.ownsRow 0 71 2 ps[j] n (mrk j n)
def fpK(vp:Value)(ps:List Value):Bl:=λk=>vp.ownBlock=some k\/∃u∈ps,u.ownBlock=some k
def kS.on {w w'}(h:kS w vp ps)(c:On (fpK vp ps) w w'):kS w' vp ps :=
 ⟨aS h.row c (λg a=>.inl a),h.four,λf b=>by have⟨n,e,d⟩:=h.cut f b;exact⟨n,e,aS d c (λg a=>.inr ⟨_,AA b,a⟩)⟩⟩
def kS.lies (h:kS w vp ps):∀k,fpK vp ps k->k<w.heap.size:=by
 rintro k (a|⟨f,d,a⟩)
 .exact aK h.row a
 .obtain⟨e,c,rfl⟩:=AV d
  have⟨n,_,b⟩:=h.cut e c;exact aK b a
def kS.none(w:World):kS w .n []:=⟨AL _ _ _ _,rfl,λb a=>absurd a (GN _)⟩
def qKo(j:Nat)(h:j<=1000000000):IntKind.i64.wrap ((j:Int).tdiv 4)=((j / 4:Nat):Int):=by
 rw[CS,Int.tdiv_eq_ediv_of_nonneg (by omega)];omega
def qKp(j:Nat):(j:Int) / 4=((j / 4:Nat):Int):=by omega
def vK {B e z v n xs}(h:w.ownsRow B e z v n xs):∃a c,v=.s a n c/\(n≠0->∃g,a=some (aD g 0)/\g<w.heap.size/\∀j u,xs[j]?=some u->w.c g j=some u):=by
 obtain⟨m,⟨rfl,rfl⟩|⟨g,k,l,rfl,_⟩⟩:=id h
 .exact⟨none,0,rfl,λh=>absurd rfl h⟩
 .refine⟨_,_,rfl,λ_=>⟨g,rfl,((EK (w:=w) h) g rfl).2,λj u i=>?_⟩⟩
  have:=(λg d=>DG (w:=w) h (g:=g) d) g rfl j u i;have e:((aD g 0):Addr).add j=(aD g j):=by unfold Addr.add;split<;>simp_all
  rw[e]at this;exact this
def qJl {q}(h:kS w vp ps)(hn:ps.length<=10000000)(hq:q<w.heap.size)(c14:w.c q 14=some .n)(c15:w.c q 15=some .n)(c16:w.c q 16=some .n)(c17:w.c q 17=some vp):
  cL 10 #[.p q 14] w λe w'=>e=.r (.bool true)/\bW w w':=by
 obtain⟨pa,pc,rfl,hp⟩:=vK h.row;have HQ:Hid (∀X,bW w X->X.cell? (aD q 17)=some (.s pa ps.length pc)):=λX hX=>(hX.cell (p:=(aD q 17)) hq).t c17;have H:Hid (kS w (.s pa ps.length pc) ps):=h;clear h;go_enter Tryz.func10,Tryz.ntmps10;go_wp2;go_loopw [3,4] (λi k wr=>i=.int .i64 0/\w=wr) (λ_ _ _=>0)
 case atStart=>exact⟨rfl,rfl⟩
 case round =>
  obtain⟨rfl,hwr⟩:=hrel;subst hwr;go_wp2;go_loopw [5,6] (λi k wr2=>i=.int .i64 0/\w=wr2) (λ_ _ _=>0)
  case atStart=>exact⟨rfl,rfl⟩
  case round =>
   obtain⟨rfl,hwr⟩:=hrel;subst hwr;go_wp2;go_loopw [7,8] (λi k wr2=>i=.int .i64 0/\w=wr2) (λ_ _ _=>0)
   case atStart=>exact⟨rfl,rfl⟩
   case round =>
    obtain⟨rfl,hwr⟩:=hrel;subst hwr;go_wp2;go_loopw [9,10] (λi k wr=>∃j:Nat,j<=ps.length/\i=.int .i64 j/\bW w wr) (λi _ _=>ps.length-(intOf i).toNat)
    case atStart=>exact⟨0,AG _,rfl,AC _ _⟩
    case round =>
     obtain⟨j,hj,rfl,hb⟩:=hrel;have q17:=HQ.o wr hb;rcases BR j ps.length with hlt|hge
     .have hji:(j:Int)<(ps.length:Int):=by omega
      obtain⟨g,rfl,hg,hcell⟩:=hp (by omega);have hrow0:w.cell? (aD g j)=some ps[j]:=hcell j _ (jQ hlt);obtain⟨n,hn1,hcut⟩:=H.o.cut j hlt;obtain⟨a,c,hv,hnz⟩:=vK hcut;rw[hv]at hrow0;have HR:Hid (∀X,bW w X->X.cell? (aD g j)=some (.s a n c)):=λX hX=>(hX.cell (p:=(aD g j)) hg).t hrow0;have HE:Hid (∀X m,bW w X->m<n->∃ga,a=some (aD ga 0)/\X.cell? (aD ga (m * 2))=some (.t (lN (j / 4)))/\X.cell? (aD ga (m * 2+1))=some .e):=λX m hX hm=>by
       obtain⟨ga,e,hga,hc⟩:=hnz (by omega);exact⟨ga,e,(hX.cell (p:=(aD ga (m * 2))) hga).t (hc _ _ (Ux j n m 0 hm (by decide))),(hX.cell (p:=(aD ga (m * 2+1))) hga).t (hc _ _ (Ux j n m 1 hm (by decide)))⟩
      have HM:Hid (∀z X,z=((j / 4:Nat):Int)->cL 30 #[.int .i64 z] X λe w'=>e=.r (.t (lN (j / 4)))/\bW X w'):=λz X hz=>Ox (j / 4) z X (by omega) hz;have hr:=HR.o wr hb;go_wp2;go_loopw [10] (λk wr=>∃m:Nat,m<=n/\k=.int .i64 m/\bW w wr) (λk _=>n-(intOf k).toNat)
      case atStart=>exact⟨0,AG _,rfl,hb⟩
      case round =>
       obtain⟨m,hm,rfl,hb⟩:=hrel;have q17:=HQ.o wr hb;have hr:=HR.o wr hb;rcases BR m n with hlt2|hge2
       .have hji2:(m:Int)<(n:Int):=by omega
        obtain⟨ga,hga,e0,e1⟩:=HE.o wr m hb hlt2;subst hga;go_wp2;go_region_held3 (λX=>X.cell? (aD q 17)=some (.q g ps.length pc)/\X.cell? (aD g j)=some (.q ga n c)/\X.cell? (aD ga (m * 2))=some (.t (lN (j / 4)))/\X.cell? (aD ga (m * 2+1))=some .e)
         (first|exact⟨q17,hr,e0,e1⟩|(exact⟨HQ.o _ hbw,HR.o _ hbw,by obtain⟨ga',e',h1,h2⟩:=HE.o _ m hbw hlt2;cases e';exact⟨h1,h2⟩⟩))
         ((go_at_call 30;(with_reducible refine Calls.m (HM.o _ _ ?_) ?_);(first|exact qKo j (by omega)|exact qKp j);rintro e w3 ⟨rfl,hb3⟩;have hbw:=hb.drew.t (hb3.m hb.size)))
        all_goals go_wp2
        all_goals exact⟨⟨m+1,by omega,by simp,hbw⟩,by simp[intOf];omega⟩
       .obtain rfl:m=n:=by omega
        go_wp2;exact⟨⟨j+1,by omega,by simp,hb⟩,by simp[intOf];omega⟩
     .obtain rfl:j=ps.length:=by omega
      go_wp2;go_ret;exact⟨rfl,hb⟩
structure KpS (w X:World) (q:Nat) (M:RM) (mb:Nat) (vl:Value) (n:Nat) (vp:Value) (ps:List Value) (a b:Nat) (g vq:Value) (qs:List Value):Prop where
 box:X.heap[q]?=some ({M with p9:=vq}:RM).obj
 mbx:X.heap[mb]?=some (.cells #[.string (lN (ps.length / 4)),.string ⟨#[]⟩] 71)
 row:X.ownsRow 0 30 1 vq qs.length qs
 len:qs.length=ps.length+b
 cut:∀j (h:j<qs.length),∃m,m<=1100000/\X.ownsRow 0 71 2 qs[j] m (mrk j m)/\(qs[j].ownBlock≠g.ownBlock\/m<=n+a)
 gx:X.ownsRow 0 71 2 g (n+a) (mrk ps.length (n+a))
 gm:g.ownBlock≠some mb
 fr:Fr (λk=>k=q\/vp.ownBlock=some k\/vl.ownBlock=some k) w X
 gr:∀k,fpK vq qs k->fpK vp ps k\/vl.ownBlock=some k\/w.heap.size<=k
 gb:∀k,g.ownBlock=some k->vl.ownBlock=some k\/w.heap.size<=k
 vb:∀k,vq.ownBlock=some k->vp.ownBlock=some k\/w.heap.size<=k
section
variable {w X X3:World}{q:Nat}{M:RM}{mb:Nat}{vl:Value}{n:Nat}{vp:Value}{ps:List Value}{a b:Nat}{g vq v3:Value}{qs:List Value}
def KpS.lay(h:KpS w X q M mb vl n vp ps a a g vq qs)(J:ps.length % 4=0)(K:a<4)(N:n<=1000000)(d:fF 30 1 vq qs.length qs [g] 1 X v3 X3):KpS w (X3.setCell (aD q 17) v3) q M mb vl n vp ps a (a+1) g v3 (qs++[g]):=by
 have P:=d.fr.size;have t:X3.heap[q]?=some ({M with p9:=vq}:RM).obj:=d.fr.heap h.box (aP h.row h.box (by decide));have o:Fr (Bl.one q) X3 (X3.setCell (aD q 17) v3):=(AE (Bl.one q) X3).s q 17;have A:=aB t 17 v3;have y:∀{m:TypeId}{z f:Nat}{v:Value}{l:List Value},X3.ownsRow 0 m z v f l->m≠43->(X3.setCell (aD q 17) v3).ownsRow 0 m z v f l:=λi H=>aS i (o.on (Z:=λc=>_=some c) (λc b=>⟨aK i b,λu=>by simp only[Bl.one]at u;subst u;exact aP i t (λe=>H e.symm) b⟩)) (λc b=>b);have s:∀{f:Nat}{v:Value}{l:List Value},X.ownsRow 0 71 2 v f l->(X3.setCell (aD q 17) v3).ownsRow 0 71 2 v f l:=λi=>y (d.keeps i (dS i h.row (by decide))) (by decide);have O:=(gL h.box);have G:mb≠q:=λe=>by have:=h.mbx;rw[e,h.box]at this;simp at this
 refine⟨by simpa using A,o.heap (d.fr.heap h.mbx (aP h.row h.mbx (by decide))) (λe=>G e),by have:=y d.row (by decide);rw[jK];exact this,by rw[jK,h.len];rfl,λr E=>?_,s h.gx,h.gm,(h.fr.grow d.fr (λc b=>(h.vb c b).imp (λB=>.inr (.inl B)) id)).grow o (λc b=>.inl (.inl b)),?_,h.gb,?_⟩
 .rw[jK,AM]at E
  rcases BR r qs.length with x|L
  .have⟨f,F,C,D⟩:=h.cut r x
   rw[GK x];exact⟨f,F,s C,D⟩
  .obtain rfl:r=qs.length:=by omega
   rw[GF (jU _)];simp only[JF,CX];refine⟨n+a,by omega,?_,.inr (jU _)⟩;have e:mrk qs.length (n+a)=mrk ps.length (n+a):=by
    have:qs.length / 4=ps.length / 4:=by rw[h.len];omega
    simp only[mrk,qCw,this]
   rw[e];exact s h.gx
 .rintro c (b|⟨I,j,b⟩)
  .rcases d.lies c b with k|k
   .exact h.gr c (.inl k)
   .have:=h.fr.size;exact .inr (.inr (by omega))
  .rcases AO.1 j with j|j
   .exact h.gr c (.inr ⟨I,j,b⟩)
   .rw[AJ]at j;subst j;exact .inr (h.gb c b)
 .intro c b
  rcases d.lies c b with k|k
  .exact h.vb c k
  .have:=h.fr.size;exact .inr (by omega)
def KpS.ext(h:KpS w X q M mb vl n vp ps a b g vq qs)(d:fF 71 2 g (n+a) (mrk ps.length (n+a)) (qCw ps.length) 1 X v3 X3)(l:∀o p t,X.ownsRow 0 71 2 p o t->(p.ownBlock≠g.ownBlock\/o<=n+a)->X3.ownsRow 0 71 2 p o t):KpS w X3 q M mb vl n vp ps (a+1) b v3 vq qs:=by
 have D:=d.fr.size;have C:=(gL h.mbx);refine⟨d.fr.heap h.box (aP h.gx h.box (by decide)),d.fr.heap h.mbx h.gm,d.keeps h.row (dS h.row h.gx (by decide)),h.len,λm x=>?_,by have:=d.row;rw[<-Ov]at this;exact this,λj=>?_,h.fr.grow d.fr (λi l=>(h.gb i l).imp (λu=>.inr (.inr u)) id),h.gr,λi y=>?_,h.vb⟩
 .have⟨s,z,k,f⟩:=h.cut m x
  refine⟨s,z,l _ _ _ k f,?_⟩;rcases f with f|f
  .by_cases j:qs[m].ownBlock=v3.ownBlock
   .cases hb:qs[m].ownBlock with
    |none =>
     have:s=0:=by
      obtain⟨_,⟨_,v⟩|⟨B,c,r,A,_⟩⟩:=k
      .exact v
      .rw[A]at hb;simp[Value.ownBlock]at hb
     exact .inr (by omega)
    |some i =>
     rw[hb]at j;rcases d.lies i j.symm with e|e
     .rw[hb,e]at f;exact absurd rfl f
     .have:=aK k hb;omega
   .exact .inl j
  .exact .inr (by omega)
 .rcases d.lies mb j with e|e
  .exact h.gm e
  .omega
 .rcases d.lies i y with e|e
  .exact h.gb i e
  .have:=h.fr.size;exact .inr (by omega)
end
variable {vl:Value}
def qCg:(Tryz.prog.info? 30).map (λi=>(i.zero,i.size,i.bytes))=some (some .n,1,24):=by kernel_rfl
def Ht {w q}{M:RM}{vp ps}(hbox:w.heap[q]?=some M.obj)(hp:M.p9=vp)(h:kS w vp ps)(hn:ps.length<=10000000){n xs}(hl:w.ownsRow 0 71 2 vl n xs)(hn1:n<=1000000)(hap:∀k,vl.ownBlock=some k->∀u∈ps,u.ownBlock≠some k):
  cL 64 #[.p q 14,vl] w λe w'=>e=.r (.tuple #[])/\∃vq qs,kS w' vq qs/\qs.length=ps.length+4/\w'.heap[q]?=some ({M with p9:=vq}:RM).obj/\Fr (λk=>k=q\/vp.ownBlock=some k\/vl.ownBlock=some k) w w'/\∀k,fpK vq qs k->fpK vp ps k\/vl.ownBlock=some k\/w.heap.size<=k:=by
 obtain⟨pa,pc,hvp⟩:=aG h.row;obtain⟨la,lc,hvl⟩:=aG hl;have c17:w.c q 17=some M.p9:=by simp[World.cell?,hbox]
 rw[hp,hvp]at c17;have HM:Hid (∀z X,z=((ps.length / 4:Nat):Int)->cL 30 #[.i z] X λe w'=>e=.r (.t (lN (ps.length / 4)))/\bW X w'):=λz X hz=>Ox (ps.length / 4) z X (by omega) hz;have HW:Hid (∀W1,bW w W1->∃W2,W1.alloc (.cells #[.t (lN (ps.length / 4)),.e] 71)=W2/\cW W2 W1.heap.size #[.t (lN (ps.length / 4)),.e] 71/\bW w W2/\w.heap.size<=W1.heap.size):=λW1 hW=>⟨_,rfl,aC W1 _,hW.alloc hW.size _,hW.size⟩;have H:Hid (kS w vp ps/\M.p9=vp/\vp=.s pa ps.length pc/\vl=.s la n lc/\w.ownsRow 0 71 2 vl n xs/\(∀k,vl.ownBlock=some k->∀u∈ps,u.ownBlock≠some k)/\w.heap[q]?=some M.obj):=⟨h,hp,hvp,hvl,hl,hap,hbox⟩;have hxl:xs.length=n * 2:=hl.1;have HXL:Hid (xs.length=n * 2):=hxl;subst hvl;clear hvp h hp hap hbox hxl;go_enter Tryz.func64,Tryz.ntmps64;go_wp2_with (go_at_call 30;(with_reducible refine Calls.m (HM.o _ _ ?_) ?_);(first|exact qKo _ (by omega)|exact qKp _);rintro e W1 ⟨rfl,hB1⟩;obtain⟨W2,hW2,x2,hB2,z1⟩:=HW.o W1 hB1;obtain⟨y0,y1⟩:=bY x2;have yfr:=aA x2;have hss:W2.setCell (aD W1.heap.size 1) .e=W2:=dI x2 rfl);have lW:=(gL x2);have HL2:Hid (W2.ownsRow 0 71 2 (.s la n lc) n xs):=aS hl (vV (Y:=λk=>(Value.slice la n lc).ownBlock=some k) hB2 (λk hk=>aK hl hk)) (λk hk=>hk);have HN:Hid (∀k,(Value.slice la n lc).ownBlock=some k->k<w.heap.size):=λk hk=>aK hl hk;have HX2:Hid (∀X,Fr (λk=>(Value.slice la n lc).ownBlock=some k) W2 X->cW X W1.heap.size #[.t (lN (ps.length / 4)),.e] 71):=λX hX=>hX.heap x2 (λe=>by have:=HN.o _ e;omega);clear hl y0 y1 yfr c17 hss;go_loopw [5] (λi wr=>∃m:Nat,i=.i m/\m<=n/\Hid (wr.ownsRow 0 71 2 (.s la n lc) n (mrk ps.length m++xs.drop (m * 2))/\Fr (λk=>(Value.slice la n lc).ownBlock=some k) W2 wr)) (λi _=>n-(intOf i).toNat)
 case atStart=>exact⟨0,rfl,AG _,by simpa[mrk] using HL2.o,AE _ _⟩
 case round =>
  obtain⟨m,rfl,hm,HH⟩:=hrel;obtain⟨y0,y1⟩:=bY (HX2.o wr HH.o.2);rcases BR m n with hlt|hge
  .have hji:(m:Int)<(n:Int):=by omega
   obtain⟨hO,hF⟩:=HH.o;obtain⟨a',c',e',hc⟩:=vK hO;obtain⟨gl,rfl,hgl,hcl⟩:=hc (by omega);simp only[AQ,CV]at e';obtain⟨rfl,rfl⟩:=e';have hlen:=Yq ps.length m;have hxl:=HXL.o;obtain⟨u0,k0⟩:∃u,wr.c gl (m * 2)=some u:=⟨_,hcl (m * 2) _ (jQ (by rw[jK,BE];omega))⟩;obtain⟨u1,k1⟩:∃u,wr.c gl (m * 2+1)=some u:=⟨_,hcl (m * 2+1) _ (jQ (by rw[jK,BE];omega))⟩;obtain⟨gcur,hgc⟩:=kZ hO;have gfr:=aA hgc;have HEND:Hid ((wr.setCell (aD gl (m * 2)) (.t (lN (ps.length / 4)))).setCell (aD gl (m * 2+1)) .e |>.ownsRow 0 71 2 (.q gl n lc) n (mrk ps.length (m+1)++xs.drop ((m+1) * 2))):=by
    have o1:=dR hO (m * 2) (by rw[jK,BE];omega) (.t (lN (ps.length / 4)));have o2:=dR o1 (m * 2+1) (by rw[CL,jK,BE];omega) .e;rw[qJh ps.length m n xs hxl hlt]at o2;exact o2
   have HF:Hid (Fr (λk=>(Value.q gl n lc).ownBlock=some k) W2 ((wr.setCell (aD gl (m * 2)) (.t (lN (ps.length / 4)))).setCell (aD gl (m * 2+1)) .e)):=(hF.s gl (m * 2)).s gl (m * 2+1);go_wp2;exact⟨⟨m+1,by simp,by omega,HEND.o,HF.o⟩,by simp[intOf];omega⟩
  .obtain rfl:m=n:=by omega
   have HK:Hid (KpS w wr q M W1.heap.size (.s la m lc) m vp ps 0 0 (.s la m lc) vp ps):=by
    obtain⟨hO,hF⟩:=HH.o;obtain⟨hB,h9,hvp,_,hl,hap,hbox⟩:=H.o;have hq:=(gL hbox);have F0:Fr (λk=>(Value.slice la m lc).ownBlock=some k) w wr:=(AB hB2).t hF;have nK:∀k,fpK vp ps k->¬(Value.slice la m lc).ownBlock=some k:=by
     rintro k (hk|⟨u,hu,hk⟩) e
     .rcases dS hB.row hl (by decide) with h1|h1
      .rw[h1]at hk;cases hk
      .exact h1 (hk.t e.symm)
     .exact hap k e u hu hk
    have hB':=hB.on (F0.on (λk hk=>⟨hB.lies k hk,nK k hk⟩));have hx0:=HXL.o;rw[CW (by omega),FD]at hO;refine⟨by have:=F0.heap hbox (aP hl hbox (by decide));rw[<-h9];exact this,HX2.o wr hF,hB'.row,rfl,λj hj=>?_,hO,λe=>by have:=HN.o _ e;omega,F0.m (λk hk=>.inl (.inr (.inr hk))),λk hk=>.inl hk,λk hk=>.inl hk,λk hk=>.inl hk⟩;obtain⟨m',hm',hc⟩:=hB'.cut j hj;refine⟨m',hm',hc,?_⟩;by_cases e:ps[j].ownBlock=(Value.slice la m lc).ownBlock
    .cases hb:ps[j].ownBlock with
     |none =>
      have:m'=0:=by
       obtain⟨_,⟨_,h0⟩|⟨g',c,r,hv,_⟩⟩:=hc
       .exact h0
       .rw[hv]at hb;simp[Value.ownBlock]at hb
      exact .inr (by omega)
     |some k=>exact absurd (by rw[<-e];exact hb) (nK k (.inr ⟨_,AA hj,hb⟩))
    .exact .inl e
   have H4:Hid (ps.length % 4=0):=H.o.1.four;clear HH y0 y1 H HX2 HN HL2;go_wp2;go_loopw [6,7] (λg i wr=>∃(a:Nat) (ga:Option Addr) (gc:Nat) (vq:Value) (qs:List Value),i=.i a/\a<=4/\g=.s ga (m+a) gc/\Hid (KpS w wr q M W1.heap.size (.s la m lc) m vp ps a a (.s ga (m+a) gc) vq qs)) (λ_ i _=>4-(intOf i).toNat)
   case atStart=>exact⟨0,la,lc,vp,ps,rfl,by omega,rfl,HK.o⟩
   case round =>
    clear HK;obtain⟨a,ga,gc,vq,qs,rfl,ha,rfl,HK⟩:=hrel;rcases BR a 4 with hlt|hge
    .have hji:(a:Int)<4:=by omega
     have hK:=HK.o;have hlq:=hK.len;have hgo:=hK.gx;have hro:=hK.row;obtain⟨xa,xc,hvq⟩:=aG hro;obtain⟨nq,hnq⟩:=nM (qs.length);have c17:wr.c q 17=some vq:=by simp[World.cell?,hK.box]
     rw[hnq]at hvq hro;rw[hvq]at c17 hro;have hnqb:nq<=10000010:=by omega
     have HLY:Hid (∀X3 v3,fF 30 1 (.s xa nq xc) nq qs [.s ga (m+a) gc] 1 wr v3 X3->X3.c q 17=some (.s xa nq xc)/\(∀i,X3.frozen? (aD q i)=false)/\KpS w (X3.setCell (aD q 17) v3) q M W1.heap.size (.s la m lc) m vp ps a (a+1) (.s ga (m+a) gc) v3 (qs++[.s ga (m+a) gc])):=λX3 v3 A=>by
      have b3:=A.fr.heap hK.box (aP hro hK.box (by decide));exact⟨by simp[World.cell?,b3,hvq],aA b3,hK.lay H4.o hlt hn1 (by rw[hvq,hnq];exact A)⟩
     clear hK hvq HK;go_wp2_with (first
      |(at_builtin;refine fQ wr rfl (.tmp 35) (.tmp 37) 39 30 _ 1 24 rfl Tryz.underlying39 qCg rfl (by decide) (.s xa nq xc) nq qs rfl hro [.s ga (m+a) gc] rfl rfl (by simp[Value.oneCell']) (by omega) (by omega) ?_;intro v3 X3 A3;obtain⟨g3,k3,rfl⟩:=A3.shape (by decide);obtain⟨d17,dfr,HK4⟩:=HLY.o X3 _ A3;obtain⟨X4,hX4⟩:=nM (X3.setCell (aD q 17) (.q g3 (nq+1) k3));rw[hX4]at HK4;obtain⟨y0,y1⟩:=bY HK4.mbx;have hgx:=HK4.gx;replace HK4:=(show Hid _ from HK4))
      |(at_builtin;refine qDn X4 rfl (.tmp 41) (.tmp 43) 30 71 _ 2 32 rfl Tryz.underlying30 dA rfl (by decide) (.s ga (m+a) gc) (m+a) (mrk ps.length (m+a)) rfl hgx [.t (lN (ps.length / 4)),.e] rfl rfl (by simp[Value.oneCell']) (by omega) (by omega) ?_;intro v5 X5 A5 hk5;obtain⟨g5,k5,rfl⟩:=A5.shape (by decide);have HK5:=(show Hid _ from HK4.o.ext A5 hk5)))
     exact⟨⟨a+1,_,_,_,_,by simp,by omega,rfl,HK5.o⟩,by simp[intOf];omega⟩
    .obtain rfl:a=4:=by omega
     go_wp2;go_end0;have hK:=HK.o;refine⟨rfl,vq,qs,⟨hK.row,by rw[hK.len];have:=H4.o;omega,λj hj=>?_⟩,hK.len,hK.box,hK.fr,hK.gr⟩;obtain⟨m',hm',hc,_⟩:=hK.cut j hj;exact⟨m',hm',hc⟩
def LwS(n B:Nat)(w:World)(q:Nat)(Ar:Bl):Prop:=∃Bk vp ps,Lw n B w q Bk vp/\kS w vp ps/\ps.length<=4 * B/\(∀k,fpK vp ps k->Bk k/\¬Ar k)/\∀k,Ar k->Bk k
structure Nb (c:OpV):Prop where
 n0 : -9223372036854775808<=c.n
 n1:c.n<=9223372036854775807
section
variable {n B:Nat}{w w':World}{q:Nat}{Bk K Ar:Bl}{D:Db}{v:Nat}{o ao:Option (Nat×T)}{ots:List (Option (Nat×T))}{M:RM}{ps:List Value}
def Wd.rebook(h:Wd n B w q Bk K D v o ao ots M){vq vl:Value}{qs}(N:w'.heap[q]?=some ({M with p9:=vq}:RM).obj)(r:Fr (λk=>k=q\/M.p9.ownBlock=some k\/vl.ownBlock=some k) w w')(a:∀k,fpK M.p9 ps k->Bk k)(m:∀k,vl.ownBlock=some k->¬fpD D k/\¬Bl.or K (fpR q M) k)(Q:kS w' vq qs)(E:∀k,fpK vq qs k->fpK M.p9 ps k\/vl.ownBlock=some k\/w.heap.size<=k):
  Wd n B w' q (Bl.or Bk (fpK vq qs)) K D v o ao ots {M with p9:=vq}:=by
 have G:=r.size;have L:∀k,Bl.or K (fpR q M) k->k≠q->¬(k=q\/M.p9.ownBlock=some k\/vl.ownBlock=some k):=λk e x b=>by
  rcases b with b|b|b
  .exact x b
  .exact(h.book k (a k (.inl b))).2 e
  .exact(m k b).2 e
 have c:=h.ref;have on:On (λk=>Bl.or K (fpR q M) k/\k≠q) w w':=r.on (λk a=>⟨c.lies k a.1,L k a.1 a.2⟩);have T:∀{k H b I},w.heap[k]?=some (.cells H b I)->b≠43->k≠q:=λy O b=>by rw[b,c.box]at y;simp at y;exact O y.2.1.symm
 have p:=on.m (λk a=>⟨.inl a,(c.kp k a).2.1⟩);have A:∀{l:TypeId}{C z:Nat}{j:Value}{u:List Value},w.ownsRow 0 l C j z u->l≠43->(∀k,j.ownBlock=some k->Bl.or K (fpR q M) k)->w'.ownsRow 0 l C j z u:=λ{l C z j u} F x P=>aS (Y:=λk=>j.ownBlock=some k) F (on.m (λk a=>⟨P k a,λb=>by subst b;exact aP F c.box (λb=>x b.symm) a⟩)) (λk a=>a);have R:aY w' K q {M with p9:=vq}:=⟨N,A c.row (by decide) (λk a=>.inr (.inr (.inl a))),c.now.on p,c.ah.on p,λi g=>⟨(c.each i g).bg.on p,(c.each i g).l.on p,A (c.each i g).ch (by decide) (λk a=>.inr (.inr (.inr ⟨i,g,.inl a⟩))),A (c.each i g).oth (by decide) (λk a=>.inr (.inr (.inr ⟨i,g,.inr a⟩)))⟩,c.apart,λk a=>⟨jY (c.kp k a).1 G,(c.kp k a).2⟩⟩;have J:=h.lk.db.aside r (λk a t=>by
  rcases a with b|b|b
  .exact(h.apart k t).1 (.inr (.inl b))
  .exact(h.apart k t).2 (a k (.inl b))
  .exact(m k b).1 t)
 refine⟨R,{(h.lk.more J (jU B)) with},h.f,h.x,h.twice,h.broken,h.safe,h.fl,h.spoiled,h.meta',λk e=>⟨(h.apart k e).1,λd=>?_⟩,λk e=>?_⟩
 .rcases d with d|d
  .exact(h.apart k e).2 d
  .rcases E k d with f|f|f
   .exact(h.apart k e).2 (a k f)
   .exact(m k f).1 e
   .have:=h.lk.db.lies k e;omega
 .rcases e with d|d
  .exact⟨jY (h.book k d).1 G,(h.book k d).2⟩
  .refine⟨Q.lies k d,λs=>?_⟩
   rcases E k d with f|f|f
   .exact(h.book k (a k f)).2 s
   .exact(m k f).2 s
   .have:=c.lies k s;omega
def qIh(h:Wd n B w q Bk K D v o ao ots M)(ab:B<=400000)(c:OpV)(a0:c.kind=3):
  cL 23 #[.p q 0,.agg c.cells] w λe w'=>e=.r (.bool true)/\On Bk w w'/\Lw n (B+1) w' q Bk M.p9:=by
 have⟨a5,g,P,Q,A,L,G,I,H⟩:=c;obtain rfl:a5=3:=a0;have⟨r,F⟩:=Dx M.ts g;obtain⟨a,E,O,N,-⟩:=al1 w (.cells #[.i 3,.i g,.t P,.t Q,.i A,.bool L,.s G I H] 46);have p:=h.box (.cells #[.i 3,.i g,.t P,.t Q,.i A,.bool L,.s G I H] 46);rw[E]at p;have s:bW a a:=AC _ _;have a1:∀J∈M.ts,J.l.length<=1000000:=λJ a2=>by have:=(h.lk.bounds.2.2 J a2).2.1;omega
 have t:Hid (∀X,Wd n (B+1) X q (Bl.or Bk (Bl.one w.heap.size)) K D v o ao ots M->On (Bl.or Bk (Bl.one w.heap.size)) a X->X.c q 1=some (.p D.d 0)/\X.c w.heap.size 1=some (.i g)/\X.c w.heap.size 2=some (.t P)):=λX m Y=>by
  have R:=(dE m.ref.box).2.1;rw[h.x]at R;have⟨_,a6,a7,_⟩:=dY (Y.heap N (.inr rfl));exact⟨R,a6,a7⟩
 have z:Hid (∀X,bW a X->Wd n (B+1) X q (Bl.or Bk (Bl.one w.heap.size)) K D v o ao ots M/\On (Bl.or Bk (Bl.one w.heap.size)) a X):=λX m=>by
  have j:=p.below m;exact⟨j.still j.lk.db (AE _ _) (DO B),vV m (λf d=>(p.book f d).1)⟩
 have m:=s.drew;have j:=p.below m;have⟨Z,hA,hG⟩:=Vz j.lk (by omega) g P r F;have y:Hid (cL 17 #[.p D.d 0,.i g,.t P] a.drew λe k=>e=.r (.tuple #[.t Z.1,.i Z.2])/\Hid (∀b,bW k b->(Wd n (B+1) b q (Bl.or Bk (Bl.one w.heap.size)) K D v o ao ots M/\On (Bl.or Bk (Bl.one w.heap.size)) a b)/\(cL 59 #[.p q 2,.i g,.t P] b λe w'=>e=.r (.tuple #[.t (eO r P).1,.i (eO r P).2])/\w'=b)/\(cL 60 #[.p q 0,.i Z.2] b λe w'=>e=.r (.bool (Z.2==9&&D.fs.life==0))/\w'=b))):=by
  apply hG.m;rintro e k ⟨rfl,W,C⟩;refine⟨rfl,λb x=>?_⟩;have u:=(j.still W C (DO B)).below x;exact⟨⟨u,((vV m (λf d=>(p.book f d).1)).t (C.on (λf d=>⟨(j.book f d).1,λe=>(j.apart f (.inl e)).2 d⟩))).t (vV x (λf d=>jY (j.book f d).1 C.size))⟩,Dw u.ref g P r F h.lk.n8 a1,Ys u.ref h.f h.spoiled u.lk.db _⟩
 have V:Hid (∀b,Wd n (B+1) b q (Bl.or Bk (Bl.one w.heap.size)) K D v o ao ots M/\On (Bl.or Bk (Bl.one w.heap.size)) a b->On Bk w b/\Lw n (B+1) b q Bk M.p9):=λb x=>⟨(vV O (λf d=>(h.book f d).1)).t (x.2.m (λf d=>.inl d)),K,D,v,o,ao,ots,M,x.1.less (λf d=>.inl d),rfl⟩;have a4:=(dY N).1;rcases hA with rfl|⟨rfl,hl,h3,h1⟩
 .have hb:((eO r P).2==9&&D.fs.life==0)=false:=by
   have:=Ob r P;simp[this]
  rw[hb]at y;generalize eO r P=ga at y;have⟨a9,aa⟩:=ga;dsimp only at y;go_enter Tryz.func23,Tryz.ntmps23;go_wp2;have⟨S,T,U⟩:=t a (z a s).1 (z a s).2;go_region_held3 (λX=>X.c q 1=some (.p D.d 0)/\X.c w.heap.size 1=some (.i g)/\X.c w.heap.size 2=some (.t P))
   (first|exact t _ (z _ s.drew).1 (z _ s.drew).2|exact t _ (i _ (AC _ _)).1.1 (i _ (AC _ _)).1.2)
   ((go_at_call 17;apply Calls.m y;rintro e k ⟨rfl,i⟩))
  all_goals
   have l:bW k k:=AC _ _;have⟨S,T,U⟩:=t _ (i _ l).1.1 (i _ l).1.2;go_wp2;go_region_held3 (λX=>X.c q 1=some (.p D.d 0)/\X.c w.heap.size 1=some (.i g)/\X.c w.heap.size 2=some (.t P))
    (exact t _ (i _ l.drew).1.1 (i _ l.drew).1.2)
    ((go_at_call 59;apply Calls.m (i _ l.drew).2.1;rintro e w' ⟨rfl,a3⟩;subst w'))
   go_wp2_with (go_at_call 60;apply Calls.m (i _ l.drew).2.2;rintro e w' ⟨rfl,a3⟩;subst w');go_ret;exact⟨rfl,V _ (i _ l.drew).1⟩
 .have hb:((9:Int)==9&&D.fs.life==0)=true:=by simp[hl]
  dsimp only at y;rw[hb]at y;generalize eO r P=ga at y h3 h1;have⟨a9,aa⟩:=ga;dsimp only at y h3 h1;have f3:(aa != 3)=true:=by simpa using h3
  have f1:(aa != 1)=true:=by simpa using h1
  go_enter Tryz.func23,Tryz.ntmps23;go_wp2;have⟨S,T,U⟩:=t a (z a s).1 (z a s).2;go_region_held3 (λX=>X.c q 1=some (.p D.d 0)/\X.c w.heap.size 1=some (.i g)/\X.c w.heap.size 2=some (.t P))
   (first|exact t _ (z _ s.drew).1 (z _ s.drew).2|exact t _ (i _ (AC _ _)).1.1 (i _ (AC _ _)).1.2)
   ((go_at_call 17;apply Calls.m y;rintro e k ⟨rfl,i⟩))
  all_goals
   have l:bW k k:=AC _ _;have⟨S,T,U⟩:=t _ (i _ l).1.1 (i _ l).1.2;go_wp2;go_region_held3 (λX=>X.c q 1=some (.p D.d 0)/\X.c w.heap.size 1=some (.i g)/\X.c w.heap.size 2=some (.t P))
    (exact t _ (i _ l.drew).1.1 (i _ l.drew).1.2)
    ((go_at_call 59;apply Calls.m (i _ l.drew).2.1;rintro e w' ⟨rfl,a3⟩;subst w'))
   go_wp2_with (go_at_call 60;apply Calls.m (i _ l.drew).2.2;rintro e w' ⟨rfl,a3⟩;subst w');go_ret;exact⟨rfl,V _ (i _ l.drew).1⟩
structure ScS (n B:Nat) (W1 X:World) (q:Nat) (Bk K:Bl) (D:Db) (v:Nat) (o ao:Option (Nat×T)) (ots:List (Option (Nat×T))) (M:RM) (vl:Value) (L:KV):Prop where
 wd:Wd n B X q Bk K D v o ao ots M
 on:On Bk W1 X
 row:X.ownsRow 0 71 2 vl L.length (aI L)
 new:∀k,vl.ownBlock=some k->W1.heap.size<=k
def ScS.below {d X Y L}(h:ScS n B d X q Bk K D v o ao ots M vl L)(c:bW X Y):ScS n B d Y q Bk K D v o ao ots M vl L :=
 ⟨h.wd.below c,h.on.t (vV c (λb a=>(h.wd.book b a).1)),aS (Y:=λb=>vl.ownBlock=some b) h.row (vV c (λb a=>aK h.row a)) (λb a=>a),h.new⟩
def qAj(v v' l S S' w)(h:fM w S v [])(d:fM w S' v' l):cL 63 #[v,v'] w λe w'=>(∃b,e=.r (.bool b))/\w'=w:=by
 obtain⟨a,c,rfl,_⟩:=h;obtain⟨g,j,rfl,_⟩:=d;simp only[jN];by_cases hl:l.length=0
 .rw[hl];go_enter Tryz.func63,Tryz.ntmps63;go_wp2;go_loopw [5] (λi f=>i=.i 0/\f=w) (λi _=>0)
  case atStart=>exact⟨rfl,rfl⟩
  case round=>obtain⟨rfl,rfl⟩:=hrel;go_wp2;go_ret;exact⟨⟨_,rfl⟩,rfl⟩
 .have k:((0:Int) != (l.length:Int))=true:=by simp;omega
  go_enter Tryz.func63,Tryz.ntmps63;go_wp2;go_ret;exact⟨⟨_,rfl⟩,rfl⟩
def qDg(h:Wd n B w q Bk K D v o ao ots M)(bh:B<=400000)(a9:kS w M.p9 ps)(bj:ps.length<=4 * B)(f:∀k,fpK M.p9 ps k->Bk k/\¬Ar k)(N:∀k,Ar k->Bk k)(c)(ax:(c.kind==3)=false)(b2:Nb c):
  cL 23 #[.p q 0,.agg c.cells] w λe w'=>e=.r (.bool true)/\On Ar w w'/\LwS n (B+1) w' q Ar:=by
 have⟨a0,p,P,Q,m,a4,Y,a1,Z⟩:=c;have⟨_,ab⟩:=b2;dsimp only at ax ab;have⟨r,W⟩:=Dx M.ts p;obtain⟨a,V,a5,af,-⟩:=al1 w (.cells #[.i a0,.i p,.t P,.t Q,.i m,.bool a4,.s Y a1 Z] 46);have l:=h.box (.cells #[.i a0,.i p,.t P,.t Q,.i m,.bool a4,.s Y a1 Z] 46);rw[V]at l;have A:bW a a:=AC _ _;have ad:=h.lk.bounds;have b0:∀G∈M.ts,G.l.length<=1000000:=λG b4=>by have:=(ad.2.2 G b4).2.1;omega
 have⟨⟨i,H⟩,hA,hS⟩:=Lj l.lk (by omega) p P Q m ab r W;have⟨i2,U⟩:=nM ((cZ r P Q m).1);have⟨H2,ae⟩:=nM ((cZ r P Q m).2);have ba:H2≠9:=by
  rw[<-ae];unfold cZ;grind
 have⟨dd,an,hd2⟩:∃dd:Bool,(dd=false->i=i2/\H=H2)/\(dd=true->(i=[]/\H=9)/\D.fs.life=0/\H2≠3/\H2≠1):=by
  rcases hA with q|⟨q,q2,q3⟩
  .exact⟨false,λ_=>by rw[<-U,<-ae,<-q];exact⟨rfl,rfl⟩,nofun⟩
  .exact⟨true,nofun,λ_=>⟨FZ q,q2,by rw[<-ae];exact q3⟩⟩
 have bu:i2.length<=1000000:=by
  have:=Iv (B:=B) r P Q m (λj G e=>by subst e;exact(ad.2.2 G (BL W.1)).2.1);rw[U]at this;omega
 have aa:i.length<=1000000:=by
  cases dd
  .rw[(an rfl).1];exact bu
  .rw[(hd2 rfl).1.1];simp
 have z:Hid (∀X,X.heap[q]?=some M.obj->On (Bl.or Bk (Bl.one w.heap.size)) a X->X.c q 1=some (.p D.d 0)/\X.c w.heap.size 1=some (.i p)/\X.c w.heap.size 2=some (.t P)/\X.c w.heap.size 3=some (.t Q)/\X.c w.heap.size 4=some (.i m)):=λX x av=>by
  have a7:=(dE x).2.1;rw[h.x]at a7;have⟨_,b6,b7,b8,b9,_⟩:=dY (av.heap af (.inr rfl));exact⟨a7,b6,b7,b8,b9⟩
 have J:Hid (∀X,bW a X->X.heap[q]?=some M.obj/\On (Bl.or Bk (Bl.one w.heap.size)) a X):=λX x=>⟨(l.below x).ref.box,vV x (λk f=>(l.book k f).1)⟩;have ah:Hid (∀X,bW a X->cL 61 #[.p D.d 0,.i p,.t P,.t Q,.i m] X λe O=>∃vl,e=.r (.tuple #[vl,.i H])/\Hid (ScS n (B+1) a O q (Bl.or Bk (Bl.one w.heap.size)) K D v o ao ots M vl i)):=λX x=>by
  have s:=l.below x;apply(hS X s.lk.db).m;rintro e O ⟨vl,rfl,au,C,E,b1⟩;have bl:=x.size;exact⟨vl,rfl,s.still au C (DO B),(vV x (λk f=>(l.book k f).1)).t (C.on (λk f=>⟨(s.book k f).1,λe=>(s.apart k (.inl e)).2 f⟩)),E,λk f=>by have:=b1 k f;omega⟩
 have ai:Hid (∀d vl,ScS n (B+1) a d q (Bl.or Bk (Bl.one w.heap.size)) K D v o ao ots M vl i->(cL 62 #[.p q 2,.i p,.t P,.t Q,.i m] d λe R=>∃t,e=.r (.tuple #[t,.i H2])/\Hid (R.ownsRow 0 71 2 t i2.length (aI i2)/\ScS n (B+1) a R q (Bl.or Bk (Bl.one w.heap.size)) K D v o ao ots M vl i))):=λd vl g=>by
  apply(Iw g.wd.ref p P Q m r W h.lk.n8 b0).m;rintro e R ⟨t,rfl,E,ap,_⟩;rw[U]at E;rw[ae];exact⟨t,rfl,E,g.below ap⟩
 have aj:Hid (∀d vl t,d.ownsRow 0 71 2 t i2.length (aI i2)/\ScS n (B+1) a d q (Bl.or Bk (Bl.one w.heap.size)) K D v o ao ots M vl i->(cL 63 #[vl,t] d λe a3=>∃bb,e=.r (.bool bb)/\(dd=false->bb=true)/\Hid (ScS n (B+1) a a3 q (Bl.or Bk (Bl.one w.heap.size)) K D v o ao ots M vl i))):=λd vl t g=>by
  cases dd
  .have⟨q,_⟩:=an rfl
   subst q;apply(Iy vl t i _ _ d (JT g.2.row) (JT g.1) aa).m;rintro e a3 ⟨rfl,aq⟩;exact⟨_,rfl,λ_=>rfl,g.2.below aq⟩
  .have⟨⟨q,_⟩,_⟩:=hd2 rfl
   subst q;apply(qAj vl t i2 _ _ d (JT g.2.row) (JT g.1)).m;rintro e a3 ⟨⟨bb,rfl⟩,rfl⟩;exact⟨_,rfl,nofun,g.2⟩
 have ak:Hid (∀d vl,ScS n (B+1) a d q (Bl.or Bk (Bl.one w.heap.size)) K D v o ao ots M vl i->(cL 60 #[.p q 0,.i H] d λe w'=>e=.r (.bool dd)/\w'=d)):=λd vl g=>by
  have:=Ys g.wd.ref h.f h.spoiled g.wd.lk.db H;have e:(H==9&&D.fs.life==0)=dd:=by
   cases dd
   .rw[(an rfl).2];simp[ba]
   .have⟨⟨_,q⟩,q2,_⟩:=hd2 rfl
    simp[q,q2]
  rw[e]at this;exact this
 have al:Hid (∀d vl,ScS n (B+1) a d q (Bl.or Bk (Bl.one w.heap.size)) K D v o ao ots M vl i->(cL 64 #[.p q 14,vl] d λe w'=>e=.r (.tuple #[])/\Hid (On Ar w w'/\LwS n (B+1) w' q Ar))):=λd vl g=>by
  have bs:=a5.size;have a2:=(vV a5 (λk f=>(h.book k f).1)).t (g.on.m (λk f=>.inl f));have bt:=a2.size;have F:nW vl w:=λk b=>by have:=g.new k b;omega
  apply(Ht g.wd.ref.box rfl (a9.on (a2.m (λk b=>(f k b).1))) (by omega) g.row aa (λk b u b5 e=>by
   have l:=a9.lies k (.inr ⟨u,b5,e⟩);have s:=F k b;omega)).m
  rintro e w' ⟨rfl,vq,qs,ac,bi,aw,C,az⟩;have a8:=az;have L:lW Ar w:=λk b=>(h.book k (N k b)).1;refine⟨rfl,(a2.m N).t (C.on (λk b=>⟨by have:=L k b;omega,λe=>?_⟩)),_,vq,qs,⟨K,D,v,o,ao,ots,_,g.wd.rebook (ps:=ps) aw C (λk b=>.inl (f k b).1) (λk b=>⟨λay=>by have l:=h.lk.db.lies k ay;have s:=F k b;omega,λb3=>by have l:=h.ref.lies k b3;have s:=F k b;omega⟩) ac a8,rfl⟩,ac,by omega,λk b=>⟨.inr b,λT=>?_⟩,λk b=>.inl (.inl (N k b))⟩
  .rcases e with e|e|e
   .exact(h.book k (N k b)).2 (.inr (.inl e))
   .exact(f k (.inl e)).2 b
   .have l:=L k b;have s:=F k e;omega
  .rcases a8 k b with l|l|l
   .exact(f k l).2 T
   .have s:=L k T;have bg:=F k l;omega
   .have s:=L k T;omega
 have am:Hid (∀X,bW X X.drew):=λX=>(AC _ X).drew;have bm:=(dY af).1;cases dd
 .have⟨q1,q2⟩:=an rfl
  subst q1 q2;go_enter Tryz.func23,Tryz.ntmps23;go_wp2;have⟨bb,bc,bd,be,bf⟩:=z a (J a A).1 (J a A).2;go_region_held3 (λX=>X.c q 1=some (.p D.d 0)/\X.c w.heap.size 1=some (.i p)/\X.c w.heap.size 2=some (.t P)/\X.c w.heap.size 3=some (.t Q)/\X.c w.heap.size 4=some (.i m))
   (first|exact z _ (J _ A.drew).1 (J _ A.drew).2|exact z _ y.wd.ref.box y.on)
   ((go_at_call 61;apply Calls.m (ah _ A.drew);rintro e O ⟨vl,rfl,y⟩;obtain⟨bn,bo,rfl⟩:=aG y.row))
  all_goals
   have⟨bb,bc,bd,be,bf⟩:=z _ y.wd.ref.box y.on;go_wp2;have S:=(show Hid _ from y.below (am O));go_region_held3 (λX=>X.c q 1=some (.p D.d 0)/\X.c w.heap.size 1=some (.i p)/\X.c w.heap.size 2=some (.t P)/\X.c w.heap.size 3=some (.t Q)/\X.c w.heap.size 4=some (.i m))
    (first|exact z _ S.wd.ref.box S.on|exact z _ I.2.wd.ref.box I.2.on)
    ((go_at_call 62;apply Calls.m (ai _ _ S);rintro e R ⟨t,rfl,I⟩;obtain⟨bp,bq,rfl⟩:=aG I.1))
   all_goals
    go_wp2_with (first
     |(go_at_call 63;apply Calls.m (aj _ _ _ I);rintro e a3 ⟨bb,rfl,hbb,a6⟩;obtain rfl:=hbb (by simp))
     |(go_at_call 60;apply Calls.m (ak _ _ a6);rintro e w' ⟨rfl,bk⟩;subst w')
     |(go_at_call 64;apply Calls.m (al _ _ a6);rintro e br ⟨rfl,ag⟩))
    go_ret;exact⟨rfl,ag⟩
 .have⟨⟨q1,q2⟩,_,q3,q4⟩:=hd2 rfl
  subst q1 q2;have f3:(H2 != 3)=true:=by simpa using q3
  have f1:(H2 != 1)=true:=by simpa using q4
  go_enter Tryz.func23,Tryz.ntmps23;go_wp2;have⟨bb,bc,bd,be,bf⟩:=z a (J a A).1 (J a A).2;go_region_held3 (λX=>X.c q 1=some (.p D.d 0)/\X.c w.heap.size 1=some (.i p)/\X.c w.heap.size 2=some (.t P)/\X.c w.heap.size 3=some (.t Q)/\X.c w.heap.size 4=some (.i m))
   (first|exact z _ (J _ A.drew).1 (J _ A.drew).2|exact z _ y.wd.ref.box y.on)
   ((go_at_call 61;apply Calls.m (ah _ A.drew);rintro e O ⟨vl,rfl,y⟩;obtain⟨bn,bo,rfl⟩:=aG y.row))
  all_goals
   have⟨bb,bc,bd,be,bf⟩:=z _ y.wd.ref.box y.on;go_wp2;have S:=(show Hid _ from y.below (am O));go_region_held3 (λX=>X.c q 1=some (.p D.d 0)/\X.c w.heap.size 1=some (.i p)/\X.c w.heap.size 2=some (.t P)/\X.c w.heap.size 3=some (.t Q)/\X.c w.heap.size 4=some (.i m))
    (first|exact z _ S.wd.ref.box S.on|exact z _ I.2.wd.ref.box I.2.on)
    ((go_at_call 62;apply Calls.m (ai _ _ S);rintro e R ⟨t,rfl,I⟩;obtain⟨bp,bq,rfl⟩:=aG I.1))
   all_goals
    go_wp2_with (first
     |(go_at_call 63;apply Calls.m (aj _ _ _ I);rintro e a3 ⟨bb,rfl,hbb,a6⟩)
     |(go_at_call 60;apply Calls.m (ak _ _ a6);rintro e w' ⟨rfl,bk⟩;subst w')
     |(go_at_call 64;apply Calls.m (al _ _ a6);rintro e br ⟨rfl,ag⟩))
    go_ret;exact⟨rfl,ag⟩
end
def xQ{fs es}(h:∀x∈es,x.good fs):∀b∈kvB es,b.2.size<=400:=λb d=>by
 obtain⟨x,a,rfl⟩:=AW.1 d;have e:=Fx (h x a);have f:x.e.size<=400:=by
  obtain⟨_,_,⟨_,_,g,c⟩|⟨_,_,k,j,c,_,_,i,_⟩⟩:=h x a
  .omega
  .omega
 show x.value.toArray.size<=400
 grind
def Aft(l X:World)(nv:Int)(L:KV)(b:Nat)(va:Value):Prop:=l.heap.size<=b/\cW X b #[va,.i (nv+1)] 32/\X.ownsRow 0 71 2 va L.length (aI L)/\nW va l
def Aft.below{l X d:World}{f:Int}{L:KV}{b:Nat}{e:Value}(h:Aft l X f L b e)(g:bW X d):Aft l d f L b e:=⟨h.1,(g.block _ (gL h.2.1)).t h.2.1,aS h.2.2.1 (vV (Y:=λc=>e.ownBlock=some c) g (λc a=>aK h.2.2.1 a)) (λc a=>a),h.2.2.2⟩
def qMe(n B:Nat)(w l:World)(q:Nat)(Bk:Bl)(D:Db)(M:RM)(x:Int)(t:RT)(fs:Fs)(z:Int):Prop :=
 (((t.ch=[]/\z=0)\/(t.ch≠[]/\((gM t.ch t.oth=true/\z=7)\/(gM t.ch t.oth=false/\((z=8/\n<iN M t)\/(z=9/\D.failed=true))))))/\∀X,bW l X->cL 28 #[.p q 2,.i x] X λe w'=>e=.r (.i 0)/\w'.c q 11=some M.p3/\On Bk w w'/\Lw n (B+1) w' q Bk M.p9) \/
 (t.ch≠[]/\gM t.ch t.oth=false/\z=9/\D.failed=false/\(decide (D.fs.failed<fs.failed)||fs.life==0)=true/\∀X b va,bW l X->Aft l X M.nv (t.ch.foldl dP M.now) b va->cL 28 #[.p q 2,.i x] X λe w'=>e=.r (.i 0)/\On Bk w w'/\(∃N:RM,N.p3=.bool false/\w'.heap[q]?=some N.obj)/\cW w' b #[va,.i (M.nv+1)] 32/\∀W,(((w'.setCell (aD q 11) (.bool true)).setCell (aD q 10) (.bool true)).setCell (aD q 8) va).setCell (aD q 9) (.i (M.nv+1))=W->On Bk w W/\Lw n (B+1) W q Bk M.p9) \/
 (t.ch≠[]/\gM t.ch t.oth=false/\z=0/\D.failed=false/\(D.fs.life==0)=false/\∀X,bW l X->cL 80 #[.p q 2,.i x] X λe w'=>e=.r (.tuple #[])/\On Bk w w'/\w'.c q 11=some (.bool false)/\Lw n (B+1) w' q Bk M.p9)
section
variable {n B:Nat}{w:World}{q:Nat}{Bk K:Bl}{D:Db}{v:Nat}{o ao:Option (Nat×T)}{ots:List (Option (Nat×T))}{M:RM}
def Lk.small(h:Lk n B w D v o ao ots M):(∀x∈M.now,x.2.size<=400)/\(∀t∈M.ts,∀x∈t.bg,x.2.size<=400)/\∀t∈M.ts,∀x∈t.ch.foldl dP M.now,x.2.size<=400:=by
 refine⟨by rw[<-h.now];exact xQ (gO h.store.sure.rooted h.store.sure.flat),λt d=>?_,λt d=>?_⟩
 .obtain⟨a,b,rfl⟩:=AV d
  have c:=h.each a b;rw[<-c.bg];exact xQ (gO c.tr.rooted c.tr.flat)
 .obtain⟨a,b,rfl⟩:=AV d
  have⟨i,f,j,k,g,l⟩:=(h.each a b).rise;have e:kvB (bF (aU o) (D.ts[a]'(by grind)).cs)=(M.ts[a]).ch.foldl dP M.now:=by
   have:=(qH (eL h.store.sure.rooted) (M.ts[a]).ch (cs:=[]) EC).1;rw[nP (eL h.store.sure.rooted),h.now,<-(h.each a b).cs]at this;exact this
  rw[<-e];exact xQ (kM (eL h.store.sure.rooted) f (gO h.store.sure.rooted h.store.sure.flat) g)
def qHt(h:Wd n B w q Bk K D v o ao ots M)(x)(t:cD M.ts x none):
  cL 14 #[.p D.d 0,.i x] w λe a=>e=.r (.i 3)/\aY a K q M/\On Bk w a/\Lw n (B+1) a q Bk M.p9:=by
 have j:=h.lk.n8;have k:=h.lk.len;apply(qLu D x w h.lk.db (by omega) (h.lk.miss t)).m;rintro e a ⟨rfl,i,b⟩;have f:=h.still i b (JY B 1);exact⟨rfl,f.ref,b.on (λd c=>⟨(h.book d c).1,λg=>(h.apart d (.inl g)).2 c⟩),K,D,v,o,ao,ots,M,f,rfl⟩
def qHw(h:Wd n B w q Bk K D v o ao ots M)(Y:B<=400000)(a3:n<=4096)(W:2<=n)(x f g)(t:cD M.ts x (some (f,g))):
  cL 14 #[.p D.d 0,.i x] w λe a=>∃z fs,e=.r (.i z)/\aY a K q M/\On Bk w a/\(∃l:Db,l.β=D.β/\aO a 0 l/\l.fs=fs/\fs.safe.length=n)/\qMe n B w a q Bk D M x g fs z:=by
 have ai:=h.lk.n8;have al:=h.lk.len;have S:=h.lk.bounds;have Z:=h.fl;have O:∀d,fpD D d->¬Bl.or K (fpR q M) d:=λd c=>(h.apart d c).1;have L:∀{a:World},Fr (fpD D) w a->On Bk w a:=λb=>b.on (λd c=>⟨(h.book d c).1,λV=>(h.apart d V).2 c⟩);have a5:∀{a X w':World},On Bk w a->bW a X->Fr (fpR q M) X w'->On Bk w w':=λ{a X w'} a4 j G=>by
  have am:=a4.size;have an:=j.size;exact a4.t ((vV j (λd c=>by have:=(h.book d c).1;omega)).t (G.on (λd c=>⟨by have:=(h.book d c).1;omega,λV=>(h.book d c).2 (.inr V)⟩)))
 have ak:=(AD.1 t.1).1;have a2:f<D.ts.length:=by omega
 have aj:=S.2.2 g (BL t.1);have P:∀{a:World}{D':Db} (z:Int),D.sm D'->Fr (fpD D) w a->aJ w (fpD D) (fpD D')->(∀N,Lk n (B+1) a D' v o ao (ots.eraseIdx f) {M with ov:=N,ts:=M.ts.eraseIdx f})->((g.ch=[]/\z=0)\/(g.ch≠[]/\((gM g.ch g.oth=true/\z=7)\/(gM g.ch g.oth=false/\((z=8/\n<iN M g)\/(z=9/\D.failed=true))))))->∃z' fs,Ending.r (.i z)=.r (.i z')/\aY a K q M/\On Bk w a/\(∃l:Db,l.β=D.β/\aO a 0 l/\l.fs=fs/\fs.safe.length=n)/\qMe n B w a q Bk D M x g fs z':=by
  intro a D' z T b m k c;have u:=h.ref.aside b O;have H:=k (.bool false);refine⟨z,D'.fs,rfl,u,L b,⟨D',T.2.1,H.db,rfl,H.store.len⟩,.inl ⟨c,λX j=>?_⟩⟩;apply(wS (u.below j) x f g t (by omega)).m;rintro e w' ⟨rfl,N,R,aa,Q⟩;have G:Fr (fpR q M) X w':=aa.m (λd c=>.inl (.inl c));have ae:=j.size;exact⟨rfl,(dE R.box).2.2.2.2.2.2.2.2.2.2.2.1,a5 (L b) j G,h.bothS T b m (k N) (by omega) R ((AB j).t G) (λd c=>(Q d c).imp id (λa7=>by omega)) rfl rfl rfl rfl rfl ⟨rfl,rfl,rfl,rfl,rfl⟩ ⟨rfl,rfl,rfl⟩⟩
 by_cases hch:g.ch=[]
 .apply(Bt h.lk (by omega) x f g t 0 (.inl ⟨hch,rfl⟩)).m
  rintro e a ⟨rfl,D',I,b,m,k⟩;exact P 0 I b m k (.inl ⟨hch,rfl⟩)
 cases hcf:gM g.ch g.oth with
 |true =>
  apply(Bt h.lk (by omega) x f g t 7 (.inr ⟨hch,hcf,rfl⟩)).m;rintro e a ⟨rfl,D',I,b,m,k⟩;exact P 7 I b m k (.inr ⟨hch,.inl ⟨hcf,rfl⟩⟩)
 |false =>
  by_cases hroom:(D.fs.life==0)=false/\(eP n (dD (osL o ao ots f))).length<(bM o (D.ts[f]).cs (eP n (dD (osL o ao ots f)))).2.length
  .have⟨ab,a8⟩:=Bs h.lk hroom.1 Y a3 W x f g t hch hcf a2 hroom.2
   apply a8.m;rintro e a ⟨rfl,D',I,b,m,k⟩;exact P 8 I b m k (.inr ⟨hch,.inr ⟨hcf,.inl ⟨rfl,ab⟩⟩⟩)
  apply(Br h.lk Y a3 W x f g t hch hcf a2 hroom).m
  rintro e a ⟨zz,D',rfl,⟨T,J⟩,b,m,(⟨rfl,hf,hd,hF,k⟩|⟨rfl,hb,hal,hf,hfl,o',k⟩)⟩
  .cases hbr:D.failed with
   |true =>
    rcases hF with⟨e1,_⟩|⟨e1,_⟩
    .exact P 9 ⟨T,J,e1,by rw[hf,hbr]⟩ b m k (.inr ⟨hch,.inr ⟨hcf,.inr ⟨rfl,hbr⟩⟩⟩)
    .rw[hbr]at e1;cases e1.1
   |false =>
    have u:=h.ref.aside b O;have H:=k (.bool false);have hw:wrap64 (D.fs.failed+1)=D.fs.failed+1:=qW (by have:=Z.1;omega) (by have:=Z.2.1;omega)
    have hv:=h.lk.nv;have hS:(decide (D.fs.failed<D'.fs.failed)||D'.fs.life==0)=true/\0<=D'.fs.failed/\D'.fs.failed<=D.fs.failed+1/\∃C,iE n D'.fs.safe D'.fs.late v o C/\∀v' t,C v' t->(v'=v+1->kvB (aU t)=g.ch.foldl dP M.now)/\(v'≠v+1->kvB (aU t)=M.ah\/t=o):=by
     rcases hF with⟨e1,e2⟩|⟨_,e1,C,e2,e3⟩
     .have e2:=e2.resolve_right (by rw[hbr];decide);have⟨C,c1,c2⟩:=h.safe;rw[e1];exact⟨by simp[e2],Z.1,by omega,C,c1,λv' t a=>⟨λe=>(by have:=((c2.2 v' t a).1 e).1;rw[h.twice,hbr]at this;simp at this),(c2.2 v' t a).2⟩⟩
     .rw[e1,hw];exact⟨by simp;omega,by have:=Z.1;omega,by omega,C,e2,λv' t a=>(e3 v' t a).elim (λe=>⟨λi=>absurd i e.2,λ_=>e.1▸h.lk.ah⟩) (λe=>⟨λ_=>e.2,λi=>absurd e.1 i⟩)⟩
    obtain⟨s1,s2,s3,C,s4,s5⟩:=hS;refine⟨9,D'.fs,rfl,u,L b,⟨D',J,H.db,rfl,H.store.len⟩,.inr (.inl ⟨hch,hcf,rfl,hbr,s1,λX bb va j ⟨A1,A2,A3,A4⟩=>?_⟩)⟩
    apply(wS (u.below j) x f g t (by omega)).m;rintro e w' ⟨rfl,N,R,aa,Q⟩;have G:Fr (fpR q M) X w':=aa.m (λd c=>.inl (.inl c));have ae:=j.size;have ag:=aa.size;have nb:∀k,a.heap.size<=k->k≠q/\(k<X.heap.size->¬fpR q {M with ov:=N,ts:=M.ts.eraseIdx f} k):=λk hk=>⟨λe=>by have:=u.lies k (.inr (.inl e));omega,λi e=>by
     rcases Q k (.inr e) with c|c
     .have:=u.lies k c;omega
     .omega⟩
    have y1:=aa.heap A2 (λe=>(nb bb A1).1 e);refine⟨rfl,a5 (L b) j G,⟨_,?_,R.box⟩,y1,λW hW=>?_⟩
    .show M.p3=_;rw[h.broken,hbr]
    have FW:Fr (Bl.one q) w' W:=hW▸((((AE (Bl.one q) w').s q 11).s q 10).s q 8).s q 9;have xW:=aB (aB (aB (aB R.box 11 (.bool true)) 10 (.bool true)) 8 va) 9 (.i (M.nv+1));rw[hW]at xW;have y2:=aS A3 (aa.on (Z:=λk=>va.ownBlock=some k) (λk e=>⟨aK A3 e,(nb k (A4 k e)).1⟩)) (λk a=>a);have y3:=aS y2 (FW.on (Z:=λk=>va.ownBlock=some k) (λk e=>⟨aK y2 e,(nb k (A4 k e)).1⟩)) (λk a=>a)
    have⟨m1,m2⟩:=R.keep FW;have R':=R.reobj (M':={M with ov:=N,ts:=M.ts.eraseIdx f,p0:=va,p1:=.i (M.nv+1),p2:=.bool true,p3:=.bool true,oth:=g.ch.foldl dP M.now}) (K':=λk=>K k\/va.ownBlock=some k) FW (by simpa using xW) (λb a=>.inl a) (λb a=>a.elim (m2 b) (λa=>⟨aK y3 a,(nb b (A4 b a)).2 (aK A3 a)⟩)) ((R.now.on m1).m (λk a=>.inl a)) ⟨(R.ah.1.on m1).m (λk a=>.inl a),(JT y3).m (λk a=>.inr a)⟩ (.inl ⟨rfl,rfl⟩)
    have GW:Fr (fpR q M) X W:=G.t (FW.m (λd c=>.inl (.inl c)));refine⟨a5 (L b) j GW,h.both T J b m (M':={M with ov:=N,ts:=M.ts.eraseIdx f,p0:=va,p1:=.i (M.nv+1),p2:=.bool true,p3:=.bool true,oth:=g.ch.foldl dP M.now}) {(k N) with} R' ((AB j).t GW) (λd c=>?_) rfl rfl (by rw[hf]) (by rw[hf]) rfl ⟨rfl,rfl,rfl,rfl,rfl⟩ ⟨C,s4,⟨_,rfl,λ_=>by rw[hv]⟩,λv' t a=>⟨λe=>⟨rfl,(s5 v' t a).1 e⟩,(s5 v' t a).2⟩⟩ ⟨s2,by have:=Z.2.1;omega,by have:=qR g.ch M.now;have⟨_,c1,_,_,c2⟩:=h.lk.few;have:=Lb (λt:RT=>t.ch.length) (BL t.1);show(g.ch.foldl dP M.now).length<=_;omega,Z.2.2.2⟩⟩
    rcases c with (c|c)|c
    .exact .inl (.inl c)
    .exact .inr (A4 d c)
    .exact(Q d (.inr c)).imp id (λa7=>by omega)
  .have u:=h.ref.aside b O;have H:=k {M with now:=g.ch.foldl dP M.now,nv:=M.nv+1,ah:=M.now,ts:=(M.ts.eraseIdx f).map (λs=>{s with oth:=s.oth++g.ch.map (·.key)})} ⟨rfl,rfl,rfl,rfl,by simp,λi U a1=>by simp⟩;have⟨v1,s1,s2⟩:=(H.failed hf).hold;refine⟨0,D'.fs,rfl,u,L b,⟨D',J,H.db,rfl,H.store.len⟩,.inr (.inr ⟨hch,hcf,rfl,hb,hal,λX j=>?_⟩)⟩;have ae:=j.size;apply(qAs (u.below j) x f g t (by omega) (by omega) ⟨by rw[h.lk.nv];have:=h.lk.vB;omega,by rw[h.lk.nv];omega⟩ (BQ.2 hch) (λs ac=>by grind)).m;rintro e w' ⟨rfl,ag,v3,N,af,R,a0,G,Q⟩;refine⟨rfl,a5 (L b) j G,by rw[(dE R.box).2.2.2.2.2.2.2.2.2.2.2.1];show some M.p3=_;rw[h.broken,hb],h.both T J b m (k {M with va:=M.vn,av:=M.nv,ah:=M.now,vn:=v3,nv:=M.nv+1,now:=g.ch.foldl dP M.now,ov:=N,ts:=af} ⟨rfl,rfl,rfl,rfl,a0.len,λi U a1=>?_⟩) R ((AB j).t G) (λd c=>(Q d c).imp id (λa7=>by omega)) rfl rfl (by rw[hf,<-hb];exact h.twice) (by rw[hf,<-hb];exact h.broken) rfl ⟨rfl,rfl,rfl,rfl,rfl⟩ ⟨_,s2,(by have⟨_,_,⟨u,p1,_⟩,_⟩:=h.safe;exact⟨u,p1,λe=>by have:=h.twice.symm.t e;simp[hb]at this⟩),λv' t a=>⟨λe=>(by have:=a.1;omega),λ_=>.inl (a.2▸h.lk.now)⟩⟩ ⟨by rw[hfl];exact Z.1,by rw[hfl];have:=Z.2.1;omega,by have:=Z.2.2.1;show M.oth.length<=_;omega,h.lk.small.1⟩⟩;have⟨y,A,C,E,F,a6⟩:=a0.each i U a1;grind
end
section
variable {n B:Nat}{w:World}{q:Nat}{Bk K:Bl}{D:Db}{v:Nat}{o ao:Option (Nat×T)}{ots:List (Option (Nat×T))}{M:RM}
def Wy(h:Wd n B w q Bk K D v o ao ots M)(c:OpV)(r:cD M.ts c.tx none):
  cL 29 #[.p q 0,.agg c.cells] w λe w'=>e=.r (.bool true)/\On Bk w w'/\Lw n (B+1) w' q Bk M.p9:=by
 have⟨t,L,P,Q,N,wr,V,S,U⟩:=c;dsimp only at r;obtain⟨a,G,x,H,-⟩:=al1 w (.cells #[.i t,.i L,.t P,.t Q,.i N,.bool wr,.s V S U] 46);have b:=h.box (.cells #[.i t,.i L,.t P,.t Q,.i N,.bool wr,.s V S U] 46);rw[G]at b;have f:bW a a:=AC _ _;have l:Hid (∀X,X.heap[q]?=some M.obj->On (Bl.or Bk (Bl.one w.heap.size)) a X->X.c q 1=some (.p D.d 0)/\X.c w.heap.size 1=some (.i L)):=λX g m=>by
  have A:=(dE g).2.1;rw[h.x]at A;have⟨_,o1,_⟩:=dY (m.heap H (.inr rfl));grind
 have I:a.c q 0=some (.p D.β 0):=by have:=(dE b.ref.box).1;rw[h.f]at this;exact this
 have i:Hid (∀X,bW a X->(X.heap[q]?=some M.obj/\On (Bl.or Bk (Bl.one w.heap.size)) a X)/\cL 75 #[.p q 2,.i L] X λe w'=>e=.r (.bool false)/\w'=X):=λX g=>⟨⟨(b.below g).ref.box,vV g (λj d=>(b.book j d).1)⟩,Iz (b.below g).ref L none r h.lk.n8⟩;have y:Hid (∀X,bW a X->cL 14 #[.p D.d 0,.i L] X λe k=>e=.r (.i 3)/\Hid ((k.heap[q]?=some M.obj/\On (Bl.or Bk (Bl.one w.heap.size)) a k)/\On Bk w k/\Lw n (B+1) k q Bk M.p9)):=λX g=>by
  apply(qHt (b.below g) L r).m;rintro e k ⟨rfl,E,m,z,Y,Z,o',R,O,W,F,C⟩;have u:=vV g (λj d=>(b.book j d).1);exact⟨rfl,⟨E.box,u.t m⟩,(vV x (λj d=>(h.book j d).1)).t ((u.t m).m (λj d=>.inl d)),z,Y,Z,o',R,O,W,F.less (λj d=>.inl d),C⟩
 go_enter Tryz.func29,Tryz.ntmps29;go_wp2_with (first
  |(go_at_call 49;apply Calls.m (fU D.β D.sv D.lv D.fs a b.lk.db.file);rintro e w' ⟨rfl,s⟩;subst w')
  |(go_at_call 50;apply Calls.m (oQ D.β D.sv D.lv D.fs a b.lk.db.file);rintro e w' ⟨rfl,s⟩;subst w'))
 have⟨J,s2⟩:=l a (i a f).1.1 (i a f).1.2;go_region_held3 (λX=>X.c w.heap.size 1=some (.i L))
  (exact(l _ (i _ f.drew).1.1 (i _ f.drew).1.2).2)
  ((go_at_call 75;apply Calls.m (i _ f.drew).2;rintro e w' ⟨rfl,s⟩;subst w'))
 go_wp2;go_region_held3 (λX=>X.c q 1=some (.p D.d 0)/\X.c w.heap.size 1=some (.i L))
  (first|exact l _ (i _ f.drew.drew).1.1 (i _ f.drew.drew).1.2|exact l _ p.1.1 p.1.2)
  ((go_at_call 14;apply Calls.m (y _ f.drew.drew);rintro e k ⟨rfl,p⟩))
 all_goals go_wp2
 all_goals go_ret
 all_goals exact⟨rfl,p.2⟩
structure CmS (n B:Nat) (W1 X w1:World) (q:Nat) (Bk K:Bl) (D:Db) (M:RM) (x:Int) (t:RT) (fs:Fs) (z:Int):Prop where
 ref:aY w1 K q M
 on:On Bk W1 w1
 file:∃D1:Db,D1.β=D.β/\aO w1 0 D1/\D1.fs=fs/\fs.safe.length=n
 com:qMe n B X w1 q Bk D M x t fs z
 onX:On Bk W1 X
def qBe{w:World}{q b:Nat}{d:RM}{e:Value}{z:Int}(h:w.heap[q]?=some d.obj)(a:cW w b #[e,.i z] 32):w.c q 11=some d.p3/\(∀i,w.frozen? (aD q i)=false)/\∀f c k,w.setCell (aD q 11) (.bool true)=f->f.setCell (aD q 10) (.bool true)=c->c.setCell (aD q 8) e=k->f.c q 10=some d.p2/\(∀i,f.frozen? (aD q i)=false)/\c.c b 0=some e/\c.c b 1=some (.i z)/\c.c q 8=some d.p0/\c.c q 9=some d.p1/\(∀i,c.frozen? (aD q i)=false)/\k.c q 9=some d.p1/\∀i,k.frozen? (aD q i)=false:=by
 refine⟨(dE h).2.2.2.2.2.2.2.2.2.2.2.1,aA h,?_⟩
 rintro _ _ _ rfl rfl rfl
 have l:=aB h 11 (.bool true)
 have g:=aB l 10 (.bool true)
 have m:=aB g 8 e
 have p:q≠b:=λj=>by subst j;have:=h.symm.t a;simp at this
 have o:cW ((w.setCell (aD q 11) (.bool true)).setCell (aD q 10) (.bool true)) b #[e,.i z] 32:=(((AE (Bl.one q) w).s q 11).s q 10).heap a (λj=>p j.symm)
 have⟨n,a1⟩:=bY o
 exact⟨by simp[World.cell?,l],aA l,n,a1,by simp[World.cell?,g],by simp[World.cell?,g],aA g,by simp[World.cell?,m],aA m⟩
def Se(h:Wd n B w q Bk K D v o ao ots M)(c3:B<=400000)(cc:n<=4096)(c2:2<=n)(c:OpV)(j t)(I:cD M.ts c.tx (some (j,t))):
  cL 29 #[.p q 0,.agg c.cells] w λe w'=>e=.r (.bool true)/\On Bk w w'/\Lw n (B+1) w' q Bk M.p9:=by
 obtain⟨b3,b,P,Q,N,b5,b1,b4,b2⟩:=c
 dsimp only at I
 obtain⟨r,ar,b8,b6,-⟩:=al1 w (.cells #[.i b3,.i b,.t P,.t Q,.i N,.bool b5,.s b1 b4 b2] 46)
 have A:=h.box (.cells #[.i b3,.i b,.t P,.t Q,.i N,.bool b5,.s b1 b4 b2] 46)
 rw[ar]at A
 have R:bW r r:=AC _ _
 have an:Hid (∀X,X.heap[q]?=some M.obj->On (Bl.or Bk (Bl.one w.heap.size)) r X->X.c q 1=some (.p D.d 0)/\X.c w.heap.size 1=some (.i b)):=λX V ah=>by
  have bb:=(dE V).2.1
  rw[h.x]at bb
  obtain⟨_,cg,_⟩:=dY (ah.heap b6 (.inr rfl))
  exact⟨bb,cg⟩
 have ba:Hid (∀X,On (Bl.or Bk (Bl.one w.heap.size)) r X->X.c w.heap.size 1=some (.i b)):=λX ah=>(dY (ah.heap b6 (.inr rfl))).2.1
 have F:r.c q 0=some (.p D.β 0):=by have:=(dE A.ref.box).1;rw[h.f]at this;exact this
 have au:=fU D.β D.sv D.lv D.fs r A.lk.db.file
 obtain⟨gn,bn⟩:=nM ((D.fs.life==0))
 rw[bn]at au
 have bi:=oQ D.β D.sv D.lv D.fs r A.lk.db.file
 have T:Hid (∀X,bW r X->(X.heap[q]?=some M.obj/\On (Bl.or Bk (Bl.one w.heap.size)) r X)/\cL 75 #[.p q 2,.i b] X λe w'=>e=.r (.bool true)/\w'=X):=λX V=>⟨⟨(A.below V).ref.box,vV V (λJ C=>(A.book J C).1)⟩,Iz (A.below V).ref b _ I h.lk.n8⟩
 have b9:Hid (∀X,bW r X->cL 14 #[.p D.d 0,.i b] X λe l=>∃z fs,e=.r (.i z)/\Hid (CmS n B r X l q (Bl.or Bk (Bl.one w.heap.size)) K D M b t fs z)):=λX V=>by
  refine(qHw (A.below V) c3 cc c2 b j t I).m ?_
  rintro e l ⟨z,fs,rfl,a2,ah,c5,c8⟩
  have al:On (Bl.or Bk (Bl.one w.heap.size)) r X:=vV V (λJ C=>(A.book J C).1)
  exact⟨z,fs,rfl,a2,al.t ah,c5,c8,al⟩
 have aj:=h.lk.bounds
 have bl:t∈M.ts:=BL I.1
 have cn:=aj.2.2 t bl
 obtain⟨bo,bq,br⟩:=h.lk.small
 have bp:=h.fl.2.2.2
 have bm:M.nv<1000000000/\0<=M.nv:=⟨by rw[h.lk.nv];have:=h.lk.vB;omega,by rw[h.lk.nv];omega⟩
 obtain⟨U,ay⟩:=nM (decide (0<t.ch.length))
 obtain⟨Z,H⟩:=nM (gM t.ch t.oth)
 obtain⟨ak,az⟩:=nM (iN M t)
 obtain⟨fd,bd⟩:=nM (D.failed)
 have k:Hid (∀X l z fs,CmS n B r X l q (Bl.or Bk (Bl.one w.heap.size)) K D M b t fs z->∀g,bW l g->(g.c w.heap.size 1=some (.i b)/\g.c q 0=some (.p D.β 0)/\g.c q 12=some (.bool false)) /\
   (cL 51 #[.p q 0,.i D.fs.failed] g λe w'=>e=.r (.bool (decide (D.fs.failed<fs.failed)||fs.life==0))/\w'=g) /\
   (cL 76 #[.p q 2,.i b] g λe w'=>e=.r (.bool U)/\bW g w') /\
   (cL 77 #[.p q 2,.i b] g λe w'=>e=.r (.bool Z)/\bW g w') /\
   (cL 78 #[.p q 2,.i b] g λe w'=>e=.r (.i (ak:Nat))/\bW g w') /\
   (cL 79 #[.p q 2,.i b] g λe w'=>∃a m d,e=.r (.agg #[.s a m d,.i (M.nv+1)])/\bW g w'/\Hid (w'.ownsRow 0 71 2 (.s a m d) (t.ch.foldl dP M.now).length (aI (t.ch.foldl dP M.now))/\nW (.s a m d) l)) /\
   (cL 31 #[.p D.β 0] g λe w'=>e=.r (.i n)/\w'=g)):=λX l z fs ap g aw=>by
  have a2:=ap.ref.below aw
  have ax:=dE a2.box
  obtain⟨a7,bf,bd,cm,cf⟩:=ap.file
  have be:=bd.on (vV aw bd.lies)
  have bc:g.c q 0=some (.p D.β 0):=by rw[ax.1,h.f]
  refine⟨⟨ba.o g (ap.on.t (vV aw (λJ C=>jY (A.book J C).1 ap.on.size))),bc,by rw[ax.2.2.2.2.2.2.2.2.2.2.2.2.1,h.spoiled]⟩,cm▸sI q D.β a7.sv a7.lv a7.fs g (bf▸be.file) bc _,?_,?_,?_,?_,?_⟩
  .rw[<-ay];exact Lp a2 b j t I h.lk.n8
  .rw[<-H];exact qAt a2 b j t I h.lk.n8 (by omega) (by omega)
  .rw[<-az];exact Ny a2 b j t I h.lk.n8 (by have:=aj.1;omega) bm (by have:=aj.2.1;omega) (λt cd=>by have:=(aj.2.2 t cd).1;omega) (br t bl) bo bp bq
  .refine(vI a2 b j t I h.lk.n8 (by have:=aj.1;omega) bm).m ?_
   rintro e w' ⟨v',rfl,c7,c4,c9⟩
   obtain⟨a,d,rfl⟩:=aG c7
   exact⟨a,_,d,rfl,c4,c7,λJ C=>vJ aw.size (c9 J C)⟩
  .have:=nN D.β a7.sv a7.lv a7.fs g (bf▸be.file)
   rw[cm,cf]at this
   exact this
 have am:Hid (∀X w',On (Bl.or Bk (Bl.one w.heap.size)) r X->On (Bl.or Bk (Bl.one w.heap.size)) X w'->w'.c w.heap.size 1=some (.i b)/\On Bk w w'/\(Lw n (B+1) w' q (Bl.or Bk (Bl.one w.heap.size)) M.p9->Lw n (B+1) w' q Bk M.p9)):=λX w' al bn=>⟨ba.o w' (al.t bn),(vV b8 (λJ C=>(h.book J C).1)).t ((al.t bn).m (λJ C=>.inl C)),λ⟨bw,D',v',o',ao',ots',M',av,c1⟩=>⟨bw,D',v',o',ao',ots',M',av.less (λJ C=>.inl C),c1⟩⟩
 have bv:Hid (decide (0<t.ch.length)=U/\gM t.ch t.oth=Z/\iN M t=ak/\D.failed=fd/\(D.fs.life==0)=gn/\M.p3=.bool D.failed):=⟨ay,H,az,bd,bn,h.broken⟩
 clear h A b6 I ay H az bo bp bq br bd bn
 go_enter Tryz.func29,Tryz.ntmps29
 go_wp2_with (first
  |(go_at_call 49;apply Calls.m au;rintro e w' ⟨rfl,a4⟩;subst w')
  |(go_at_call 50;apply Calls.m bi;rintro e w' ⟨rfl,a4⟩;subst w'))
 obtain⟨ch,G⟩:=an.o r (T.o r R).1.1 (T.o r R).1.2
 go_region_held3 (λX=>X.c w.heap.size 1=some (.i b))
  (exact(an.o _ (T.o _ R.drew).1.1 (T.o _ R.drew).1.2).2)
  ((go_at_call 75;apply Calls.m (T.o _ R.drew).2;rintro e w' ⟨rfl,a4⟩;subst w'))
 go_wp2
 go_region_held3 (λX=>X.c q 1=some (.p D.d 0)/\X.c w.heap.size 1=some (.i b))
  (first|exact an.o _ (T.o _ R.drew.drew).1.1 (T.o _ R.drew.drew).1.2|exact an.o _ f.o.ref.box f.o.on)
  ((go_at_call 14;apply Calls.m (b9.o _ R.drew.drew);rintro e l ⟨z,fs,rfl,f⟩))
 all_goals
  clear ch G F au bi T b9 b8 ar
  have ag:bW l l:=AC _ _
  obtain⟨G,F,W⟩:=(k.o _ _ _ _ f.o l ag).1
  have bs1:=(k.o _ _ _ _ f.o l ag).2.1
  obtain⟨bs,bs2⟩:=nM ((decide (D.fs.failed<fs.failed)||fs.life==0))
  rw[bs2]at bs1
  have bsH:Hid ((decide (D.fs.failed<fs.failed)||fs.life==0)=bs):=bs2
  clear bs2
  go_wp2_with (go_at_call 51;apply Calls.m bs1;rintro e w' ⟨rfl,a4⟩;subst w')
  clear bs1
  go_region_held3 (λX=>X.c w.heap.size 1=some (.i b))
   (first|exact(k.o _ _ _ _ f.o _ ag.drew).1.1|exact(k.o _ _ _ _ f.o _ a8).1.1)
   ((go_at_call 76;apply Calls.m (k.o _ _ _ _ f.o _ ag.drew).2.2.1;rintro e bt ⟨rfl,bx⟩;have a8:bW l bt:=ag.drew.t bx))
  all_goals
   clear G F W
   obtain⟨G,F,W⟩:=(k.o _ _ _ _ f.o bt a8).1
   go_wp2
   go_region_held3 (λX=>X.c w.heap.size 1=some (.i b))
    (first|exact(k.o _ _ _ _ f.o _ a8.drew).1.1|exact(k.o _ _ _ _ f.o _ a9).1.1)
    ((go_at_call 77;apply Calls.m (k.o _ _ _ _ f.o _ a8.drew).2.2.2.1;rintro e bu ⟨rfl,bz⟩;have a9:bW l bu:=a8.drew.t (bz.m a8.size)))
   all_goals
    clear G F W
    obtain⟨G,F,W⟩:=(k.o _ _ _ _ f.o bu a9).1
    go_wp2
    go_region_held3 (λX=>X.c w.heap.size 1=some (.i b))
     (first|exact(k.o _ _ _ _ f.o _ a9.drew).1.1|exact(k.o _ _ _ _ f.o _ u).1.1)
     ((go_at_call 78;apply Calls.m (k.o _ _ _ _ f.o _ a9.drew).2.2.2.2.1;rintro e O ⟨rfl,c0⟩;have u:bW l O:=a9.drew.t (c0.m a9.size)))
    all_goals
     clear G F W
     obtain⟨G,F,W⟩:=(k.o _ _ _ _ f.o O u).1
     go_wp2
     refine cS (S:=(λX:World=>X.c w.heap.size 1=some (.i b))) 7 (by kernel_rfl) ?_
     have bj:=(show(λX:World=>X.c w.heap.size 1=some (.i b)) O.drew from (k.o _ _ _ _ f.o _ u.drew).1.1)
     refine tks [(0,.p q 0),(1,.p q 0),(2,.p q 2),(3,.p w.heap.size 1),(4,.i b)] (by assumption) ?_
     iterate 5 (refine⟨_,rfl,by kernel_rfl,λ_ _ _ h=>h,.inl ⟨by rfl,λw c9=>by(try dsimp only at c9);go_simp⟩,?_⟩;try simp only[pS])
     refine tke ?_
     refine mO (i:=5) (j:=6) (by kernel_rfl) rfl rfl (λK s=>?_) (λK s=>?_)
     focus
      go_simp
      go_at_call 79
      apply Calls.m (k.o _ _ _ _ f.o _ u.drew).2.2.2.2.2.1
      rintro e ab ⟨ad,af,ae,rfl,aa,HA⟩
      have E:bW l ab:=u.drew.t (aa.m u.size)
      simp only[]
      refine s.out _ _ (λ_=>(k.o _ _ _ _ f.o _ E).1.1) ?_
      clear s K
      try simp only[pS]
      refine aR (i:=6) (by kernel_rfl) rfl (λK s=>?_)
      go_simp
      refine s.out _ _ (λ_=>(k.o _ _ _ _ f.o _ (E.alloc E.size _)).1.1) ?_
      clear s K
      try simp only[pS]
      refine aR (i:=7) (by kernel_rfl) rfl (λK s=>?_)
      go_simp
      refine s.out _ _ (λe=>by cases e) ?_
      clear s K
      try simp only[pS]
      refine dC (by kernel_rfl) ?_ _
      have x:=E.alloc E.size (.cells #[.s ad af ae,.i (M.nv+1)] 32)
      have HF:Hid (Aft l (ab.alloc (.cells #[.s ad af ae,.i (M.nv+1)] 32)) M.nv (t.ch.foldl dP M.now) ab.heap.size (.s ad af ae)):=⟨E.size,aC _ _,CH HA.o.1 _,HA.o.2⟩
      obtain⟨g,ai⟩:=nM (ab.alloc (.cells #[.s ad af ae,.i (M.nv+1)] 32))
      rw[ai]at x HF⊢
      clear ai E aa bj HA
      generalize ab.heap.size=bb at HF⊢
     rotate_left
     focus
      go_simp
      refine s.out _ _ (λ_=>(k.o _ _ _ _ f.o _ (u.alloc u.size _).drew).1.1) ?_
      clear s K
      try simp only[pS]
      refine aR (i:=5) (by kernel_rfl) rfl (λK s=>?_)
      go_simp
      go_at_call 79
      apply Calls.m (k.o _ _ _ _ f.o _ (u.alloc u.size _).drew).2.2.2.2.2.1
      rintro e ab ⟨ad,af,ae,rfl,aa,HA⟩
      have E:bW l ab:=(u.alloc u.size _).drew.t (aa.m (vJ u.size (by simp)))
      have b7:cW ab O.heap.size #[.n,.i 0] 32:=(aa.block _ (by simp)).t (by rw[GX];exact aC O _)
      obtain⟨cj,ck⟩:=bY b7
      have cl:=aA b7
      simp only[]
      refine s.out _ _ (λ_=>(k.o _ _ _ _ f.o _ E).1.1) ?_
      clear s K
      try simp only[pS]
      refine aR (i:=7) (by kernel_rfl) rfl (λK s=>?_)
      go_simp
      refine s.out _ _ (λe=>by cases e) ?_
      clear s K
      try simp only[pS]
      refine dC (by kernel_rfl) ?_ _
      have b0:=u.size
      have x:=(E.setCell (p:=(aD O.heap.size 0)) b0 (.s ad af ae)).setCell (p:=(aD O.heap.size 1)) b0 (.i (M.nv+1))
      have HF:Hid (Aft l ((ab.setCell (aD O.heap.size 0) (.s ad af ae)).setCell (aD O.heap.size 1) (.i (M.nv+1))) M.nv (t.ch.foldl dP M.now) O.heap.size (.s ad af ae)):=⟨b0,by simpa using aB (aB b7 0 (.s ad af ae)) 1 (.i (M.nv+1)),aS HA.o.1 ((((AE (Bl.one O.heap.size) ab).s O.heap.size 0).s O.heap.size 1).on (Z:=λk=>(Value.s ad af ae).ownBlock=some k) (λk e=>⟨aK HA.o.1 e,λi=>by simp only[Bl.one]at i;subst i;exact aP HA.o.1 b7 (by decide) e⟩)) (λk a=>a),HA.o.2⟩
      obtain⟨g,ai⟩:=nM ((ab.setCell (aD O.heap.size 0) (.s ad af ae)).setCell (aD O.heap.size 1) (.i (M.nv+1)))
      rw[ai]at x HF⊢
      clear ai E aa bj b7 cj ck cl b0 HA
      generalize O.heap.size=bb at HF⊢
     all_goals
      clear G F W
      obtain⟨G,F,W⟩:=(k.o _ _ _ _ f.o g x).1
      have aq:=(k.o _ _ _ _ f.o g x).2.2.2.2.2.2
      obtain⟨Y,a5,v3,v4,v5,v6⟩:=bv.o
      rcases f.o.com with⟨ca,ac'⟩|⟨a3,H,rfl,fb,hb,ac'⟩|⟨a3,H,rfl,fb,al,ac'⟩
      .have ac:=(show Hid _ from ac')
       clear ac'
       rcases ca with⟨a3,rfl⟩|⟨a3,⟨H,rfl⟩|⟨H,⟨rfl,co⟩|⟨rfl,fb⟩⟩⟩
       .obtain rfl:U=false:=by rw[<-Y,a3];rfl
        clear Y a5 v3 v4 v5 v6
        go_wp2_with (go_at_call 31;apply Calls.m aq;rintro e w' ⟨rfl,a4⟩;subst w')
        go_region_held3 (λX=>X.c w.heap.size 1=some (.i b))
         (first|exact(k.o _ _ _ _ f.o _ x.drew).1.1|exact y.o.1)
         ((go_at_call 28;apply Calls.m (ac.o _ x.drew);rintro e a6 ⟨rfl,a0,a1,a2⟩;have y:=(show Hid _ from am.o _ a6 f.o.onX a1)))
        all_goals go_wp2
        all_goals go_ret
        all_goals exact⟨rfl,y.o.2.1,y.o.2.2 a2⟩
       .obtain rfl:U=true:=by rw[<-Y];exact CU (BQ.2 a3)
        obtain rfl:Z=true:=by rw[<-a5,H]
        clear Y a5 v3 v4 v5 v6
        go_wp2_with (go_at_call 31;apply Calls.m aq;rintro e w' ⟨rfl,a4⟩;subst w')
        go_region_held3 (λX=>X.c w.heap.size 1=some (.i b))
         (first|exact(k.o _ _ _ _ f.o _ x.drew).1.1|exact y.o.1)
         ((go_at_call 28;apply Calls.m (ac.o _ x.drew);rintro e a6 ⟨rfl,a0,a1,a2⟩;have y:=(show Hid _ from am.o _ a6 f.o.onX a1)))
        all_goals go_wp2
        all_goals go_ret
        all_goals exact⟨rfl,y.o.2.1,y.o.2.2 a2⟩
       .obtain rfl:U=true:=by rw[<-Y];exact CU (BQ.2 a3)
        obtain rfl:Z=false:=by rw[<-a5,H]
        have cb:(n:Int)<(ak:Int):=by rw[<-v3];omega
        clear Y a5 v3 v4 v5 v6
        go_wp2_with (go_at_call 31;apply Calls.m aq;rintro e w' ⟨rfl,a4⟩;subst w')
        go_region_held3 (λX=>X.c w.heap.size 1=some (.i b))
         (first|exact(k.o _ _ _ _ f.o _ x.drew).1.1|exact y.o.1)
         ((go_at_call 28;apply Calls.m (ac.o _ x.drew);rintro e a6 ⟨rfl,a0,a1,a2⟩;have y:=(show Hid _ from am.o _ a6 f.o.onX a1)))
        all_goals go_wp2
        all_goals refine BI (v:=.bool true) ?_ rfl ⟨rfl,y.o.2.1,y.o.2.2 a2⟩
        all_goals simp[results,Tryz.results29,go_sem,cb]
       .obtain rfl:U=true:=by rw[<-Y];exact CU (BQ.2 a3)
        rw[v6,fb]at ac
        clear Y a5 v3 v4 v5 v6
        go_wp2_with (go_at_call 31;apply Calls.m aq;rintro e w' ⟨rfl,a4⟩;subst w')
        go_region_held3 (λX=>X.c w.heap.size 1=some (.i b))
         (first|exact(k.o _ _ _ _ f.o _ x.drew).1.1|exact y.o.1)
         ((go_at_call 28;apply Calls.m (ac.o _ x.drew);rintro e a6 ⟨rfl,a0,a1,a2⟩;have y:=(show Hid _ from am.o _ a6 f.o.onX a1)))
        all_goals go_wp2
        all_goals go_ret
        all_goals exact⟨rfl,y.o.2.1,y.o.2.2 a2⟩
      .have ac:=(show Hid _ from λX V=>ac' X bb (.s ad af ae) V)
       clear ac'
       obtain rfl:bs=true:=by rw[<-bsH.o,hb]
       obtain rfl:U=true:=by rw[<-Y];exact CU (BQ.2 a3)
       obtain rfl:Z=false:=by rw[<-a5,H]
       clear Y a5 v3 v4 v5 v6
       go_wp2_with (go_at_call 31;apply Calls.m aq;rintro e w' ⟨rfl,a4⟩;subst w')
       go_region_held3 (λX=>X.c w.heap.size 1=some (.i b))
        (first|exact(k.o _ _ _ _ f.o _ x.drew).1.1|exact y.o.1)
        ((go_at_call 28;apply Calls.m (ac.o _ x.drew (HF.o.below (AC _ _).drew));rintro e a6 ⟨rfl,a1,⟨N',n3,nb⟩,y1,hW'⟩;have y:=(show Hid _ from am.o _ a6 f.o.onX a1)))
       all_goals
        have hW:=(show Hid _ from hW')
        clear hW'
        obtain⟨e1,e2,e3⟩:=qBe nb y1
        rw[n3]at e1
        obtain⟨w1,i1⟩:=nM (a6.setCell (aD q 11) (.bool true))
        obtain⟨w2,i2⟩:=nM (w1.setCell (aD q 10) (.bool true))
        obtain⟨w3,i3⟩:=nM (w2.setCell (aD q 8) (.s ad af ae))
        obtain⟨g1,g2,g3,g4,g5,g6,g7,g8,g9⟩:=e3 w1 w2 w3 i1 i2 i3
        clear nb y1
        go_wp2
        go_ret
        have y2:=hW.o _ (by rw[i1,i2,i3])
        have y3:=am.o _ _ f.o.onX y2.1
        exact⟨rfl,y3.2.1,y3.2.2 y2.2⟩
      .have ac:=(show Hid _ from ac')
       clear ac'
       obtain rfl:U=true:=by rw[<-Y];exact CU (BQ.2 a3)
       obtain rfl:Z=false:=by rw[<-a5,H]
       obtain rfl:gn=false:=by rw[<-v5,al]
       clear Y a5 v3 v4 v5 v6
       go_wp2_with (go_at_call 31;apply Calls.m aq;rintro e w' ⟨rfl,a4⟩;subst w')
       go_region_held3 (λX=>X.c w.heap.size 1=some (.i b))
        (first|exact(k.o _ _ _ _ f.o _ x.drew).1.1|exact y.o.1)
        ((go_at_call 80;apply Calls.m (ac.o _ x.drew);rintro e a6 ⟨rfl,a1,a0,a2⟩;have y:=(show Hid _ from am.o _ a6 f.o.onX a1)))
       all_goals go_wp2
       all_goals go_ret
       all_goals exact⟨rfl,y.o.2.1,y.o.2.2 a2⟩
end
