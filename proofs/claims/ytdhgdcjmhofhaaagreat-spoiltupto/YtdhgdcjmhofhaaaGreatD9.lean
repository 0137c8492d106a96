import Derived.Test.YtdhgdcjmhofhaaaGreatD2
import Derived.WalkSpells
import Derived.WalkLawsBesides
set_option linter.all false
set_option maxHeartbeats 8000000
namespace Go.Proofs.YtdhgdcjmhofhaaaGreat.Pages
open Go.RowKit Tryz
variable {B:Nat} {Q:Exit->Act->World->Prop} {a:List UInt8} {o:Oper} {ops:Array Oper} {v:Value} {w w':World}
def qDb:Obj->Bool
 |.cells _ e _=>e==5
 |_=>false
structure dD (B:Nat) (w w':World):Prop where
 os:w'.os=w.os
 tape:w'.tape=w.tape
 output:w'.output=w.output
 size:w.1.size<=w'.1.size
 low:∀(k:Nat),k<B->w'.1[k]?=w.1[k]?
 other:∀(k:Nat) (o:Obj),w.1[k]?=some o->qDb o=false->w'.1[k]?=some o
theorem dD.refl(B w):dD B w w:=⟨rfl,rfl,rfl,CB _,λ_ _=>rfl,λ_ _ a _=>a⟩
theorem dD.t {a b c:World}(h:dD B a b)(k:dD B b c):dD B a c :=
 ⟨k.os.t h.os,k.tape.t h.tape,k.output.t h.output,CF h.size k.size,λd f=>(k.low d f).t (h.low d f),λd o g e=>k.other d o (h.other d o g e) e⟩
theorem dD.alloc {a w:World}(h:dD B a w)(e:B<=w)(o):dD B a (w.alloc o):=by
 refine h.t ⟨rfl,rfl,rfl,σ,λd c=>CY _ _ _ ω,λd f b _=>?_⟩;have c:d<w:=by
  grind
 rw[CY _ _ _ c];exact b
theorem dD.below (h:dD B w w'):Below B w w':=⟨h.os,h.tape,h.output,h.size,h.low⟩
theorem dD.of_below (h:bW w w')(d:B<=w):dD B w w' :=
 ⟨h.os,h.tape,h.output,h.size,λa c=>h.block a ω,λa o b _=>by
  have c:a<w:=by
   grind
  rw[h.block a c];exact b⟩
theorem dD.grown {n:Nat}{xs:List Value}(h:w.ownsRow B 5 1 v n xs)(b:w.grownBy w' v.ownBlock)(p:B<=w):dD B w w':=by
 refine⟨b.os,b.tape,b.output,b.size,λd c=>b.block d ω (λa=>by have:=(h.lt d a.symm).1;omega),λd o c j=>?_⟩;have k:d<w:=by
  grind
 rw[b.block d k (λa=>?_)]
 .exact c
 .have⟨_,i⟩:=h;rcases i with⟨f,_⟩|⟨g,l,m,f,_,e,_⟩
  .rw[f]at a;simp[Value.ownBlock]at a
  .rw[f]at a;simp only[Value.ownBlock,BB]at a;subst a;rw[c]at e;simp only[BB]at e;subst e;simp[qDb]at j
def fI(w:World)(B:Nat)(a:Option Addr)(vs:List Value):Prop :=
 vs=[]\/∃b off,a=some (aD b off)/\b<B/\∀i u,vs[i]?=some u->w.cell? (aD b (off+i))=some u
theorem fI.below {a f}(h:fI w B a f)(i:Below B w w'):fI w' B a f:=by
 rcases h with h|⟨b,e,g,c,j⟩
 .exact .inl h
 .exact .inr ⟨b,e,g,c,λd l k=>by rw[i.cell (p:=(aD b (e+d))) c];grind⟩
theorem fI.m {B B':Nat}{a:Option Addr}{c:List Value}(h:fI w B a c)(g:B<=B'):fI w B' a c:=by
 rcases h with h|⟨b,f,d,i,e⟩
 .exact .inl h
 .exact .inr ⟨b,f,d,ω,e⟩
def eO(b:UInt8):Value:=.int .u8 (b.toNat:Int)
def Buf(w:World)(B:Nat)(v:Value)(bs:List UInt8):Prop:=w.ownsRow B 5 1 v bs.length (bs.map eO)
theorem Mo:(prog.info? 5).map (λi=>(i.zero,i.size,i.bytes))=some (some (.int .u8 0),1,1):=by kernel_rfl
theorem Buf.nil(w B):Buf w B .n []:=AO _ _ _ _
theorem Buf.alloc (h:Buf w B v a)(o):Buf (w.alloc o) B v a:=CG (w:=w) h o
theorem Buf.below {b}(h:Buf w B v b)(a:bW w w'):Buf w' B v b :=
 KF (row:=none) h ⟨a.os,a.tape,a.output,a.size,λd c _=>a.block d c⟩ (by cases v.ownBlock<;>simp)
theorem strCells_eq(s):Lib.strCells s=s.data.toList.map eO:=rfl
theorem Dp(s:ByteArray):s.data.toList=s.size:=by rw[GA];rfl
theorem Buf.of {n:Nat}{xs:List Value}(b:n=a)(c:xs=a.map eO)(h:w.ownsRow B 5 1 v n xs):Buf w B v a:=by
 subst b;subst c;exact h
theorem Buf.one {v':Value}{x:Int}(b)(c:x=(b.toNat:Int))(h:w'.ownsRow B 5 1 v' (a+1) (a.map eO++[.int .u8 x])):Buf w' B v' (a++[b]):=by
 unfold Buf;rw[BL,CC];subst c;exact h
theorem one_cell (u e):∀j x,[u][j]?=some x->(w.alloc (.cells #[u] e)).cell? (((aD w 0):Addr).add j)=some x:=by
 intro j x a;match j,a with
 |0,a=>simp at a;subst a;simp[Addr.add]
theorem lB {g:List Oper}{a:Act}(w)(k:o.guard=none)(d x)(m:o.op=.call {callee:=.builtin .append,args:=#[d,x],argTypes:=#[108,108]})(B c v)(p:a.eval d=v)(f:Buf w B v c)(i:B<=w)(z b)(r:z=(b.toNat:Int))(q:a.eval x=.q w 1 1)(D:c.length+1<=140737488355328)(h:∀v' w',Buf w' B v' (c++[b])->dD B w w'->wpList prog ops Q g (a.put o.dst v') w'):
  wpList prog ops Q (o :: g) a (w.alloc (.cells #[.int .u8 z] 5)):=by
 have⟨y,l,s,t,u⟩:=info_parts Mo;apply MR _ k d x 108 m B 5 y (.int .u8 0) 1 1 underlying108 l s t u rfl δ v c (c.map eO) p (f.alloc _) (aD w 0) 1 1 [.int .u8 z] q rfl (one_cell _ _) (by intro E e;simp at e;subst e;rfl) (by unfold maxLen;omega) ω χ;intro A C n j _;exact h A C (Buf.one b r n) (((dD.refl B w).alloc i _).t (dD.grown (f.alloc _) j χ))
theorem Js {f:List Oper}{a:Act}(w)(i:o.guard=none)(c x)(l:o.op=.call {callee:=.builtin .append,args:=#[c,x],argTypes:=#[108,9]})(B b v)(n:a.eval c=v)(e:Buf w B v b)(d:B<=w)(s)(p:a.eval x=.t s)(k:b+s.size<=140737488355328)(h:∀v' w',Buf w' B v' (b++s.data.toList)->dD B w w'->wpList prog ops Q f (a.put o.dst v') w'):
  wpList prog ops Q (o :: f) a w:=by
 have⟨u,j,q,r,t⟩:=info_parts Mo;apply Lib.wpList_append_own_string _ i c x 108 9 l B 5 u underlying108 underlying9 j q r t v _ _ n e s p (by unfold maxLen;omega) k d;intro y z m g _;exact h y z (Buf.of σ (by simp[strCells_eq]) m) (dD.grown e g d)
theorem qMr(s:ByteArray):(s.size:Int) % 256=((UInt8.ofNat s.size).toNat:Int):=σ
theorem pK(v s a B w)(i:Buf w B v a)(c:B<=w.1.size)(n:a.length+s.size+1<=140737488355328):
  cL 187 #[v,.t s] w λe w'=>∃v',e=.r v'/\Buf w' B v' (a++[UInt8.ofNat s.size]++s.data.toList)/\dD B w w':=by
 have j:a.length+1<=140737488355328:=ω;have k:(a++[UInt8.ofNat s.size]).length+s.size<=140737488355328:=χ
 go_enter func187,ntmps187;go_wp2_with (first|(at_builtin;apply lB w rfl (.tmp 5) (.tmp 9) rfl B a v rfl i c _ (UInt8.ofNat s.size) (qMr s) rfl j;intro l m g b;have f:=CF c b.size)|(at_builtin;apply Js m rfl (.tmp 11) (.tmp 12) rfl B _ l rfl g f s rfl k;intro o p h d));go_ret;exact⟨_,rfl,h,b.t d⟩
def beB:Nat->Int->List UInt8
 |0,_=>[]
 |k+1,n=>UInt8.ofNat ((n / 2 ^ (8 * k) % 256).toNat):: beB k n
theorem byte_back(n m):n / 2 ^ m % 256=((UInt8.ofNat ((n / 2 ^ m % 256).toNat)).toNat:Int):=by
 rw[DV (by simp[UInt8.size];omega)];omega
theorem aK(k n):(beB k n)=k:=by
 induction k with
 |zero=>rfl
 |succ k ih=>simp[beB,ih]
theorem Cc(v size n bs B w)(hv:Buf w B v bs)(hB:B<=w.1.size)(hs:size<=8)(hl:bs.length+size<=140737488355328):
  cL 170 #[v,.i size,.i n] w λe w'=>∃v',e=.r v'/\Buf w' B v' (bs++beB size n)/\dD B w w':=by
 go_enter func170,ntmps170;go_wp2;go_loopw [0,7] (λu k wr=>∃j:Nat,j<=size/\k=.i ((j:Int)-1)/\∃A,A.length+j<=bs+size/\Buf wr B u A/\bs++beB size n=A++beB j n/\dD B w wr) (λ_ k _=>(intOf k+1).toNat)
 case atStart=>exact⟨size,CB _,rfl,bs,ω,hv,rfl,dD.refl _ _⟩
 case round =>
  obtain⟨j,N,rfl,A,K,y,C,E⟩:=hrel;have I:Hid _:=C;clear C;have F:B<=wr:=by have:=E.size;omega
  cases j with
  |succ j =>
   have L:A.length+1<=140737488355328:=ω;go_wp2_with (at_builtin;(apply lB wr rfl (.tmp 14) (.tmp 20) rfl B A u0 rfl y F _ (UInt8.ofNat ((n / 2 ^ (8 * j) % 256).toNat)) (byte_back _ _) rfl L;intro O M G H));have J:=E.t H;clear y E hv H;go_roundw
   case rel=>exact⟨j,ω,ν,_,χ,G,by rw[I.o];simp[beB],J⟩
   case measure=>simp[intOf]
  |zero =>
   clear hv;go_wp2;go_ret;exact⟨_,rfl,by rw[I.o];simpa[beB] using y,E⟩
theorem eW(v z n a B w)(d:Buf w B v a)(c:B<=w.1.size)(g:0<=z)(h:z<=8)(f:a.length+8<=140737488355328):
  cL 170 #[v,.i z,.i n] w λe w'=>∃v',e=.r v'/\Buf w' B v' (a++beB z.toNat n)/\dD B w w':=by
 obtain⟨b,rfl⟩:∃b:Nat,z=b:=⟨z.toNat,ω⟩;exact Cc v b n a B w d c ω ω
theorem rX(m):Builtin.zeroCells (Value.int .u8 0).cells m=((List.replicate m (0:UInt8)).map eO).toArray:=by
 apply Array.ext
 .simp[Builtin.zeroCells,Value.cells]
 .intro c a b;simp[Builtin.zeroCells,Value.cells,eO,Nat.mod_one]
theorem Av(w V B v a)(p:Buf w B v a)(O:a≠[])(m)(j:B<=w)(Y:a.length+m<=140737488355328):
  ∃v' w',(Builtin.append_ #[108,3] V #[v,.i m]).run prog w=.ok v' w'/\Buf w' B v' (a++List.replicate m 0)/\dD B w w':=by
 have⟨H,l,r,s,t⟩:=info_parts Mo;have q:IntKind.i64.wrap (m:Int)=(m:Int):=by simp[IntKind.wrap,IntKind.bits,IntKind.signed];omega
 have n:¬((m:Int)<0):=ω;have o:¬((281474976710656:Int)<(m:Int)):=ω
 have e:(a++List.replicate m (0:UInt8)).length=a+m:=σ
 have⟨J,T⟩:=id p;rcases T with⟨_,C⟩|⟨g,c,d,rfl,F,x,Z,G,I,S⟩
 .grind
 .have X:d.size=c:=ω;have k:∀u:World,Sem.run prog (asIntOf (Value.int IntKind.i64 (m:Int))) u=.ok (.i64,(m:Int)) u:=λ_=>rfl;by_cases hroom:a+m<=c
  .have h:=run_storeCells_at prog g a 5 ((List.replicate m (0:UInt8)).map eO) 0 d w x χ (by intro u y;simp only[AY]at y;obtain⟨b,_,rfl⟩:=y;rfl);simp only[EC,AF,CT]at h;have L:w.grownBy (w.setRow g (d.toList.take a++(List.replicate m (0:UInt8)).map eO++d.toList.drop (a+m)).toArray) (Value.ownBlock (.q g a c)):=⟨rfl,rfl,rfl,σ,λU _ M=>setRow_other w g U _ (λz=>M (by simp[Value.ownBlock,z]))⟩;refine⟨.q g (a+m) c,w.setRow g (d.toList.take a++(List.replicate m (0:UInt8)).map eO++d.toList.drop (a+m)).toArray,?_,?_,dD.grown p L j⟩
   .by_cases i:m=0
    .have f:(m:Int)<=0:=ω;simp[Builtin.append_,DA underlying108,DA underlying3,sizeOf,typeInfo,l,r,s,t,asInt,k,q,n,o,hroom,zeroValue,LN,f];simp_all
    .have f:¬((m:Int)<=0):=ω;simp[Builtin.append_,DA underlying108,DA underlying3,sizeOf,typeInfo,l,r,s,t,asInt,k,q,n,o,hroom,zeroValue,LN,rX,i,f];simp_all
   .refine⟨σ,.inr ⟨g,c,_,by rw[e],F,setRow_heap w g d _ 5 _ x,ω,G,?_,?_⟩⟩
    .grind
    grind
  .have Q:=DH (w:=w) p (g:=g) rfl;have i:¬m=0:=ω;have f:¬((m:Int)<=0):=ω;have N:max (m:Int) 0=(m:Int):=ω;have E:¬(9223372036854775807<((a.length:Int)+(m:Int))):=ω;have W:=KG (need:=a+m) (old:=c) (bytes:=1) ω ω;have D:¬(281474976710656<Builtin.nextslicecap (a+m) c):=ω;have K:=ND w (a+m) c 5;refine⟨.q w (a+m) (grownCap w (a+m) c 5),w.drew.alloc (.cells ((a.map eO).toArray++(((List.replicate m (0:UInt8)).map eO).toArray++Builtin.zeroCells (Value.int .u8 0).cells (grownCap w (a+m) c 5-(a+m)))) 5),?_,?_,((dD.refl B w).t ⟨rfl,rfl,rfl,CB _,λ_ _=>rfl,λ_ _ A _=>A⟩:dD B w w.drew).alloc j _⟩
   .simp[Builtin.append_,DA underlying108,DA underlying3,sizeOf,typeInfo,l,r,s,t,asInt,k,q,n,o,hroom,zeroValue,i,f,N,E,D,Question.forced,run_firstCells_some (P:=prog) w.drew 1 a (aD g 0) a c (a.map eO) σ (by simpa using Q),newRow,grownCap,rX]
   .refine⟨σ,.inr ⟨w,_,_,by rw[e],j,heap_alloc_new w.drew _,ω,MP w (a+m) c 5 (by unfold maxLen;omega),?_,?_⟩⟩
    .simp[rX];omega
    grind
theorem Ed {c:List Oper}{a:Act}(w)(j:o.guard=none)(d x)(n:o.op=.call {callee:=.builtin .append,args:=#[d,x],argTypes:=#[108,3]})(B b v)(q:a.eval d=v)(r:Buf w B v b)(l:b≠[])(g:B<=w)(m:Nat)(z)(t:z=(m:Int))(s:a.eval x=.i z)(k:b+m<=140737488355328)(h:∀v' w',Buf w' B v' (b++List.replicate m 0)->dD B w w'->wpList prog ops Q c (a.put o.dst v') w'):
  wpList prog ops Q (o :: c) a w:=by
 refine FH j λK i=>?_;subst t;have⟨v',w',p,e,f⟩:=Av w o.type B v b r l m g k;unfold Oper.wp execOp;simp only[n,resolve,invoke,builtin,EK,ED,DN,DQ,BE,DB,q,s,p];exact i _ _ (h v' w' e f)
