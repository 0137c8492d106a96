import Derived.Test.YtdhgdcjmhofhaaaGreatD2
import Derived.WalkSpells
import Derived.WalkLawsBesides
set_option linter.all false
set_option maxHeartbeats 8000000
namespace Go.Proofs.YtdhgdcjmhofhaaaGreat.Pages
open Go.RowKit
variable {B:Nat} {Q:Exit->Act->World->Prop} {a:List UInt8} {o:Oper} {ops:Array Oper} {v:Value} {w w':World}
def Zj:Obj->Bool
 |.cells _ e _=>e==5
 |_=>false
structure cY (B:Nat) (w w':World):Prop where
 os:w'.os=w.os
 tape:w'.tape=w.tape
 output:w'.output=w.output
 size:w.heap.size<=w'.heap.size
 low:∀(k:Nat),k<B->w'.heap[k]?=w.heap[k]?
 other:∀(k:Nat) (o:Obj),w.heap[k]?=some o->Zj o=false->w'.heap[k]?=some o
def cY.refl(B w):cY B w w:=⟨rfl,rfl,rfl,BZ _,λ_ _=>rfl,λ_ _ a _=>a⟩
def cY.t {a b c:World}(h:cY B a b)(k:cY B b c):cY B a c :=
 ⟨k.os.t h.os,k.tape.t h.tape,k.output.t h.output,CF h.size k.size,λd f=>(k.low d f).t (h.low d f),λd o g e=>k.other d o (h.other d o g e) e⟩
def cY.alloc {a w}(h:cY B a w)(e:B<=w.heap.size)(o):cY B a (w.alloc o):=by
 refine h.t ⟨rfl,rfl,rfl,by simp,λd c=>DA _ _ _ (by omega),λd f b _=>?_⟩;have c:d<w.heap.size:=by
  grind
 rw[DA _ _ _ c];exact b
def cY.below (h:cY B w w'):Below B w w':=⟨h.os,h.tape,h.output,h.size,h.low⟩
def cY.of_below (h:bW w w')(d:B<=w.heap.size):cY B w w' :=
 ⟨h.os,h.tape,h.output,h.size,λa c=>h.block a (by omega),λa o b _=>by
  have c:a<w.heap.size:=by
   grind
  rw[h.block a c];exact b⟩
def cY.grown {n xs}(h:w.ownsRow B 5 1 v n xs)(b:w.grownBy w' v.ownBlock)(p:B<=w.heap.size):cY B w w':=by
 refine⟨b.os,b.tape,b.output,b.size,λd c=>b.block d (by omega) (λa=>by have:=(h.lt d a.symm).1;omega),λd o c j=>?_⟩;have k:d<w.heap.size:=by
  grind
 rw[b.block d k (λa=>?_)]
 .exact c
 .have⟨_,i⟩:=h
  rcases i with⟨f,_⟩|⟨g,l,m,f,_,e,_⟩
  .rw[f]at a;simp[Value.ownBlock]at a
  .rw[f]at a
   simp only[Value.ownBlock,BB]at a;subst a;rw[c]at e;simp only[BB]at e;subst e;simp[Zj]at j
def fB(w:World)(B:Nat)(a:Option Addr)(vs:List Value):Prop :=
 vs=[]\/∃b off,a=some (aD b off)/\b<B/\∀i u,vs[i]?=some u->w.cell? (aD b (off+i))=some u
def fB.below {a f}(h:fB w B a f)(i:Below B w w'):fB w' B a f:=by
 rcases h with h|⟨b,e,g,c,j⟩
 .exact .inl h
 .exact .inr ⟨b,e,g,c,λd l k=>by rw[i.cell (p:=(aD b (e+d))) c];grind⟩
def fB.m {B B':Nat}{a:Option Addr}{c:List Value}(h:fB w B a c)(g:B<=B'):fB w B' a c:=by
 rcases h with h|⟨b,f,d,i,e⟩
 .exact .inl h
 .exact .inr ⟨b,f,d,by omega,e⟩
def fO(b:UInt8):Value:=.int .u8 (b.toNat:Int)
def Buf(w:World)(B:Nat)(v:Value)(bs:List UInt8):Prop:=w.ownsRow B 5 1 v bs.length (bs.map fO)
def Kb:(Tryz.prog.info? 5).map (λi=>(i.zero,i.size,i.bytes))=some (some (.int .u8 0),1,1):=by kernel_rfl
def Buf.nil(w B):Buf w B .n []:=AL _ _ _ _
def Buf.alloc (h:Buf w B v a)(o):Buf (w.alloc o) B v a:=CH (w:=w) h o
def Buf.below {b}(h:Buf w B v b)(a:bW w w'):Buf w' B v b :=
 JN (row:=none) h ⟨a.os,a.tape,a.output,a.size,λd c _=>a.block d c⟩ (by cases v.ownBlock<;>simp)
def strCells_eq(s):Lib.strCells s=s.data.toList.map fO:=rfl
def Bq(s:ByteArray):s.data.toList.length=s.size:=by rw[GG];rfl
def Buf.of {n xs}(b:n=a.length)(c:xs=a.map fO)(h:w.ownsRow B 5 1 v n xs):Buf w B v a:=by
 subst b;subst c;exact h
def Buf.one {v' x}(b)(c:x=(b.toNat:Int))(h:w'.ownsRow B 5 1 v' (a.length+1) (a.map fO++[.int .u8 x])):Buf w' B v' (a++[b]):=by
 unfold Buf;rw[BM,CG];subst c;exact h
def one_cell (u e):∀j x,[u][j]?=some x->(w.alloc (.cells #[u] e)).cell? (((aD w.heap.size 0):Addr).add j)=some x:=by
 intro j x a;match j,a with
 |0,a=>simp at a;subst a;simp[Addr.add]
def kT {g a}(w)(k:o.guard=none)(d x)(m:o.op=.call {callee:=.builtin .append,args:=#[d,x],argTypes:=#[108,108]})(B c v)(p:a.eval d=v)(f:Buf w B v c)(i:B<=w.heap.size)(z b)(r:z=(b.toNat:Int))(q:a.eval x=.q w.heap.size 1 1)(D:c.length+1<=140737488355328)(h:∀v' w',Buf w' B v' (c++[b])->cY B w w'->wpList Tryz.prog ops Q g (a.put o.dst v') w'):
  wpList Tryz.prog ops Q (o :: g) a (w.alloc (.cells #[.int .u8 z] 5)):=by
 have⟨y,l,s,t,u⟩:=info_parts Kb;apply LS _ k d x 108 m B 5 y (.int .u8 0) 1 1 Tryz.underlying108 l s t u rfl (by decide) v c.length (c.map fO) p (f.alloc _) (aD w.heap.size 0) 1 1 [.int .u8 z] q rfl (one_cell _ _) (by intro E e;simp at e;subst e;rfl) (by unfold maxLen;omega) (by omega) (by simp;omega);intro A C n j _;exact h A C (Buf.one b r n) (((cY.refl B w).alloc i _).t (cY.grown (f.alloc _) j (by simp;omega)))
def Hj {f a}(w)(i:o.guard=none)(c x)(l:o.op=.call {callee:=.builtin .append,args:=#[c,x],argTypes:=#[108,9]})(B b v)(n:a.eval c=v)(e:Buf w B v b)(d:B<=w.heap.size)(s)(p:a.eval x=.t s)(k:b.length+s.size<=140737488355328)(h:∀v' w',Buf w' B v' (b++s.data.toList)->cY B w w'->wpList Tryz.prog ops Q f (a.put o.dst v') w'):
  wpList Tryz.prog ops Q (o :: f) a w:=by
 have⟨u,j,q,r,t⟩:=info_parts Kb;apply Lib.wpList_append_own_string _ i c x 108 9 l B 5 u Tryz.underlying108 Tryz.underlying9 j q r t v _ _ n e s p (by unfold maxLen;omega) k d;intro y z m g _;exact h y z (Buf.of (by simp) (by simp[strCells_eq]) m) (cY.grown e g d)
def qId(s:ByteArray):(s.size:Int) % 256=((UInt8.ofNat s.size).toNat:Int):=by simp
def oW(v s a B w)(i:Buf w B v a)(c:B<=w.heap.size)(n:a.length+s.size+1<=140737488355328):
  cL 187 #[v,.t s] w λe w'=>∃v',e=.r v'/\Buf w' B v' (a++[UInt8.ofNat s.size]++s.data.toList)/\cY B w w':=by
 have j:a.length+1<=140737488355328:=by omega
 have k:(a++[UInt8.ofNat s.size]).length+s.size<=140737488355328:=by simp;omega
 go_enter Tryz.func187,Tryz.ntmps187;go_wp2_with (first|(at_builtin;apply kT w rfl (.tmp 5) (.tmp 9) rfl B a v rfl i c _ (UInt8.ofNat s.size) (qId s) rfl j;intro l m g b;have f:=CF c b.size)|(at_builtin;apply Hj m rfl (.tmp 11) (.tmp 12) rfl B _ l rfl g f s rfl k;intro o p h d));go_ret;exact⟨_,rfl,h,b.t d⟩
def beB:Nat->Int->List UInt8
 |0,_=>[]
 |k+1,n=>UInt8.ofNat ((n / 2 ^ (8 * k) % 256).toNat):: beB k n
def byte_back(n m):n / 2 ^ m % 256=((UInt8.ofNat ((n / 2 ^ m % 256).toNat)).toNat:Int):=by
 rw[GI (by simp[UInt8.size];omega)];omega
def aL(k n):(beB k n).length=k:=by
 induction k with
 |zero=>rfl
 |succ k ih=>simp[beB,ih]
def zU(v size n bs B w)(hv:Buf w B v bs)(hB:B<=w.heap.size)(hs:size<=8)(hl:bs.length+size<=140737488355328):
  cL 170 #[v,.i size,.i n] w λe w'=>∃v',e=.r v'/\Buf w' B v' (bs++beB size n)/\cY B w w':=by
 go_enter Tryz.func170,Tryz.ntmps170;go_wp2;go_loopw [0,7] (λu k wr=>∃j:Nat,j<=size/\k=.i ((j:Int)-1)/\∃A,A.length+j<=bs.length+size/\Buf wr B u A/\bs++beB size n=A++beB j n/\cY B w wr) (λ_ k _=>(intOf k+1).toNat)
 case atStart=>exact⟨size,BZ _,rfl,bs,by omega,hv,rfl,cY.refl _ _⟩
 case round =>
  obtain⟨j,N,rfl,A,K,y,C,E⟩:=hrel;have I:Hid (bs++beB size n=A++beB j n):=C;clear C;have F:B<=wr.heap.size:=by have:=E.size;omega
  cases j with
  |succ j =>
   have L:A.length+1<=140737488355328:=by omega
   go_wp2_with (at_builtin;(apply kT wr rfl (.tmp 14) (.tmp 20) rfl B A u0 rfl y F _ (UInt8.ofNat ((n / 2 ^ (8 * j) % 256).toNat)) (byte_back _ _) rfl L;intro O M G H));have J:=E.t H;clear y E hv H;go_roundw
   case rel=>exact⟨j,by omega,by go_num,_,by simp;omega,G,by rw[I.o];simp[beB],J⟩
   case measure=>simp[intOf]
  |zero =>
   clear hv;go_wp2;go_ret;exact⟨_,rfl,by rw[I.o];simpa[beB] using y,E⟩
def eU(v z n a B w)(d:Buf w B v a)(c:B<=w.heap.size)(g:0<=z)(h:z<=8)(f:a.length+8<=140737488355328):
  cL 170 #[v,.i z,.i n] w λe w'=>∃v',e=.r v'/\Buf w' B v' (a++beB z.toNat n)/\cY B w w':=by
 obtain⟨b,rfl⟩:∃b:Nat,z=b:=⟨z.toNat,by omega⟩;exact zU v b n a B w d c (by omega) (by omega)
def qV(m):Builtin.zeroCells (Value.int .u8 0).cells m=((List.replicate m (0:UInt8)).map fO).toArray:=by
 apply Array.ext
 .simp[Builtin.zeroCells,Value.cells]
 .intro c a b
  simp[Builtin.zeroCells,Value.cells,fO,Nat.mod_one]
def yP(w V B v a)(p:Buf w B v a)(O:a≠[])(m)(j:B<=w.heap.size)(Y:a.length+m<=140737488355328):
  ∃v' w',(Builtin.append_ #[108,3] V #[v,.i m]).run Tryz.prog w=.ok v' w'/\Buf w' B v' (a++List.replicate m 0)/\cY B w w':=by
 have⟨H,l,r,s,t⟩:=info_parts Kb;have q:IntKind.i64.wrap (m:Int)=(m:Int):=by simp[IntKind.wrap,IntKind.bits,IntKind.signed];omega
 have n:¬((m:Int)<0):=by omega
 have o:¬((281474976710656:Int)<(m:Int)):=by omega
 have e:(a++List.replicate m (0:UInt8)).length=a.length+m:=by simp
 have⟨J,T⟩:=id p;rcases T with⟨_,C⟩|⟨g,c,d,rfl,F,x,Z,G,I,S⟩
 .grind
 .have X:d.size=c:=by omega
  have k:∀u:World,Sem.run Tryz.prog (asIntOf (Value.int IntKind.i64 (m:Int))) u=.ok (.i64,(m:Int)) u:=λ_=>rfl;by_cases hroom:a.length+m<=c
  .have h:=run_storeCells_at Tryz.prog g a.length 5 ((List.replicate m (0:UInt8)).map fO) 0 d w x (by simp;omega) (by intro u y;simp only[AW]at y;obtain⟨b,_,rfl⟩:=y;rfl)
   simp only[DW,AF,DP]at h;have L:w.grownBy (w.setRow g (d.toList.take a.length++(List.replicate m (0:UInt8)).map fO++d.toList.drop (a.length+m)).toArray) (Value.ownBlock (.q g a.length c)):=⟨rfl,rfl,rfl,by simp,λU _ M=>setRow_other w g U _ (λz=>M (by simp[Value.ownBlock,z]))⟩;refine⟨.q g (a.length+m) c,w.setRow g (d.toList.take a.length++(List.replicate m (0:UInt8)).map fO++d.toList.drop (a.length+m)).toArray,?_,?_,cY.grown p L j⟩
   .by_cases i:m=0
    .have f:(m:Int)<=0:=by omega
     simp[Builtin.append_,CZ Tryz.underlying108,CZ Tryz.underlying3,sizeOf,typeInfo,l,r,s,t,asInt,k,q,n,o,hroom,zeroValue,KQ,f];simp_all
    .have f:¬((m:Int)<=0):=by omega
     simp[Builtin.append_,CZ Tryz.underlying108,CZ Tryz.underlying3,sizeOf,typeInfo,l,r,s,t,asInt,k,q,n,o,hroom,zeroValue,KQ,qV,i,f];simp_all
   .refine⟨by simp,.inr ⟨g,c,_,by rw[e],F,setRow_heap w g d _ 5 _ x,by omega,G,?_,?_⟩⟩
    .grind
    grind
  .have Q:=DG (w:=w) p (g:=g) rfl
   have i:¬m=0:=by omega
   have f:¬((m:Int)<=0):=by omega
   have N:max (m:Int) 0=(m:Int):=by omega
   have E:¬(9223372036854775807<((a.length:Int)+(m:Int))):=by omega
   have W:=JO (need:=a.length+m) (old:=c) (bytes:=1) (by omega) (by omega);have D:¬(281474976710656<Builtin.nextslicecap (a.length+m) c):=by omega
   have K:=MF w (a.length+m) c 5;refine⟨.q w.heap.size (a.length+m) (grownCap w (a.length+m) c 5),w.drew.alloc (.cells ((a.map fO).toArray++(((List.replicate m (0:UInt8)).map fO).toArray++Builtin.zeroCells (Value.int .u8 0).cells (grownCap w (a.length+m) c 5-(a.length+m)))) 5),?_,?_,((cY.refl B w).t ⟨rfl,rfl,rfl,BZ _,λ_ _=>rfl,λ_ _ A _=>A⟩:cY B w w.drew).alloc j _⟩
   .simp[Builtin.append_,CZ Tryz.underlying108,CZ Tryz.underlying3,sizeOf,typeInfo,l,r,s,t,asInt,k,q,n,o,hroom,zeroValue,i,f,N,E,D,Question.forced,run_firstCells_some (P:=Tryz.prog) w.drew 1 a.length (aD g 0) a.length c (a.map fO) (by simp) (by simpa using Q),newRow,grownCap,qV]
   .refine⟨by simp,.inr ⟨w.heap.size,_,_,by rw[e],j,heap_alloc_new w.drew _,by omega,LO w (a.length+m) c 5 (by unfold maxLen;omega),?_,?_⟩⟩
    .simp[qV];omega
    grind
def Cc {c a}(w)(j:o.guard=none)(d x)(n:o.op=.call {callee:=.builtin .append,args:=#[d,x],argTypes:=#[108,3]})(B b v)(q:a.eval d=v)(r:Buf w B v b)(l:b≠[])(g:B<=w.heap.size)(m:Nat)(z)(t:z=(m:Int))(s:a.eval x=.i z)(k:b.length+m<=140737488355328)(h:∀v' w',Buf w' B v' (b++List.replicate m 0)->cY B w w'->wpList Tryz.prog ops Q c (a.put o.dst v') w'):
  wpList Tryz.prog ops Q (o :: c) a w:=by
 refine EU j λK i=>?_;subst t;have⟨v',w',p,e,f⟩:=yP w o.type B v b r l m g k;unfold Oper.wp execOp;simp only[n,resolve,invoke,builtin,EG,DZ,DJ,DM,BH,DB,q,s,p];exact i _ _ (h v' w' e f)
