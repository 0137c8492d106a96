import Derived.Test.YtdhgdcjmhofhaaaGreatD13
import Derived.OwnWalkIn
set_option linter.all false
namespace Go.Proofs.YtdhgdcjmhofhaaaGreat.Tree
open Go.RowKit Pages
variable {B c g n z:Nat} {P:Program} {Q:Exit->Act->World->Prop} {a:Act} {e:TypeId} {o:Oper} {ops:Array Oper} {v v':Value} {w:World} {xs:List Value}
structure fB (E:TypeId) (z:Nat) (v:Value) (n:Nat) (xs news:List Value) (m:Nat) (w:World) (v':Value) (w':World):Prop where
 row:w'.ownsRow 0 E z v' (n+m) (xs++news)
 fr:Fr (λk=>v.ownBlock=some k) w w'
 lies:∀k,v'.ownBlock=some k->v.ownBlock=some k\/w.heap.size<=k
theorem wV (w T g a zero z bytes)(p:P.underlying T=some (.slice a))(hi:(P.info? a).map (λi=>(i.zero,i.size,i.bytes))=some (some zero,z,bytes))(E:zero.cells.size=z)(y:0<z)(v n xs)(A:w.ownsRow 0 a z v n xs)(e m c d)(s:d.length=m * z)(t:∀j u,d[j]?=some u->w.cell? (e.add j)=some u)(h:∀u∈d,u.oneCell'=true)(H:n+m<=140737488355328)(q:(n+m) * bytes<=140737488355328):
  ∃v' w',(Builtin.append_ #[T,T] g #[v,.slice (some e) m c]).run P w=.ok v' w'/\fB a z v n xs d m w v' w':=by
 have⟨F,r,B,C,D⟩:=EZ hi;have⟨v',w',x,k,l,_,o⟩:=run_append_own_at (P:=P) w 0 T g a F zero z bytes p r B C D E y v n xs A e m c d s t h (by unfold maxLen;omega) q (AH _);refine⟨v',w',x,k,(AF _ w).grown l (λG b=>.inl b),λG b=>?_⟩;grind
theorem Zs(w:World)(a:List Value)(b):∀j u,a[j]?=some u->(w.alloc (.cells a.toArray b)).cell? ((⟨w.heap.size,0,none⟩:Addr).add j)=some u:=by
 intro j u d;have c:(⟨w.heap.size,0,none⟩:Addr).add j=⟨w.heap.size,j,none⟩:=by unfold Addr.add;split<;>simp_all
 simp_all
theorem wW (w T d a zero z bytes)(h:P.underlying T=some (.slice a))(hi:(P.info? a).map (λi=>(i.zero,i.size,i.bytes))=some (some zero,z,bytes))(p:zero.cells.size=z)(m:0<z)(v n xs)(o:w.ownsRow 0 a z v n xs)(b)(r:b.length=z)(f:∀u∈b,u.oneCell'=true)(g:n+1<=140737488355328)(j:(n+1) * bytes<=140737488355328):
  ∃v' w',(Builtin.append_ #[T,T] d #[v,.q w.heap.size 1 1]).run P (w.alloc (.cells b.toArray a))=.ok v' w'/\fB a z v n xs b 1 w v' w':=by
 have⟨v',w',l,c⟩:=wV (P:=P) (w.alloc (.cells b.toArray a)) T d a zero z bytes h hi p m v n xs (CG (w:=w) o _) ⟨w.heap.size,0,none⟩ 1 1 b (by omega) (Zs w b a) f g j;exact⟨v',w',l,c.row,((AF _ w).alloc _).trans c.fr,λq k=>(c.lies q k).imp id (λe=>by simp at e;omega)⟩
theorem fB.shape {a xs e m w'}(h:fB a z v n xs e m w v' w')(j:0<m):∃g c,v'=.q g (n+m) c:=by
 have⟨_,b⟩:=h.row;grind
theorem fB.keeps {f xs i m w'}(h:fB f z v n xs i m w v' w'){u k d}(b:w.ownsRow B e c u k d)(g:u.ownBlock=none\/u.ownBlock≠v.ownBlock):w'.ownsRow B e c u k d :=
 aS b (h.fr.on (Z:=λk=>u.ownBlock=some k) (λk a=>⟨aM b a,λj=>by rcases g with h|h<;>simp_all⟩)) (λk a=>a)
theorem aQ (h:w.ownsRow B e z v n xs){k cs t c}(f:w.heap[k]?=some (.cells cs t c))(i:t≠e):v.ownBlock≠some k:=by
 intro b;have⟨_,d⟩:=h;rcases d with⟨rfl,_⟩|⟨g,j,l,rfl,_,a,_⟩
 ·simp[Value.ownBlock]at b
 ·simp[Value.ownBlock]at b
  grind
theorem dJ {B B' e a z l n i xs j}(h:w.ownsRow B e z v n xs)(b:w.ownsRow B' a l v' i j)(d:e≠a):v.ownBlock=none\/v.ownBlock≠v'.ownBlock:=by
 cases hb:v.ownBlock with
 |none=>simp
 |some k =>
  refine .inr (λe=>?_);have⟨_,c⟩:=h;rcases c with⟨rfl,_⟩|⟨g,m,o,rfl,_,f,_⟩
  ·simp[Value.ownBlock]at hb
  ·simp[Value.ownBlock]at hb
   subst hb;exact aQ b f d e.symm
theorem iO {K F}(w)(l:o.guard=none)(d x T b zero z bytes)(p:o.op=.call {callee:=.builtin .append,args:=#[d,x],argTypes:=#[T,T]})(j:P.underlying T=some (.slice b))(hi:(P.info? b).map (λi=>(i.zero,i.size,i.bytes))=some (some zero,z,bytes))(B:zero.cells.size=z)(s:0<z)(v n xs)(r:a.eval d=v)(t:w.ownsRow 0 b z v n xs)(c)(A:a.eval x=.q w.heap.size 1 1)(m:c.length=z)(f:∀u∈c,u.oneCell'=true)(g:n+1<=140737488355328)(k:(n+1) * bytes<=140737488355328)(h:∀v' w',fB b z v n xs c 1 w v' w'->K (a.put o.dst v') w'):
  if Region.wanted o (yielded ops a.tmps)=true then Oper.wp P o a (w.alloc (.cells c.toArray b)) K Q else F:=by
 have y:Region.wanted o (yielded ops a.tmps)=true:=by simp[Region.wanted,l]
 rw[AW y];have⟨v',w',q,e⟩:=wW (P:=P) w T o.type b zero z bytes j hi B s v n xs t c m f g k;unfold Oper.wp execOp;simp only[p,resolve,invoke,builtin,DY,DT,DF,DI,BD,CX,r,A,q];exact h v' w' e
theorem fK {d}(w)(p:o.guard=none)(e x T b zero z bytes)(r:o.op=.call {callee:=.builtin .append,args:=#[e,x],argTypes:=#[T,T]})(l:P.underlying T=some (.slice b))(hi:(P.info? b).map (λi=>(i.zero,i.size,i.bytes))=some (some zero,z,bytes))(C:zero.cells.size=z)(y:0<z)(v n xs)(t:a.eval e=v)(A:w.ownsRow 0 b z v n xs)(c)(B:a.eval x=.q w.heap.size 1 1)(q:c.length=z)(g:∀u∈c,u.oneCell'=true)(j:n+1<=140737488355328)(m:(n+1) * bytes<=140737488355328)(h:∀v' w',fB b z v n xs c 1 w v' w'->wpList P ops Q d (a.put o.dst v') w'):
  wpList P ops Q (o :: d) a (w.alloc (.cells c.toArray b)):=by
 refine EN p λK k=>?_;have⟨v',w',s,f⟩:=wW (P:=P) w T o.type b zero z bytes l hi C y v n xs A c q g j m;unfold Oper.wp execOp;simp only[r,resolve,invoke,builtin,DY,DT,DF,DI,BD,CX,t,B,s];exact k _ _ (h v' w' f)
theorem Hb {F d g}(w)(t:o.guard=none)(j x T b zero z bytes)(f:o.op=.call {callee:=.builtin .append,args:=#[j,x],argTypes:=#[T,T]})(q:P.underlying T=some (.slice b))(hi:(P.info? b).map (λi=>(i.zero,i.size,i.bytes))=some (some zero,z,bytes))(G:zero.cells.size=z)(C:0<z)(v n xs)(B:a.eval j=v)(D:w.ownsRow 0 b z v n xs)(e)(E:a.eval x=.q w.heap.size 1 1)(y:e.length=z)(l:∀u∈e,u.oneCell'=true)(m:n+1<=140737488355328)(r:(n+1) * bytes<=140737488355328)(h:∀v' w',fB b z v n xs e 1 w v' w'->wpListIn F d P ops Q g (a.put o.dst v') w'):
  wpListIn F d P ops Q (o :: g) a (w.alloc (.cells e.toArray b)):=by
 refine wpListIn_plain t λK p=>?_;have⟨v',w',A,k⟩:=wW (P:=P) w T o.type b zero z bytes q hi G C v n xs D e y l m r;unfold Oper.wpIn;refine⟨by simp[Oper.about,f,resolve,Target.leads,DT],?_⟩
 ·rw[Oper.semAt_plain F _ _ (by grind)]
  simp[execOp,f,resolve,invoke,builtin,B,E,A,Result.andThen];exact p _ _ (h v' w' k)
theorem wZ {f}(w)(t:o.guard=none)(g x T b zero z bytes)(B:o.op=.call {callee:=.builtin .append,args:=#[g,x],argTypes:=#[T,T]})(r:P.underlying T=some (.slice b))(hi:(P.info? b).map (λi=>(i.zero,i.size,i.bytes))=some (some zero,z,bytes))(H:zero.cells.size=z)(E:0<z)(v n xs)(D:a.eval g=v)(F:w.ownsRow 0 b z v n xs)(e m c d)(G:a.eval x=.slice (some e) m c)(y:d.length=m * z)(A:∀j u,d[j]?=some u->w.cell? (e.add j)=some u)(l:∀u∈d,u.oneCell'=true)(p:n+m<=140737488355328)(s:(n+m) * bytes<=140737488355328)(h:∀v' w',fB b z v n xs d m w v' w'->wpList P ops Q f (a.put o.dst v') w'):
  wpList P ops Q (o :: f) a w:=by
 refine EN t λK q=>?_;have⟨v',w',C,k⟩:=wV (P:=P) w T o.type b zero z bytes r hi H E v n xs F e m c d y A l p s;unfold Oper.wp execOp;simp only[B,resolve,invoke,builtin,DY,DT,DF,DI,BD,CX,D,G,C];exact q _ _ (h v' w' k)
def tX:List Value->Nat->List Value->List Value
 |xs,_,[]=>xs
 |xs,k,v :: r=>tX (xs.set k v) (k+1) r
theorem nN:∀(r:List Value) (xs:List Value) (k:Nat),(tX xs k r).length=xs.length
 |[],_,_=>rfl
 |v :: r,xs,k=>by rw[tX,nN r];simp
theorem nO:∀(r:List Value) (xs:List Value) (k:Nat),k+r.length<=xs.length->∀t,(tX xs k r)[t]?=if k<=t/\t<k+r.length then r[t-k]? else xs[t]?
 |[],xs,k,_,t=>by
  rw[tX,AQ];simp
 |v :: r,xs,k,h,t=>by
  simp only[jB]at h;rw[tX,nO r (xs.set k v) (k+1) (by simp;omega) t];grind
theorem vW (h:w.ownsRow B e z (.q g n c) n xs)(k)(s:k<xs.length)(u):(w.setCell ⟨g,k,none⟩ u).ownsRow B e z (.q g n c) n (xs.set k u):=by
 have⟨b,d⟩:=h;refine⟨by grind,?_⟩;rcases d with⟨a,_⟩|⟨r,p,q,a,f,l,m,i,j,o⟩
 ·simp at a
 ·simp only[AP,AX,CA,DA,CT]at a
  obtain⟨rfl,rfl⟩:=a;refine .inr ⟨g,c,_,rfl,f,aC l k u,m,i,by grind,?_⟩;rw[LU,List.take_set,o]
theorem gC:∀(r:List Value) {w:World}{xs:List Value} (k:Nat),w.ownsRow B e z (.q g n c) n xs->k+r.length<=xs.length->(w.setCells g k r).ownsRow B e z (.q g n c) n (tX xs k r)
 |[],w,xs,k,h,_=>h
 |v :: r,w,xs,k,h,hk=>by
  simp only[jB]at hk;exact gC r (k+1) (vW h k (by omega) v) (by simp;omega)
theorem iH:∀(r:List Value) {w a:World} (k:Nat),Fr (Bl.one g) a w->Fr (Bl.one g) a (w.setCells g k r)
 |[],w,a,k,h=>h
 |v :: r,w,a,k,h=>iH r (k+1) (h.setCell (p:=⟨g,k,none⟩) (.inl rfl) v)
variable {P:Program} {Q:Exit->Act->World->Prop} {l n:Nat} {ops:Array Oper}
def mM(ops:Array Oper):Bool:=ops.all λo=>match o.op with|.defer _=>false|_=>true
theorem Dj (h:mM ops=true){i:Nat}{o}(hi:ops[i]?=some o):∀c,o.op≠.defer c:=by
 intro c a;obtain⟨b,rfl⟩:=jJ.1 hi;have:=(Array.all_eq_true.1 h) i b;grind
theorem Bw {F}(d:F.round=none)(c:mM ops=true){i K a w}(h:wpOpIn F n P ops Q i K a w):wpOpIn (F.inRound l) n P ops Q i K a w:=by
 unfold wpOpIn at h⊢;cases ho:ops[i]? with
 |none=>simp only[ho]at h⊢;exact h
 |some o =>
  simp only[ho]at h⊢;unfold Oper.wpIn at h⊢;rw[Oper.semAt_eq _ _ _ (Dj c ho)]at h⊢;exact h
theorem rJ {F md}(c:F.round=none)(b:mM ops=true):∀(fuel:Nat) (listed:Array Bool) (a:Act) (w:World),wpAnyIn F n P md ops Q fuel listed a w->wpAnyIn (F.inRound l) n P md ops Q fuel listed a w
 |0,_,_,_,h=>h
 |fuel+1,listed,a,w,h=>⟨h.1,λg f=>wpOpIn_mono (λd w' e=>rJ c b fuel _ d w' e) (Bw c b (h.2 g f))⟩
theorem Wi {id a w}(b:P.follows .mixedOrders=true)(c:mM ops=true)(h:wpAnyIn Fence.wide n P .any ops Q ops.size (Array.replicate ops.size false) a w.drew):(Code.region id ops true).wpIn (Fence.wide.inRound l) n P Q a w :=
 wpIn_region_any b (rJ rfl c _ _ _ _ h)
