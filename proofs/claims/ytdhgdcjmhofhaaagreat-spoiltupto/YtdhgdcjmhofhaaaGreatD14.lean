import Derived.Test.YtdhgdcjmhofhaaaGreatD13
import Derived.OwnWalkIn
set_option linter.all false
namespace Go.Proofs.YtdhgdcjmhofhaaaGreat.Tree
open Go.RowKit Pages Tryz
variable {B c g n z:Nat} {P:Program} {Q:Exit->Act->World->Prop} {a:Act} {e:TypeId} {o:Oper} {ops:Array Oper} {v v':Value} {w:World} {xs:List Value}
structure fO (E:TypeId) (z:Nat) (v:Value) (n:Nat) (xs news:List Value) (m:Nat) (w:World) (v':Value) (w':World):Prop where
 row:w'.ownsRow 0 E z v' (n+m) (xs++news)
 fr:Fr (λk=>v.ownBlock=some k) w w'
 lies:∀k,v'.ownBlock=some k->v.ownBlock=some k\/w.1.size<=k
theorem Ai (w T g a zero z bytes)(p:P.underlying T=some (.slice a))(hi:(P.info? a).map (λi=>(i.zero,i.size,i.bytes))=some (some zero,z,bytes))(E:zero.cells.size=z)(y:0<z)(v n xs)(A:w.ownsRow 0 a z v n xs)(e m c d)(s:d.length=m * z)(t:∀j u,d[j]?=some u->w.cell? (e.add j)=some u)(h:∀u∈d,u.oneCell'=true)(H:n+m<=140737488355328)(q:(n+m) * bytes<=140737488355328):
  ∃v' w',(Builtin.append_ #[T,T] g #[v,.s (some e) m c]).run P w=.ok v' w'/\fO a z v n xs d m w v' w':=by
 have⟨F,r,B,C,D⟩:=FL hi;have⟨v',w',x,k,l,_,o⟩:=run_append_own_at (P:=P) w 0 T g a F zero z bytes p r B C D E y v n xs A e m c d s t h (by unfold maxLen;omega) q (AG _);refine⟨v',w',x,k,(AE _ w).grown l (λG b=>.inl b),λG b=>?_⟩;grind
theorem qFn(w:World)(a:List Value)(b):∀j u,a[j]?=some u->(w.alloc (.cells a.toArray b)).cell? (((aD w 0):Addr).add j)=some u:=by
 intro j u d;have c:((aD w 0):Addr).add j=(aD w j):=by unfold Addr.add;split<;>simp_all
 simp_all
theorem Aj (w T d a zero z bytes)(h:P.underlying T=some (.slice a))(hi:(P.info? a).map (λi=>(i.zero,i.size,i.bytes))=some (some zero,z,bytes))(p:zero.cells.size=z)(m:0<z)(v n xs)(o:w.ownsRow 0 a z v n xs)(b)(r:b.length=z)(f:∀u∈b,u.oneCell'=true)(g:n+1<=140737488355328)(j:(n+1) * bytes<=140737488355328):
  ∃v' w',(Builtin.append_ #[T,T] d #[v,.q w.1.size 1 1]).run P (w.alloc (.cells b.toArray a))=.ok v' w'/\fO a z v n xs b 1 w v' w':=by
 have⟨v',w',l,c⟩:=Ai (P:=P) (w.alloc (.cells b.toArray a)) T d a zero z bytes h hi p m v n xs (CG (w:=w) o _) (aD w 0) 1 1 b ω (qFn w b a) f g j;exact⟨v',w',l,c.row,((AE _ w).alloc _).t c.fr,λq k=>(c.lies q k).imp id (λe=>by simp at e;omega)⟩
theorem fO.shape {a xs e m w'}(h:fO a z v n xs e m w v' w')(j:0<m):∃g c,v'=.q g (n+m) c:=by
 have⟨_,b⟩:=h.row;grind
theorem fO.keeps {f xs i m w'}(h:fO f z v n xs i m w v' w'){u k d}(b:w.ownsRow B e c u k d)(g:u.ownBlock=none\/u.ownBlock≠v.ownBlock):w'.ownsRow B e c u k d :=
 aS b (h.fr.on (Z:=λk=>u.ownBlock=some k) (λk a=>⟨aL b a,λj=>by rcases g with h|h<;>simp_all⟩)) (λk a=>a)
theorem aQ (h:w.ownsRow B e z v n xs){k cs t c}(f:w.1[k]?=some (.cells cs t c))(i:t≠e):v.ownBlock≠some k:=by
 intro b;have⟨_,d⟩:=h;rcases d with⟨rfl,_⟩|⟨g,j,l,rfl,_,a,_⟩
 .simp[Value.ownBlock]at b
 .simp[Value.ownBlock]at b;grind
theorem dU {B B' e a z l n i xs j}(h:w.ownsRow B e z v n xs)(b:w.ownsRow B' a l v' i j)(d:e≠a):v.ownBlock=none\/v.ownBlock≠v'.ownBlock:=by
 cases hb:v.ownBlock with
 |none=>simp
 |some k =>
  refine .inr (λe=>?_);have⟨_,c⟩:=h;rcases c with⟨rfl,_⟩|⟨g,m,o,rfl,_,f,_⟩
  .simp[Value.ownBlock]at hb
  .simp[Value.ownBlock]at hb;subst hb;exact aQ b f d e.symm
theorem kA {K F}(w)(l:o.guard=none)(d x T b zero z bytes)(p:o.op=.call {callee:=.builtin .append,args:=#[d,x],argTypes:=#[T,T]})(j:P.underlying T=some (.slice b))(hi:(P.info? b).map (λi=>(i.zero,i.size,i.bytes))=some (some zero,z,bytes))(B:zero.cells.size=z)(s:0<z)(v n xs)(r:a.eval d=v)(t:w.ownsRow 0 b z v n xs)(c)(A:a.eval x=.q w.1.size 1 1)(m:c.length=z)(f:∀u∈c,u.oneCell'=true)(g:n+1<=140737488355328)(k:(n+1) * bytes<=140737488355328)(h:∀v' w',fO b z v n xs c 1 w v' w'->K (a.put o.dst v') w'):
  if Region.wanted o (yielded ops a.tmps)=true then Oper.wp P o a (w.alloc (.cells c.toArray b)) K Q else F:=by
 have y:Region.wanted o (yielded ops a.tmps)=true:=by simp[Region.wanted,l]
 rw[AU y];have⟨v',w',q,e⟩:=Aj (P:=P) w T o.type b zero z bytes j hi B s v n xs t c m f g k;unfold Oper.wp execOp;simp only[p,resolve,invoke,builtin,EK,ED,DN,DQ,BE,DB,r,A,q];exact h v' w' e
theorem gQ {d}(w)(p:o.guard=none)(e x T b zero z bytes)(r:o.op=.call {callee:=.builtin .append,args:=#[e,x],argTypes:=#[T,T]})(l:P.underlying T=some (.slice b))(hi:(P.info? b).map (λi=>(i.zero,i.size,i.bytes))=some (some zero,z,bytes))(C:zero.cells.size=z)(y:0<z)(v n xs)(t:a.eval e=v)(A:w.ownsRow 0 b z v n xs)(c)(B:a.eval x=.q w.1.size 1 1)(q:c.length=z)(g:∀u∈c,u.oneCell'=true)(j:n+1<=140737488355328)(m:(n+1) * bytes<=140737488355328)(h:∀v' w',fO b z v n xs c 1 w v' w'->wpList P ops Q d (a.put o.dst v') w'):
  wpList P ops Q (o :: d) a (w.alloc (.cells c.toArray b)):=by
 refine FH p λK k=>?_;have⟨v',w',s,f⟩:=Aj (P:=P) w T o.type b zero z bytes l hi C y v n xs A c q g j m;unfold Oper.wp execOp;simp only[r,resolve,invoke,builtin,EK,ED,DN,DQ,BE,DB,t,B,s];exact k _ _ (h v' w' f)
theorem Kq {F d g}(w)(t:o.guard=none)(j x T b zero z bytes)(f:o.op=.call {callee:=.builtin .append,args:=#[j,x],argTypes:=#[T,T]})(q:P.underlying T=some (.slice b))(hi:(P.info? b).map (λi=>(i.zero,i.size,i.bytes))=some (some zero,z,bytes))(G:zero.cells.size=z)(C:0<z)(v n xs)(B:a.eval j=v)(D:w.ownsRow 0 b z v n xs)(e)(E:a.eval x=.q w.1.size 1 1)(y:e.length=z)(l:∀u∈e,u.oneCell'=true)(m:n+1<=140737488355328)(r:(n+1) * bytes<=140737488355328)(h:∀v' w',fO b z v n xs e 1 w v' w'->wpListIn F d P ops Q g (a.put o.dst v') w'):
  wpListIn F d P ops Q (o :: g) a (w.alloc (.cells e.toArray b)):=by
 refine wpListIn_plain t λK p=>?_;have⟨v',w',A,k⟩:=Aj (P:=P) w T o.type b zero z bytes q hi G C v n xs D e y l m r;unfold Oper.wpIn;refine⟨by simp[Oper.about,f,resolve,Target.leads,ED],?_⟩
 .rw[Oper.semAt_plain F _ _ ζ];simp[execOp,f,resolve,invoke,builtin,B,E,A,Result.andThen];exact p _ _ (h v' w' k)
theorem An {f}(w)(t:o.guard=none)(g x T b zero z bytes)(B:o.op=.call {callee:=.builtin .append,args:=#[g,x],argTypes:=#[T,T]})(r:P.underlying T=some (.slice b))(hi:(P.info? b).map (λi=>(i.zero,i.size,i.bytes))=some (some zero,z,bytes))(H:zero.cells.size=z)(E:0<z)(v n xs)(D:a.eval g=v)(F:w.ownsRow 0 b z v n xs)(e m c d)(G:a.eval x=.s (some e) m c)(y:d.length=m * z)(A:∀j u,d[j]?=some u->w.cell? (e.add j)=some u)(l:∀u∈d,u.oneCell'=true)(p:n+m<=140737488355328)(s:(n+m) * bytes<=140737488355328)(h:∀v' w',fO b z v n xs d m w v' w'->wpList P ops Q f (a.put o.dst v') w'):
  wpList P ops Q (o :: f) a w:=by
 refine FH t λK q=>?_;have⟨v',w',C,k⟩:=Ai (P:=P) w T o.type b zero z bytes r hi H E v n xs F e m c d y A l p s;unfold Oper.wp execOp;simp only[B,resolve,invoke,builtin,EK,ED,DN,DQ,BE,DB,D,G,C];exact q _ _ (h v' w' k)
def wL:List Value->Nat->List Value->List Value
 |xs,_,[]=>xs
 |xs,k,v :: r=>wL (xs.set k v) (k+1) r
theorem oV:∀(r:List Value) (xs:List Value) (k:Nat),(wL xs k r).length=xs
 |[],_,_=>rfl
 |v :: r,xs,k=>by rw[wL,oV r];simp
theorem oW:∀(r:List Value) (xs:List Value) (k:Nat),k+r<=xs->∀t,(wL xs k r)[t]?=if k<=t/\t<k+r then r[t-k]? else xs[t]?
 |[],xs,k,_,t=>by
  rw[wL,AQ];simp
 |v :: r,xs,k,h,t=>by
  simp only[jB]at h;rw[wL,oW r (xs.set k v) (k+1) χ t];grind
theorem yZ (h:w.ownsRow B e z (.q g n c) n xs)(k)(s:k<xs.length)(u):(w.setCell (aD g k) u).ownsRow B e z (.q g n c) n (xs.set k u):=by
 have⟨b,d⟩:=h;refine⟨ζ,?_⟩;rcases d with⟨a,_⟩|⟨r,p,q,a,f,l,m,i,j,o⟩
 .simp at a
 .simp only[AR,BB,CD,DC,CV]at a;obtain⟨rfl,rfl⟩:=a;refine .inr ⟨g,c,_,rfl,f,aC l k u,m,i,ζ,?_⟩;rw[NE,List.take_set,o]
theorem gT:∀(r:List Value) {w:World}{xs:List Value} (k:Nat),w.ownsRow B e z (.q g n c) n xs->k+r<=xs->(w.setCells g k r).ownsRow B e z (.q g n c) n (wL xs k r)
 |[],w,xs,k,h,_=>h
 |v :: r,w,xs,k,h,hk=>by
  simp only[jB]at hk;exact gT r (k+1) (yZ h k ω v) χ
theorem jH:∀(r:List Value) {w a:World} (k:Nat),Fr (Bl.one g) a w->Fr (Bl.one g) a (w.setCells g k r)
 |[],w,a,k,h=>h
 |v :: r,w,a,k,h=>jH r (k+1) (h.setCell (p:=(aD g k)) (.inl rfl) v)
def vW(ops:Array Oper):Bool:=ops.all λo=>match o.op with|.defer _=>false|_=>true
theorem Yp{ops}(h:vW ops=true){i:Nat}{o}(hi:ops[i]?=some o):∀c,o.op≠.defer c:=by
 intro c a;obtain⟨b,rfl⟩:=jJ.1 hi;have:=(Array.all_eq_true.1 h) i b;grind
