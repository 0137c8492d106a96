import Derived.Test.YtpifffkkgnbfpaaGreatT11
import Derived.OwnWalkIn
set_option linter.unusedSimpArgs false
set_option linter.unusedVariables false
namespace Go.Proofs.YtpifffkkgnbfpaaGreat.Tree
open Go.RowKit Pages
variable {B n z:Nat} {P:Program} {Q:Exit→Act→World→Prop} {a:Act} {e:TypeId} {o:Oper} {ops:Array Oper} {rest:List Oper} {v v':Value} {w:World} {xs:List Value}
structure lN (E:TypeId) (z:Nat) (v:Value) (n:Nat) (xs news:List Value) (m:Nat) (w:World) (v':Value) (w':World):Prop where
 row:w'.ownsRow 0 E z v' (n+m) (xs++news)
 fr:Fr (fun k=>v.ownBlock=some k) w w'
 lies:∀ k,v'.ownBlock=some k→v.ownBlock=some k∨w.heap.size≤k
theorem wB (w:World) (T ty E:TypeId) (zero:Value) (z bytes:Nat) (hT:P.underlying T=some (.slice E)) (hi:(P.info? E).map (fun i=>(i.zero,i.size,i.bytes))=some (some zero,z,bytes)) (hzs:zero.cells.size=z) (hsz:0<z)
  (v:Value) (n:Nat) (xs:List Value) (hv:w.ownsRow 0 E z v n xs) (ad:Addr) (m c:Nat) (news:List Value) (hl:news.length=m * z) (hnews:∀ j u,news[j]?=some u→w.cell? (ad.add j)=some u) (h1:∀ u∈news,u.oneCell'=true)
  (h63:n+m≤140737488355328) (hb:(n+m) * bytes≤140737488355328) :
  ∃ v' w',(Builtin.append_ #[T,T] ty #[v,.slice (some ad) m c]).run P w=.ok v' w'∧lN E z v n xs news m w v' w':=by
 obtain⟨i0,hi0,hz0,hz1,hz2⟩:=info_parts hi
 obtain⟨v',w',hr,h2,h3,_,h5⟩:=run_append_own_at (P:=P) w 0 T ty E i0 zero z bytes hT hi0 hz0 hz1 hz2 hzs hsz v n xs hv ad m c news hl hnews h1 (by unfold maxLen;omega) hb (Nat.zero_le _)
 refine⟨v',w',hr,h2,(Fr.refl _ w).grown h3 (fun k hk=>.inl hk),fun k hk=>?_⟩
 rcases h5 with h|h
 ·exact .inl (h▸hk)
 ·rw [h] at hk;simp at hk;exact .inr (by omega)
theorem Vq (w:World) (news:List Value) (E:TypeId):∀ j u,news[j]?=some u→(w.alloc (.cells news.toArray E)).cell? ((⟨w.heap.size,0,none⟩:Addr).add j)=some u:=by
 intro j u hu
 have e:(⟨w.heap.size,0,none⟩:Addr).add j=⟨w.heap.size,j,none⟩:=by unfold Addr.add;split<;>simp_all
 rw [e]
 have:=World.alloc_heap_new w (.cells news.toArray E)
 unfold World.cell?
 dsimp only
 rw [this]
 simpa using hu
theorem Dk (w:World) (T ty E:TypeId) (zero:Value) (z bytes:Nat) (hT:P.underlying T=some (.slice E)) (hi:(P.info? E).map (fun i=>(i.zero,i.size,i.bytes))=some (some zero,z,bytes)) (hzs:zero.cells.size=z) (hsz:0<z)
  (v:Value) (n:Nat) (xs:List Value) (hv:w.ownsRow 0 E z v n xs) (news:List Value) (hl:news.length=z) (h1:∀ u∈news,u.oneCell'=true)
  (h63:n+1≤140737488355328) (hb:(n+1) * bytes≤140737488355328) :
  ∃ v' w',(Builtin.append_ #[T,T] ty #[v,.slice (some ⟨w.heap.size,0,none⟩) 1 1]).run P (w.alloc (.cells news.toArray E))=.ok v' w'∧lN E z v n xs news 1 w v' w':=by
 obtain⟨v',w',hr,A⟩:=wB (P:=P) (w.alloc (.cells news.toArray E)) T ty E zero z bytes hT hi hzs hsz v n xs (World.ownsRow.alloc (w:=w) hv _) ⟨w.heap.size,0,none⟩ 1 1 news (by omega) (Vq w news E) h1 h63 hb
 exact⟨v',w',hr,A.row,((Fr.refl _ w).alloc _).trans A.fr,fun k hk=>(A.lies k hk).imp id (fun h=>by simp at h;omega)⟩
theorem lN.shape {E:TypeId}    {xs news:List Value} {m:Nat}   {w':World} (h:lN E z v n xs news m w v' w') (hm:0<m):∃ g c,v'=.slice (some ⟨g,0,none⟩) (n+m) c:=by
 obtain⟨_,h2⟩:=h.row
 rcases h2 with⟨_,h0⟩|⟨g,c,cur,hv,_⟩
 ·omega
 ·exact⟨g,c,hv⟩
theorem lN.keeps {E:TypeId}    {xs news:List Value} {m:Nat}   {w':World} (h:lN E z v n xs news m w v' w')   {y:Nat} {u:Value} {k:Nat} {ys:List Value} (ho:w.ownsRow B e y u k ys) (hne:u.ownBlock=none∨u.ownBlock≠v.ownBlock):w'.ownsRow B e y u k ys :=
 bK ho (h.fr.on (Z:=fun k=>u.ownBlock=some k) (fun k hk=>⟨aZ ho hk,fun hv=>by rcases hne with h|h<;>simp_all⟩)) (fun k hk=>hk)
theorem aX (h:w.ownsRow B e z v n xs) {k:Nat} {cs:Array Value} {t:TypeId} {fz:Nat×Nat} (hk:w.heap[k]?=some (.cells cs t fz)) (hne:t≠e):v.ownBlock≠some k:=by
 intro hv
 obtain⟨_,h2⟩:=h
 rcases h2 with⟨rfl,_⟩|⟨g,cap,cur,rfl,_,hg,_⟩
 ·simp [Value.ownBlock] at hv
 ·simp [Value.ownBlock] at hv
  subst hv
  rw [hk] at hg
  simp at hg
  exact hne hg.2.1
theorem pS {B B':Nat} {e e':TypeId} {z z':Nat}  {n n':Nat} {xs xs':List Value} (h:w.ownsRow B e z v n xs) (h':w.ownsRow B' e' z' v' n' xs') (he:e≠e'):v.ownBlock=none∨v.ownBlock≠v'.ownBlock:=by
 cases hb:v.ownBlock with
 | none=>exact .inl rfl
 | some k =>
  refine .inr (fun e=>?_)
  obtain⟨_,h2⟩:=h
  rcases h2 with⟨rfl,_⟩|⟨g,cap,cur,rfl,_,hg,_⟩
  ·simp [Value.ownBlock] at hb
  ·simp [Value.ownBlock] at hb
   subst hb
   exact aX h' hg he e.symm
theorem kF {K:Act→World→Prop}  {F:Prop} (w:World) (hgd:o.guard=none) (sl x:Operand) (T E:TypeId) (zero:Value) (z bytes:Nat) (ho:o.op=.call { callee:=.builtin .append,args:=#[sl,x],argTypes:=#[T,T] }) (hT:P.underlying T=some (.slice E)) (hi:(P.info? E).map (fun i=>(i.zero,i.size,i.bytes))=some (some zero,z,bytes)) (hzs:zero.cells.size=z) (hsz:0<z)
  (v:Value) (n:Nat) (xs:List Value) (hs:a.eval sl=v) (hv:w.ownsRow 0 E z v n xs) (news:List Value) (hx:a.eval x=.slice (some ⟨w.heap.size,0,none⟩) 1 1) (hl:news.length=z) (h1:∀ u∈news,u.oneCell'=true) (h63:n+1≤140737488355328) (hb:(n+1) * bytes≤140737488355328)
  (h:∀ v' w',lN E z v n xs news 1 w v' w'→K (a.put o.dst v') w') :
  if Region.wanted o (yielded ops a.tmps)=true then Oper.wp P o a (w.alloc (.cells news.toArray E)) K Q else F:=by
 have hw:Region.wanted o (yielded ops a.tmps)=true:=by simp [Region.wanted,hgd]
 rw [if_pos hw]
 obtain⟨v',w',hr,A⟩:=Dk (P:=P) w T o.type E zero z bytes hT hi hzs hsz v n xs hv news hl h1 h63 hb
 unfold Oper.wp execOp
 simp only [ho,resolve,invoke,builtin,Sem.run_bind,Sem.run_pure,Result.andThen_ok,List.map_toArray,List.map_cons,List.map_nil,hs,hx,hr]
 exact h v' w' A
theorem nA (w:World) (hgd:o.guard=none) (sl x:Operand) (T E:TypeId) (zero:Value) (z bytes:Nat) (ho:o.op=.call { callee:=.builtin .append,args:=#[sl,x],argTypes:=#[T,T] }) (hT:P.underlying T=some (.slice E)) (hi:(P.info? E).map (fun i=>(i.zero,i.size,i.bytes))=some (some zero,z,bytes)) (hzs:zero.cells.size=z) (hsz:0<z)
  (v:Value) (n:Nat) (xs:List Value) (hs:a.eval sl=v) (hv:w.ownsRow 0 E z v n xs) (news:List Value) (hx:a.eval x=.slice (some ⟨w.heap.size,0,none⟩) 1 1) (hl:news.length=z) (h1:∀ u∈news,u.oneCell'=true) (h63:n+1≤140737488355328) (hb:(n+1) * bytes≤140737488355328)
  (h:∀ v' w',lN E z v n xs news 1 w v' w'→wpList P ops Q rest (a.put o.dst v') w') :
  wpList P ops Q (o :: rest) a (w.alloc (.cells news.toArray E)):=by
 refine wpList_plain hgd fun K hK=>?_
 obtain⟨v',w',hr,A⟩:=Dk (P:=P) w T o.type E zero z bytes hT hi hzs hsz v n xs hv news hl h1 h63 hb
 unfold Oper.wp execOp
 simp only [ho,resolve,invoke,builtin,Sem.run_bind,Sem.run_pure,Result.andThen_ok,List.map_toArray,List.map_cons,List.map_nil,hs,hx,hr]
 exact hK _ _ (h v' w' A)
theorem Es {F:Fence} {d:Nat}       (w:World) (hgd:o.guard=none) (sl x:Operand) (T E:TypeId) (zero:Value) (z bytes:Nat) (ho:o.op=.call { callee:=.builtin .append,args:=#[sl,x],argTypes:=#[T,T] }) (hT:P.underlying T=some (.slice E)) (hi:(P.info? E).map (fun i=>(i.zero,i.size,i.bytes))=some (some zero,z,bytes)) (hzs:zero.cells.size=z) (hsz:0<z)
  (v:Value) (n:Nat) (xs:List Value) (hs:a.eval sl=v) (hv:w.ownsRow 0 E z v n xs) (news:List Value) (hx:a.eval x=.slice (some ⟨w.heap.size,0,none⟩) 1 1) (hl:news.length=z) (h1:∀ u∈news,u.oneCell'=true) (h63:n+1≤140737488355328) (hb:(n+1) * bytes≤140737488355328)
  (h:∀ v' w',lN E z v n xs news 1 w v' w'→wpListIn F d P ops Q rest (a.put o.dst v') w') :
  wpListIn F d P ops Q (o :: rest) a (w.alloc (.cells news.toArray E)):=by
 refine wpListIn_plain hgd fun K hK=>?_
 obtain⟨v',w',hr,A⟩:=Dk (P:=P) w T o.type E zero z bytes hT hi hzs hsz v n xs hv news hl h1 h63 hb
 unfold Oper.wpIn
 refine⟨?_,?_⟩
 ·simp [Oper.about,ho,resolve,Target.leads,Sem.run_pure]
 ·rw [Oper.semAt_plain F _ _ (by rw [ho];intro c hc';cases hc')]
  simp [execOp,ho,resolve,invoke,builtin,hs,hx,hr,Result.andThen]
  exact hK _ _ (h v' w' A)
theorem Ah (w:World) (hgd:o.guard=none) (sl x:Operand) (T E:TypeId) (zero:Value) (z bytes:Nat) (ho:o.op=.call { callee:=.builtin .append,args:=#[sl,x],argTypes:=#[T,T] }) (hT:P.underlying T=some (.slice E)) (hi:(P.info? E).map (fun i=>(i.zero,i.size,i.bytes))=some (some zero,z,bytes)) (hzs:zero.cells.size=z) (hsz:0<z)
  (v:Value) (n:Nat) (xs:List Value) (hs:a.eval sl=v) (hv:w.ownsRow 0 E z v n xs) (ad:Addr) (m c:Nat) (news:List Value) (hx:a.eval x=.slice (some ad) m c) (hl:news.length=m * z) (hnews:∀ j u,news[j]?=some u→w.cell? (ad.add j)=some u) (h1:∀ u∈news,u.oneCell'=true) (h63:n+m≤140737488355328) (hb:(n+m) * bytes≤140737488355328)
  (h:∀ v' w',lN E z v n xs news m w v' w'→wpList P ops Q rest (a.put o.dst v') w') :
  wpList P ops Q (o :: rest) a w:=by
 refine wpList_plain hgd fun K hK=>?_
 obtain⟨v',w',hr,A⟩:=wB (P:=P) w T o.type E zero z bytes hT hi hzs hsz v n xs hv ad m c news hl hnews h1 h63 hb
 unfold Oper.wp execOp
 simp only [ho,resolve,invoke,builtin,Sem.run_bind,Sem.run_pure,Result.andThen_ok,List.map_toArray,List.map_cons,List.map_nil,hs,hx,hr]
 exact hK _ _ (h v' w' A)
variable {P:Program} {Q:Exit→Act→World→Prop} {l n:Nat} {ops:Array Oper}
def pT (ops:Array Oper):Bool:=ops.all fun o=>match o.op with|.defer _=>false|_=>true
theorem Bu (h:pT ops=true) {i:Nat} {o:Oper} (hi:ops[i]?=some o):∀ c,o.op≠.defer c:=by
 intro c hc
 obtain⟨hl,rfl⟩:=jJ.1 hi
 have:=(Array.all_eq_true.1 h) i hl
 rw [hc] at this
 simp at this
theorem Ai {F:Fence}     (hro:F.round=none) (hnd:pT ops=true) {i:Nat} {K:Act→World→Prop} {a:Act} {w:World} (h:wpOpIn F n P ops Q i K a w):wpOpIn (F.inRound l) n P ops Q i K a w:=by
 unfold wpOpIn at h ⊢
 cases ho:ops[i]? with
 | none=>simp only [ho] at h ⊢;exact h
 | some o =>
  have hd:=Bu hnd ho
  simp only [ho] at h ⊢
  unfold Oper.wpIn at h ⊢
  rw [Oper.semAt_eq _ _ _ hd] at h ⊢
  exact h
theorem qD {F:Fence}     {md:Region.Mode} (hro:F.round=none) (hnd:pT ops=true):∀ (fuel:Nat) (listed:Array Bool) (a:Act) (w:World),wpAnyIn F n P md ops Q fuel listed a w→wpAnyIn (F.inRound l) n P md ops Q fuel listed a w
 | 0,_,_,_,h=>h
 | fuel+1,listed,a,w,h=>⟨h.1,fun i hi=>wpOpIn_mono (fun a' w' h'=>qD hro hnd fuel _ a' w' h') (Ai hro hnd (h.2 i hi))⟩
theorem uK {id:Nat} {a:Act} {w:World} (hm:P.follows .mixedOrders=true) (hnd:pT ops=true)
  (h:wpAnyIn Fence.wide n P .any ops Q ops.size (Array.replicate ops.size false) a w.drew):(Code.region id ops true).wpIn (Fence.wide.inRound l) n P Q a w :=
 wpIn_region_any hm (qD rfl hnd _ _ _ _ h)
variable {g:Nat}
def sO:List Value→Nat→List Value→List Value
 | xs,_,[]=>xs
 | xs,k,v :: r=>sO (xs.set k v) (k+1) r
theorem mE:∀ (r:List Value) (xs:List Value) (k:Nat),(sO xs k r).length=xs.length
 | [],_,_=>rfl
 | v :: r,xs,k=>by rw [sO,mE r];simp
theorem mF:∀ (r:List Value) (xs:List Value) (k:Nat),k+r.length≤xs.length→∀ t,(sO xs k r)[t]?=if k≤t∧t<k+r.length then r[t-k]? else xs[t]?
 | [],xs,k,_,t=>by
  rw [sO,if_neg];simp
 | v :: r,xs,k,h,t=>by
  simp only [jB] at h
  rw [sO,mF r (xs.set k v) (k+1) (by simp;omega) t]
  by_cases h1:k+1≤t∧t<k+1+r.length
  ·rw [if_pos h1,if_pos ⟨by omega,by simp;omega⟩]
   obtain⟨d,rfl⟩:∃ d,t=k+1+d:=⟨t-(k+1),by omega⟩
   rw [show k+1+d-(k+1)=d by omega,show k+1+d-k=d+1 by omega]
   simp
  ·rw [if_neg h1]
   by_cases h2:t=k
   ·subst h2
    rw [if_pos ⟨jU _,by simp⟩,List.getElem?_set_self (by omega)]
    simp
   ·rw [if_neg (by simp;omega),List.getElem?_set_ne (by omega)]
theorem uU {w:World} {B:Nat} {e:TypeId} {z g n c:Nat} {xs:List Value} (h:w.ownsRow B e z (.slice (some ⟨g,0,none⟩) n c) n xs) (k:Nat) (hk:k<xs.length) (u:Value):(w.setCell ⟨g,k,none⟩ u).ownsRow B e z (.slice (some ⟨g,0,none⟩) n c) n (xs.set k u):=by
 obtain⟨h1,h2⟩:=h
 refine⟨by rw [List.length_set];exact h1,?_⟩
 rcases h2 with⟨h3,_⟩|⟨g',c',cur,h3,hb,hg,hnc,hcm,hcs,htake⟩
 ·simp at h3
 ·simp only [Value.slice.injEq,Option.some.injEq,Addr.mk.injEq,and_true,true_and] at h3
  obtain⟨rfl,rfl⟩:=h3
  refine .inr ⟨g,c,_,rfl,hb,aF hg k u,hnc,hcm,by simpa using hcs,?_⟩
  rw [Array.toList_setIfInBounds,List.take_set,htake]
theorem fT {B:Nat} {e:TypeId} {z g n c:Nat}:∀ (r:List Value) {w:World} {xs:List Value} (k:Nat),w.ownsRow B e z (.slice (some ⟨g,0,none⟩) n c) n xs→k+r.length≤xs.length→(w.setCells g k r).ownsRow B e z (.slice (some ⟨g,0,none⟩) n c) n (sO xs k r)
 | [],w,xs,k,h,_=>h
 | v :: r,w,xs,k,h,hk=>by
  simp only [jB] at hk
  exact fT r (k+1) (uU h k (by omega) v) (by simp;omega)
theorem gP:∀ (r:List Value) {w w0:World} (k:Nat),Fr (Bl.one g) w0 w→Fr (Bl.one g) w0 (w.setCells g k r)
 | [],w,w0,k,h=>h
 | v :: r,w,w0,k,h=>gP r (k+1) (h.setCell (p:=⟨g,k,none⟩) (.inl rfl) v)
