import Derived.Test.YtpifffkkgnbfpaaGreatP13
import Derived.Lib.Overlaps
import Derived.Lib.AppendZerosOnto
import Derived.Deep.RegionHeld3
set_option linter.unusedSimpArgs false
set_option linter.unusedVariables false
set_option maxRecDepth 100000
set_option maxHeartbeats 8000000
namespace Go.Proofs.YtpifffkkgnbfpaaGreat.Tree
open Go.RowKit Go.Lib Pages
variable {P:Program} {Q:Exit→Act→World→Prop} {a:Act} {o:Oper} {ops:Array Oper} {w:World}
theorem pV (w:World) (dT sT ty elem:TypeId) (z:Nat) (b o dLen dCap:Nat) (a:Addr) (sLen sCap m:Nat) (cs:List Value)
  (hu:P.underlying dT=some (.slice elem)) (hs:(P.info? elem).map (·.size)=some z) (hn:m=Nat.min sLen dLen) (hm:cs.length=m * z)
  (hsrc:∀ j v,cs[j]?=some v→w.cell? (a.add j)=some v) (hc:∀ j,j<cs.length→(w.cell? ⟨b,o+j,none⟩).isSome=true) (hf:∀ j,j<cs.length→w.frozen? ⟨b,o+j,none⟩=false) (h1:∀ v∈cs,v.oneCell'=true) :
  (Builtin.copy_ #[dT,sT] ty #[.slice (some ⟨b,o,none⟩) dLen dCap,.slice (some a) sLen sCap]).run P w=.ok (goInt m) (w.setCells b o cs):=by
 have hl:=run_loadCells_list (P:=P) w a cs hsrc
 have hst:=run_storeCells_cells (P:=P) b o cs 0 w (by simpa using hc) (by simpa using hf) h1
 rw [hm] at hl
 cases hq:P.info? elem with
 | none=>simp [hq] at hs
 | some i =>
  have hi:i.size=z:=by simpa [hq] using hs
  simp [Builtin.copy_,run_underlying hu,Builtin.lenOf,Builtin.firstCells,sizeOf,typeInfo,hq,hi,← hn,hl,hst]
theorem yB (w:World)  {rest:List Oper}    (hgd:o.guard=none) (d s:Operand) (t t':TypeId)
  (ho:o.op=.call { callee:=.builtin .copy,args:=#[d,s],argTypes:=#[t,t'] }) (v u:Value) (hd:a.eval d=v) (hs:a.eval s=u) {v':Value} {w':World}
  (hr:(Builtin.copy_ #[t,t'] o.type #[v,u]).run P w=.ok v' w') (h:wpList P ops Q rest (a.put o.dst v') w'):wpList P ops Q (o :: rest) a w :=
 wpList_plain hgd fun _ hK=>by
  unfold Oper.wp execOp
  simp only [ho,resolve,invoke,builtin,Sem.run_bind,Sem.run_pure,Result.andThen_ok,List.map_toArray,List.map_cons,List.map_nil,hd,hs,hr]
  exact hK _ _ h
theorem Gj {K:Act→World→Prop}  {E:Prop}
  (hg:o.guard=none) (d x:Operand) (dT sT:TypeId) (hop:o.op=Op.call { callee:=Callee.builtin Builtin.copy,args:=#[d,x],argTypes:=#[dT,sT] })
  (v u:Value) (hd:a.eval d=v) (hx:a.eval x=u) {v':Value} {w':World} (hr:(Builtin.copy_ #[dT,sT] o.type #[v,u]).run P w=.ok v' w') (hK:K (a.put o.dst v') w') :
  if Region.wanted o (yielded ops a.tmps)=true then Oper.wp P o a w K Q else E:=by
 have hw:Region.wanted o (yielded ops a.tmps)=true:=by simp [Region.wanted,hg]
 rw [if_pos hw]
 unfold Oper.wp
 simp [execOp,hop,resolve,invoke,builtin,hd,hx,hr,Result.andThen]
 exact hK
theorem Nc (R xs vs:List Value) (i n:Nat) (hx:xs.length=n * 3) (hv:vs.length=3) (hi:i≤n) (hR:R.length=(n+1) * 3) (ht:∀ t,t<i * 3→R[t]?=xs[t]?) :
  sV (sV R (i * 3) vs) ((i+1) * 3) (xs.drop (i * 3))=xs.take (i * 3)++vs++xs.drop (i * 3)∧sV (sV R ((i+1) * 3) (xs.drop (i * 3))) (i * 3) vs=xs.take (i * 3)++vs++xs.drop (i * 3):=by
 have hd:(xs.drop (i * 3)).length=n * 3-i * 3:=by rw [List.length_drop,hx]
 have hi3:i * 3≤n * 3:=Nat.mul_le_mul_right 3 hi
 have hi4:(i+1) * 3=i * 3+3:=by omega
 have hn4:(n+1) * 3=n * 3+3:=by omega
 have key:∀ t,(xs.take (i * 3)++vs++xs.drop (i * 3))[t]?=if t<i * 3 then R[t]? else if t<(i+1) * 3 then vs[t-i * 3]? else (xs.drop (i * 3))[t-(i+1) * 3]?:=by
  intro t
  have hl1:(xs.take (i * 3)).length=i * 3:=by rw [List.length_take];omega
  by_cases h1:t<i * 3
  ·rw [if_pos h1,List.append_assoc,List.getElem?_append_left (by omega),List.getElem?_take,if_pos h1,ht t h1]
  ·rw [if_neg h1]
   by_cases h2:t<(i+1) * 3
   ·rw [if_pos h2,List.getElem?_append_left (by rw [jK];omega),List.getElem?_append_right (by omega),hl1]
   ·rw [if_neg h2,List.getElem?_append_right (by rw [jK];omega),jK,hl1,hv,hi4]
 constructor
 ·apply List.ext_getElem?
  intro t
  rw [key,mK _ _ _ (by rw [mJ,hR,hd];omega),mK _ _ _ (by rw [hR,hv];omega),hd,hv]
  by_cases h1:t<i * 3
  ·rw [if_pos h1,if_neg (by omega),if_neg (by omega)]
  ·rw [if_neg h1]
   by_cases h2:t<(i+1) * 3
   ·rw [if_pos h2,if_neg (by omega),if_pos (by omega)]
   ·rw [if_neg h2]
    by_cases h3:(i+1) * 3≤t∧t<(i+1) * 3+(n * 3-i * 3)
    ·rw [if_pos h3]
    ·rw [if_neg h3,if_neg (by omega),List.getElem?_eq_none (by omega),List.getElem?_eq_none (by rw [hd];omega)]
 ·apply List.ext_getElem?
  intro t
  rw [key,mK _ _ _ (by rw [mJ,hR,hv];omega),mK _ _ _ (by rw [hR,hd];omega),hd,hv]
  by_cases h1:t<i * 3
  ·rw [if_pos h1,if_neg (by omega),if_neg (by omega)]
  ·rw [if_neg h1]
   by_cases h2:t<(i+1) * 3
   ·rw [if_pos h2,if_pos (by omega)]
   ·rw [if_neg h2,if_neg (by omega)]
    by_cases h3:(i+1) * 3≤t∧t<(i+1) * 3+(n * 3-i * 3)
    ·rw [if_pos h3]
    ·rw [if_neg h3,List.getElem?_eq_none (by omega),List.getElem?_eq_none (by rw [hd];omega)]
theorem Dg:(Tryz.prog.info? 106).map (fun i=>(i.zero,i.size,i.bytes))=some (some (.agg #[.string ⟨#[]⟩,.string ⟨#[]⟩,.bool false]),3,40):=by kernel_rfl
theorem Kn (w:World) (T T' E ty:TypeId) (hT:P.underlying T=some (.slice E)) (hT':P.underlying T'=some (.slice E)) (i0:TypeInfo) (hi:P.info? E=some i0) (b:Option Addr) (n c:Nat) (x:Value):(Builtin.append_ #[T,T'] ty #[.slice b n c,x]).run P w=(Builtin.append_ #[T,T] ty #[.slice b n c,x]).run P w:=by
 simp [Builtin.append_,run_underlying hT,run_underlying hT',sizeOf,typeInfo,hi]
theorem Iw {rest:List Oper}    (w:World) (hgd:o.guard=none) (sl x:Operand) (T T' E:TypeId) (zero:Value) (z bytes:Nat) (ho:o.op=.call { callee:=.builtin .append,args:=#[sl,x],argTypes:=#[T,T'] }) (hT:P.underlying T=some (.slice E)) (hT':P.underlying T'=some (.slice E)) (hi:(P.info? E).map (fun i=>(i.zero,i.size,i.bytes))=some (some zero,z,bytes)) (hzs:zero.cells.size=z) (hsz:0<z)
  (v:Value) (n:Nat) (xs:List Value) (hs:a.eval sl=v) (hv:w.ownsRow 0 E z v n xs) (ad:Addr) (m c:Nat) (news:List Value) (hx:a.eval x=.slice (some ad) m c) (hl:news.length=m * z) (hnews:∀ j u,news[j]?=some u→w.cell? (ad.add j)=some u) (h1:∀ u∈news,u.oneCell'=true) (h63:n+m≤140737488355328) (hb:(n+m) * bytes≤140737488355328)
  (h:∀ v' w',lU E z v n xs news m w v' w'→wpList P ops Q rest (a.put o.dst v') w') :
  wpList P ops Q (o :: rest) a w:=by
 refine wpList_plain hgd fun K hK=>?_
 obtain⟨v',w',hr,A⟩:=wI (P:=P) w T o.type E zero z bytes hT hi hzs hsz v n xs hv ad m c news hl hnews h1 h63 hb
 obtain⟨i0,hi0,_,_,_⟩:=info_parts hi
 obtain⟨a0,c0,rfl⟩:=aO hv
 rw [← Kn w T T' E o.type hT hT' i0 hi0] at hr
 unfold Oper.wp execOp
 simp only [ho,resolve,invoke,builtin,Sem.run_bind,Sem.run_pure,Result.andThen_ok,List.map_toArray,List.map_cons,List.map_nil,hs,hx,hr]
 exact hK _ _ (h v' w' A)
theorem iH {e:TypeId} {z n:Nat} {v:Value} {xs:List Value} (h:w.ownsRow 0 e z v n xs):(v=.slice none 0 0∧n=0∧xs=[])∨∃ g c cur,v=.slice (some ⟨g,0,none⟩) n c∧w.heap[g]?=some (.cells cur e)∧n≤c∧c≤maxLen∧cur.size=c * z∧cur.toList.take (n * z)=xs:=by
 obtain⟨h1,h2⟩:=h
 rcases h2 with⟨h3,h4⟩|⟨g,c,cur,h3,hb,hg,hnc,hcm,hcs,htake⟩
 ·refine .inl ⟨h3,h4,?_⟩
  rw [h4,Nat.zero_mul] at h1
  exact List.eq_nil_of_length_eq_zero h1
 ·exact .inr ⟨g,c,cur,h3,hg,hnc,hcm,hcs,htake⟩
theorem Ak {vb:Nat} {vs:List Value} {E:TypeId} (hvb:w.heap[vb]?=some (.cells vs.toArray E)):∀ j u,vs[j]?=some u→w.cell? ((⟨vb,0,none⟩:Addr).add j)=some u:=fun j u hu=>by
 rw [Addr.add_lit]
 simp [World.cell?,hvb,hu]
theorem Rj (v:Value) (n vb:Nat) (xs vs:List Value) (w:World) (h:w.ownsRow 0 106 3 v n xs) (hv:vs.length=3) (hvb:w.heap[vb]?=some (.cells vs.toArray 106)) (h1:∀ u∈vs,u.oneCell'=true) (hn:n≤1000000) :
  Calls Tryz.prog 100 #[v,.int .i64 n,.slice (some ⟨vb,0,none⟩) 1 1] w fun e w'=>∃ v',e=.returned v'∧lU 106 3 v n xs vs 1 w v' w':=by
 have hnews:=Ak hvb
 rcases iH h with⟨rfl,rfl,rfl⟩|⟨g,c,cur,rfl,hg,hnc,hcm,hcs,htake⟩
 ·go_enter Tryz.func100,Tryz.ntmps100
  go_wp2_with (at_builtin;refine Iw w rfl (.tmp 23) (.tmp 24) 93 92 106 _ 3 40 rfl Tryz.underlying93 Tryz.underlying92 Dg rfl (by decide) (.slice none 0 0) 0 [] rfl h ⟨vb,0,none⟩ 1 1 vs rfl (by omega) hnews h1 (by omega) (by omega) ?_;intro v3 w3 A3)
  go_ret
  exact⟨_,rfl,A3⟩
 ·by_cases hcn:c=n
  ·subst c
   have hci:(n:Int)≤(n:Int):=by omega
   go_enter Tryz.func100,Tryz.ntmps100
   go_wp2_with (at_builtin;refine Iw w rfl (.tmp 23) (.tmp 24) 93 92 106 _ 3 40 rfl Tryz.underlying93 Tryz.underlying92 Dg rfl (by decide) (.slice (some ⟨g,0,none⟩) n n) n xs rfl h ⟨vb,0,none⟩ 1 1 vs rfl (by omega) hnews h1 (by omega) (by omega) ?_;intro v3 w3 A3)
   go_ret
   exact⟨_,rfl,A3⟩
  ·have hci:(n:Int)≤(c:Int):=by omega
   go_enter Tryz.func100,Tryz.ntmps100
   go_wp2_with (at_builtin;refine Iw w rfl (.tmp 23) (.tmp 24) 93 92 106 _ 3 40 rfl Tryz.underlying93 Tryz.underlying92 Dg rfl (by decide) (.slice (some ⟨g,0,none⟩) n c) n xs rfl h ⟨vb,0,none⟩ 1 1 vs rfl (by omega) hnews h1 (by omega) (by omega) ?_;intro v3 w3 A3)
   go_ret
   exact⟨_,rfl,A3⟩
theorem bN {e:TypeId} {z g n c:Nat} {xs:List Value} (h:w.ownsRow 0 e z (.slice (some ⟨g,0,none⟩) n c) n xs) (t:Nat) (ht:t<n * z):(w.cell? ⟨g,t,none⟩).isSome=true∧w.frozen? ⟨g,t,none⟩=false:=by
 rcases iH h with⟨h0,_⟩|⟨g',c',cur,h3,hg,hnc,hcm,hcs,htake⟩
 ·simp at h0
 ·simp only [Value.slice.injEq,Option.some.injEq,Addr.mk.injEq,and_true,true_and] at h3
  obtain⟨rfl,rfl⟩:=h3
  refine⟨?_,aF hg t⟩
  have:t<cur.size:=by rw [hcs];exact jY ht (Nat.mul_le_mul_right z hnc)
  simp [World.cell?,hg,this]
theorem Nb (g n c i vb:Nat) (xs vs:List Value) (w:World) (h:w.ownsRow 0 106 3 (.slice (some ⟨g,0,none⟩) n c) n xs) (hx:∀ u∈xs,u.oneCell'=true) (hv:vs.length=3) (hvb:w.heap[vb]?=some (.cells vs.toArray 106)) (h1:∀ u∈vs,u.oneCell'=true) (hn:n≤1000000) (hi:i<n) (hc:c<n+1) :
  Calls Tryz.prog 100 #[.slice (some ⟨g,0,none⟩) n c,.int .i64 i,.slice (some ⟨vb,0,none⟩) 1 1] w fun e w'=>∃ G,e=.returned (.slice (some ⟨w.heap.size,0,none⟩) (n+1) G)∧w'.ownsRow 0 106 3 (.slice (some ⟨w.heap.size,0,none⟩) (n+1) G) (n+1) (xs.take (i * 3)++vs++xs.drop (i * 3))∧Below w.heap.size w w':=by
 have hnews:=Ak hvb
 have hxl:xs.length=n * 3:=h.1
 have hnc:n≤c:=by
  rcases iH h with⟨h0,_⟩|⟨g',c',cur,h3,hg,hnc,hcm,hcs,htake⟩
  ·simp at h0
  ·simp only [Value.slice.injEq,Option.some.injEq,Addr.mk.injEq,and_true,true_and] at h3
   obtain⟨rfl,rfl⟩:=h3
   exact hnc
 have hcell:=World.ownsRow.cells (w:=w) h (g:=g) rfl
 obtain⟨i0,hi0,hz0,hzs,hzb⟩:=info_parts Dg
 have hsz:(Tryz.prog.info? 106).map (·.size)=some 3:=by rw [hi0];simp [hzs]
 have hgw:g<w.heap.size:=aX h rfl
 have hvw:vb<w.heap.size:=(gL hvb)
 have hold:(Builtin.firstCells i0.size i (.slice (some ⟨g,0,none⟩) i c)).run Tryz.prog w.drew=.ok (xs.take (i * 3)).toArray w.drew:=by
  rw [hzs]
  exact run_firstCells_some w.drew 3 i ⟨g,0,none⟩ i c (xs.take (i * 3)) (by rw [List.length_take];omega) (fun j u hj=>by
   rw [List.getElem?_take] at hj
   split at hj
   ·exact hcell j u hj
   ·cases hj)
 have hkk:(n:Int)+1-(i:Int)=((n+1-i:Nat):Int):=by omega
 have hik:i+(n+1-i)=n+1:=by omega
 obtain⟨G,hG⟩:∃ G,G=grownCap w (n+1) c 106:=⟨_,rfl⟩
 obtain⟨ROW,hROW⟩:∃ ROW:Array Value,ROW=(xs.take (i * 3)).toArray++Builtin.zeroCells (Value.agg #[.string ⟨#[]⟩,.string ⟨#[]⟩,.bool false]).cells (n+1-i)++Builtin.zeroCells (Value.agg #[.string ⟨#[]⟩,.string ⟨#[]⟩,.bool false]).cells (G-(n+1)):=⟨_,rfl⟩
 have hrz:∀ ty,(Builtin.append_ #[93,3] ty #[.slice (some ⟨g,0,none⟩) i c,.int .i64 ((n:Int)+1-(i:Int))]).run Tryz.prog w=.ok (.slice (some ⟨w.heap.size,0,none⟩) (n+1) G) (w.drew.alloc (.cells ROW 106)):=fun ty=>by
  have h':=Lib.run_append_grow_zeros w 93 3 ty 106 i0 _ .i64 .i64 Tryz.underlying93 Tryz.underlying3 hi0 hz0 (some ⟨g,0,none⟩) i c (xs.take (i * 3)) hold (n+1-i) (by omega) (by omega) (by omega) (by omega) (by rw [hzb];omega) (by rw [hzb,hik];exact growslice_fits hc (by omega))
  rw [hik] at h'
  rw [hkk,hROW,hG]
  exact h'
 have hGn:n+1≤G:=by rw [hG];exact grownCap_ge w _ _ _
 have hGm:G≤maxLen:=by rw [hG];exact grownCap_le_maxLen w (n+1) c _ (by unfold maxLen;omega)
 have hRs:ROW.size=G * 3:=by
  rw [hROW]
  simp [Builtin.zeroCells,Value.cells,hxl]
  omega
 obtain⟨W1,hW1⟩:∃ W1,W1=w.drew.alloc (.cells ROW 106):=⟨_,rfl⟩
 have hb1:Below w.heap.size w W1:=by rw [hW1];exact(Below.refl _ w).drew.alloc (jU _) _
 have hN:W1.heap[w.heap.size]?=some (.cells ROW 106):=by rw [hW1];exact aA w.drew _
 have hoN:W1.ownsRow 0 106 3 (.slice (some ⟨w.heap.size,0,none⟩) (n+1) G) (n+1) (ROW.toList.take ((n+1) * 3)) :=
  ⟨by rw [List.length_take,Array.length_toList,hRs];omega,.inr ⟨_,G,ROW,rfl,Nat.zero_le _,hN,hGn,hGm,hRs,rfl⟩⟩
 obtain⟨W2,hW2⟩:∃ W2,W2=W1.setCells w.heap.size (i * 3) vs:=⟨_,rfl⟩
 have hR0:(ROW.toList.take ((n+1) * 3)).length=(n+1) * 3:=hoN.1
 have ho2:W2.ownsRow 0 106 3 (.slice (some ⟨w.heap.size,0,none⟩) (n+1) G) (n+1) (sV (ROW.toList.take ((n+1) * 3)) (i * 3) vs):=by rw [hW2];exact gF vs (i * 3) hoN (by rw [hR0];omega)
 have hF2:Fr (Bl.one w.heap.size) W1 W2:=by rw [hW2];exact iC vs (i * 3) (Fr.refl _ W1)
 have hb2:Below w.heap.size w W2:=hb1.trans (hF2.below hb1.size (oK (by omega)))
 obtain⟨news,hnw⟩:∃ news,news=xs.drop (i * 3):=⟨_,rfl⟩
 have hnl:news.length=(n-i) * 3:=by rw [hnw,List.length_drop,hxl];omega
 have hcpA:∀ ty dc,(Builtin.copy_ #[93,92] ty #[.slice (some ⟨w.heap.size,i * 3,none⟩) (n+1-i) dc,.slice (some ⟨vb,0,none⟩) 1 1]).run Tryz.prog W1=.ok (goInt 1) W2:=fun ty dc=>by
  rw [hW2]
  exact pV W1 _ _ ty 106 3 w.heap.size (i * 3) (n+1-i) dc ⟨vb,0,none⟩ 1 1 1 vs Tryz.underlying93 hsz (by simp only [Nat.min_def];split<;>omega) (by omega)
   (Ak ((hb1.block _ hvw).trans hvb)) (fun j hj=>(bN hoN _ (by omega)).1) (fun j hj=>(bN hoN _ (by omega)).2) h1
 have hcpB:∀ ty dc sc,(Builtin.copy_ #[93,93] ty #[.slice (some ⟨w.heap.size,(i+1) * 3,none⟩) (n+1-(i+1)) dc,.slice (some ⟨g,i * 3,none⟩) (n-i) sc]).run Tryz.prog W2.drew=.ok (goInt ((n-i:Nat):Int)) (W2.drew.setCells w.heap.size ((i+1) * 3) news):=fun ty dc sc=>by
  exact pV W2.drew _ _ ty 106 3 w.heap.size ((i+1) * 3) (n+1-(i+1)) dc ⟨g,i * 3,none⟩ (n-i) sc (n-i) news Tryz.underlying93 hsz (by simp only [Nat.min_def];split<;>omega) hnl
   (fun j u hj=>by
    rw [hnw,List.getElem?_drop] at hj
    have h3:=bK h (vV hb2 (Y:=fun k=>(Value.slice (some ⟨g,0,none⟩) n c).ownBlock=some k) (fun k hk=>aX h hk)) (fun k hk=>hk)
    have:=World.ownsRow.cells (w:=W2) h3 (g:=g) rfl (i * 3+j) u hj
    rw [Addr.add_lit] at this ⊢
    rw [Nat.zero_add] at this
    exact this) (fun j hj=>(bN (w:=W2) ho2 _ (by rw [hnl] at hj;omega)).1) (fun j hj=>(bN (w:=W2) ho2 _ (by rw [hnl] at hj;omega)).2) (fun u hu=>hx u (List.mem_of_mem_drop (hnw▸hu)))
 have HFIN:Hid ((W2.drew.setCells w.heap.size ((i+1) * 3) news).ownsRow 0 106 3 (.slice (some ⟨w.heap.size,0,none⟩) (n+1) G) (n+1) (xs.take (i * 3)++vs++xs.drop (i * 3))∧Below w.heap.size w (W2.drew.setCells w.heap.size ((i+1) * 3) news)):=by
  have ho3:=gF (w:=W2.drew) news ((i+1) * 3) ho2 (by rw [mJ,hR0,hnl];omega)
  have e:=(Nc (ROW.toList.take ((n+1) * 3)) xs vs i n hxl hv (by omega) hR0 (fun t ht=>by
   rw [List.getElem?_take,if_pos (by omega),hROW]
   simp only [Array.toList_append,List.append_assoc]
   rw [List.getElem?_append_left (by rw [List.length_take];omega),List.getElem?_take,if_pos ht])).1
  rw [← hnw] at e
  rw [e,hnw] at ho3
  rw [hnw]
  exact⟨ho3,hb2.drew.trans ((iC _ _ (Fr.refl (Bl.one w.heap.size) W2.drew)).below (by have:=hb2.size;exact this) (oK (by omega)))⟩
 have hci:¬ (c=i):=by omega
 have hGi:¬ (G=i):=by omega
 have hGi1:¬ (G=i+1):=by omega
 have hz2:¬ ((i:Int)=(n:Int)):=by omega
 have hz3:(c:Int)<(n:Int)+1:=by omega
 have hic:i≤c:=by omega
 have hin:i≤n:=by omega
 have hGI:i+1≤n+1:=by omega
 have hin1:i≤n+1:=by omega
 have hw1:IntKind.i64.wrap ((i:Int)+1)=(i:Int)+1:=by rw [IntKind.wrap_i64];omega
 have hb1':(0:Int)≤(i:Int)+1:=by omega
 have htn:((i:Int)+1).toNat=i+1:=by omega
 have hb3:(i:Int)+1≤(n:Int)+1:=by omega
 have hb4:(i:Int)≤(n:Int):=by omega
 have hG63:G≤9223372036854775807:=by unfold maxLen at hGm;omega
 clear hkk hik hold hROW hG hRs hoN ho2 hnw hnl hb1 hb2 hF2 hW2 hN hcell hR0 hxl h hx h1 hnews hvb hsz
 rw [← hW1] at hrz
 clear hW1
 go_enter Tryz.func100,Tryz.ntmps100
 go_wp2_with (first
  | (at_builtin;refine Lib.wpList_append_run _ rfl _ _ _ _ rfl _ _ rfl rfl _ _ (hrz _) ?_)
  | (at_builtin;refine yB W1 rfl _ _ 93 92 rfl _ _ rfl rfl (hcpA _ _) ?_))
 go_region_held3 (fun _=>True) (trivial)
  (first|(refine Gj rfl _ _ 93 93 rfl (.slice (some ⟨w.heap.size,(i+1) * 3,none⟩) (n+1-(i+1)) (G-(i+1))) (.slice (some ⟨g,i * 3,none⟩) (n-i) (c-i)) (by simp [Act.eval,Act.put]) (by simp [Act.eval,Act.put]) (hcpB _ _ _) ?_))
 all_goals go_wp2
 go_ret
 exact⟨G,rfl,HFIN.out.1,HFIN.out.2⟩
theorem Na (g n c i vb:Nat) (xs vs:List Value) (w:World) (h:w.ownsRow 0 106 3 (.slice (some ⟨g,0,none⟩) n c) n xs) (hx:∀ u∈xs,u.oneCell'=true) (hv:vs.length=3) (hvb:w.heap[vb]?=some (.cells vs.toArray 106)) (h1:∀ u∈vs,u.oneCell'=true) (hne:vb≠g) (hn:n≤1000000) (hi:i<n) (hc:n+1≤c) :
  Calls Tryz.prog 100 #[.slice (some ⟨g,0,none⟩) n c,.int .i64 i,.slice (some ⟨vb,0,none⟩) 1 1] w fun e w'=>e=.returned (.slice (some ⟨g,0,none⟩) (n+1) c)∧w'.ownsRow 0 106 3 (.slice (some ⟨g,0,none⟩) (n+1) c) (n+1) (xs.take (i * 3)++vs++xs.drop (i * 3))∧Fr (Bl.one g) w w':=by
 have hxl:xs.length=n * 3:=h.1
 obtain⟨cur,hg,hcm,hcs,htake⟩:∃ cur,w.heap[g]?=some (.cells cur 106)∧c≤maxLen∧cur.size=c * 3∧cur.toList.take (n * 3)=xs:=by
  rcases iH h with⟨h0,_⟩|⟨g',c',cur,h3,hg,hnc,hcm,hcs,htake⟩
  ·simp at h0
  ·simp only [Value.slice.injEq,Option.some.injEq,Addr.mk.injEq,and_true,true_and] at h3
   obtain⟨rfl,rfl⟩:=h3
   exact⟨cur,hg,hcm,hcs,htake⟩
 have hsz:(Tryz.prog.info? 106).map (·.size)=some 3:=by
  obtain⟨i0,hi0,hz0,hzs,hzb⟩:=info_parts Dg
  rw [hi0];simp [hzs]
 have hoN:w.ownsRow 0 106 3 (.slice (some ⟨g,0,none⟩) (n+1) c) (n+1) (cur.toList.take ((n+1) * 3)) :=
  ⟨by rw [List.length_take,Array.length_toList,hcs];omega,.inr ⟨_,c,cur,rfl,Nat.zero_le _,hg,hc,hcm,hcs,rfl⟩⟩
 have hR0:(cur.toList.take ((n+1) * 3)).length=(n+1) * 3:=hoN.1
 obtain⟨news,hnw⟩:∃ news,news=xs.drop (i * 3):=⟨_,rfl⟩
 have hnl:news.length=(n-i) * 3:=by rw [hnw,List.length_drop,hxl];omega
 obtain⟨W1,hW1⟩:∃ W1,W1=w.drew.setCells g ((i+1) * 3) news:=⟨_,rfl⟩
 have ho1:W1.ownsRow 0 106 3 (.slice (some ⟨g,0,none⟩) (n+1) c) (n+1) (sV (cur.toList.take ((n+1) * 3)) ((i+1) * 3) news):=by rw [hW1];exact gF (w:=w.drew) news ((i+1) * 3) hoN (by rw [hR0,hnl];omega)
 have hF1:Fr (Bl.one g) w W1:=by rw [hW1];exact iC news ((i+1) * 3) (Fr.refl _ w).drew
 have hcell:=World.ownsRow.cells (w:=w) h (g:=g) rfl
 have hcpA:∀ ty dc sc,(Builtin.copy_ #[93,93] ty #[.slice (some ⟨g,(i+1) * 3,none⟩) (n+1-(i+1)) dc,.slice (some ⟨g,i * 3,none⟩) (n+1-i) sc]).run Tryz.prog w.drew=.ok (goInt ((n-i:Nat):Int)) W1:=fun ty dc sc=>by
  rw [hW1]
  exact pV w.drew _ _ ty 106 3 g ((i+1) * 3) (n+1-(i+1)) dc ⟨g,i * 3,none⟩ (n+1-i) sc (n-i) news Tryz.underlying93 hsz (by simp only [Nat.min_def];split<;>omega) hnl
   (fun j u hj=>by
    rw [hnw,List.getElem?_drop] at hj
    have:=hcell (i * 3+j) u hj
    rw [Addr.add_lit] at this ⊢
    rw [Nat.zero_add] at this
    exact this) (fun j hj=>(bN (w:=w) hoN _ (by rw [hnl] at hj;omega)).1) (fun j hj=>(bN (w:=w) hoN _ (by rw [hnl] at hj;omega)).2) (fun u hu=>hx u (List.mem_of_mem_drop (hnw▸hu)))
 have hcpB:∀ ty dc,(Builtin.copy_ #[93,92] ty #[.slice (some ⟨g,i * 3,none⟩) (n+1-i) dc,.slice (some ⟨vb,0,none⟩) 1 1]).run Tryz.prog W1=.ok (goInt 1) (W1.setCells g (i * 3) vs):=fun ty dc=>by
  exact pV W1 _ _ ty 106 3 g (i * 3) (n+1-i) dc ⟨vb,0,none⟩ 1 1 1 vs Tryz.underlying93 hsz (by simp only [Nat.min_def];split<;>omega) (by omega)
   (Ak (hF1.heap hvb (fun e=>hne e))) (fun j hj=>(bN ho1 _ (by omega)).1) (fun j hj=>(bN ho1 _ (by omega)).2) h1
 have hov:∀ lb cb,(callFunc 127 #[.slice (some ⟨vb,0,none⟩) 1 1,.slice (some ⟨g,(i+1) * 3,none⟩) lb cb]).run Tryz.prog w=.ok (.value (.bool false)) w:=fun lb cb=>by
  rw [run_callFunc_extern Tryz.func127 (by kernel_rfl) (by kernel_rfl) (by kernel_rfl) (e:=Extern.SlicesOverlaps.overlaps #[92,92] #[4]) (by kernel_rfl),
   Lib.run_overlaps_apart w 92 4 106 Tryz.underlying92 3 (fun w=>by kernel_rfl) ⟨vb,0,none⟩ ⟨g,(i+1) * 3,none⟩ 1 1 lb cb hne 106 106 vs.length cur.size (by simp [World.shape?,hvb]) (by simp [World.shape?,hg]) (by rw [hcs];omega) (aF hvb _) (aF hvb _)]
  rfl
 have HFIN:Hid ((W1.setCells g (i * 3) vs).ownsRow 0 106 3 (.slice (some ⟨g,0,none⟩) (n+1) c) (n+1) (xs.take (i * 3)++vs++xs.drop (i * 3))∧Fr (Bl.one g) w (W1.setCells g (i * 3) vs)):=by
  have ho3:=gF (w:=W1) vs (i * 3) ho1 (by rw [mJ,hR0,hv];omega)
  have e:=(Nc (cur.toList.take ((n+1) * 3)) xs vs i n hxl hv (by omega) hR0 (fun t ht=>by
   rw [← htake,List.getElem?_take,if_pos (by omega),List.getElem?_take,if_pos (by omega)])).2
  rw [← hnw] at e
  rw [e,hnw] at ho3
  exact⟨ho3,iC vs (i * 3) hF1⟩
 have hci:¬ (c=i):=by omega
 have hci1:¬ (c=i+1):=by omega
 have hz2:¬ ((i:Int)=(n:Int)):=by omega
 have hz3:¬ ((c:Int)<(n:Int)+1):=by omega
 have hic:i≤c:=by omega
 have hin:i≤n:=by omega
 have hin1:i≤n+1:=by omega
 have hw1:IntKind.i64.wrap ((i:Int)+1)=(i:Int)+1:=by rw [IntKind.wrap_i64];omega
 have hw2:IntKind.i64.wrap ((n:Int)+1)=(n:Int)+1:=by rw [IntKind.wrap_i64];omega
 have hb1':(0:Int)≤(i:Int)+1:=by omega
 have hb2':(0:Int)≤(n:Int)+1:=by omega
 have htn:((i:Int)+1).toNat=i+1:=by omega
 have htn2:((n:Int)+1).toNat=n+1:=by omega
 have hb3:(i:Int)+1≤(n:Int)+1:=by omega
 have hb4:(i:Int)≤(n:Int):=by omega
 have hb5:(n:Int)+1≤(c:Int):=by omega
 have hb6:(i:Int)≤(n:Int)+1:=by omega
 have hc63:c≤9223372036854775807:=by unfold maxLen at hcm;omega
 clear hoN ho1 hnw hnl hF1 hcell hR0 hxl h hx h1 hvb hsz hg htake hcs hW1
 go_enter Tryz.func100,Tryz.ntmps100
 go_wp2_with (simp only [hov])
 go_region_held3 (fun _=>True) (trivial)
  (first|(refine Gj rfl _ _ 93 93 rfl (.slice (some ⟨g,(i+1) * 3,none⟩) (n+1-(i+1)) (c-(i+1))) (.slice (some ⟨g,i * 3,none⟩) (n+1-i) (c-i)) (by simp [Act.eval,Act.put]) (by simp [Act.eval,Act.put]) (hcpA _ _ _) ?_))
 all_goals go_wp2_with (at_builtin;refine yB W1 rfl _ _ 93 92 rfl _ _ rfl rfl (hcpB _ _) ?_)
 go_ret
 exact⟨rfl,HFIN.out.1,HFIN.out.2⟩
theorem Rl (v:Value) (n i vb:Nat) (xs vs:List Value) (w:World) (h:w.ownsRow 0 106 3 v n xs) (hx:∀ u∈xs,u.oneCell'=true) (hv:vs.length=3) (hvb:w.heap[vb]?=some (.cells vs.toArray 106)) (h1:∀ u∈vs,u.oneCell'=true) (hne:v.ownBlock≠some vb) (hn:n≤1000000) (hi:i≤n) :
  Calls Tryz.prog 100 #[v,.int .i64 i,.slice (some ⟨vb,0,none⟩) 1 1] w fun e w'=>∃ v',e=.returned v'∧w'.ownsRow 0 106 3 v' (n+1) (xs.take (i * 3)++vs++xs.drop (i * 3))∧Fr (fun k=>v.ownBlock=some k) w w'∧∀ k,v'.ownBlock=some k→v.ownBlock=some k∨w.heap.size≤k:=by
 have hxl:xs.length=n * 3:=h.1
 rcases Nat.lt_or_eq_of_le hi with hlt|rfl
 ·rcases iH h with⟨rfl,rfl,rfl⟩|⟨g,c,cur,rfl,hg,hnc,hcm,hcs,htake⟩
  ·omega
  ·rcases Nat.lt_or_ge c (n+1) with hc|hc
   ·refine(Nb g n c i vb xs vs w h hx hv hvb h1 hn hlt hc).mono ?_
    rintro e w' ⟨G,rfl,ho,hb⟩
    exact⟨_,rfl,ho,Fr.of_below hb,fun k hk=>.inr (by simp [Value.ownBlock] at hk;omega)⟩
   ·refine(Na g n c i vb xs vs w h hx hv hvb h1 (fun e=>hne (by rw [e];rfl)) hn hlt hc).mono ?_
    rintro e w' ⟨rfl,ho,hf⟩
    refine⟨_,rfl,ho,hf.mono (fun k hk=>.inl (by simp only [Bl.one] at hk;subst hk;rfl)),fun k hk=>.inl hk⟩
 ·refine(Rj v i vb xs vs w h hv hvb h1 hn).mono ?_
  rintro e w' ⟨v',rfl,A⟩
  refine⟨v',rfl,?_,A.fr,A.lies⟩
  rw [← hxl,List.take_length,List.drop_length,List.append_nil]
  exact A.row
