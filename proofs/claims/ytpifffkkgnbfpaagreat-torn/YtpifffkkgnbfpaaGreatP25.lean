import Derived.Deep.RegionHeld3
import Derived.Test.YtpifffkkgnbfpaaGreatP21
set_option linter.unusedSimpArgs false
set_option linter.unusedVariables false
set_option maxRecDepth 100000
set_option maxHeartbeats 8000000
namespace Go.Proofs.YtpifffkkgnbfpaaGreat.Tree
open Go.RowKit Pages
variable {L:Array Bool} {a:Act} {i:Nat} {w:World}
def Ej (P:Program) (md:Region.Mode) (ops:Array Oper) (Q:Exit→Act→World→Prop) (S:World→Prop) (s:Nat):Nat→Array Bool→Act→World→Prop
 | 0,L,a,w=>Region.ready md ops L=[]∧Q .normal a w
 | n+1,L,a,w=>(Region.ready md ops L=[]→Q .normal a w)∧∀ i∈Region.ready md ops L,wpOp P ops Q i (fun a' w'=>((L.setIfInBounds i true).getD s true=false→S w')∧Ej P md ops Q S s n (L.setIfInBounds i true) a' w') a w
section
variable {P:Program} {md:Region.Mode} {ops:Array Oper} {Q:Exit→Act→World→Prop} {S:World→Prop} {s:Nat}
theorem Ej.any:∀ {n:Nat} {L:Array Bool} {a:Act} {w:World},Ej P md ops Q S s n L a w→wpAny P md ops Q n L a w
 | 0,_,_,_,h=>h
 | _+1,_,_,_,h=>⟨h.1,fun i hi=>wpOp_mono (fun _ _ k=>k.2.any) (h.2 i hi)⟩
def wO (md:Region.Mode) (ops:Array Oper) (s i:Nat):Bool:=((ops[s]?).map (fun o=>o.after.any (fun e=>Region.binds md e&&e.on==i))).getD false
def Iz (md:Region.Mode) (ops:Array Oper) (s i:Nat):Bool:=wO md ops s i||(List.range ops.size).any (fun j=>wO md ops s j&&wO md ops j i)
def Clo (md:Region.Mode) (ops:Array Oper) (L:Array Bool):Prop:=∀ j oj,ops[j]?=some oj→L.getD j false=true→∀ e∈oj.after,Region.binds md e=true→L.getD e.on false=true
def qGd (md:Region.Mode) (ops:Array Oper) (L:Array Bool):Bool:=(List.range ops.size).all (fun j=>!L.getD j false||((ops[j]?).map (fun o=>o.after.all (fun e=>!Region.binds md e||L.getD e.on false))).getD true)
theorem Yd (h:qGd md ops L=true):Clo md ops L:=fun j oj hj hl e he hb=>by
 have h1:=List.all_eq_true.1 h j (List.mem_range.2 (gL hj))
 rw [hj,hl] at h1
 simp only [Option.map_some,Option.getD_some,Bool.not_true,Bool.false_or] at h1
 have h2:=Array.all_eq_true_iff_forall_mem.1 h1 e he
 rw [hb] at h2
 simpa using h2
theorem Ib {j x:Nat} (h:L.getD x false=true):(L.setIfInBounds j true).getD x false=true:=by
 by_cases e:j=x
 ·subst e
  rcases Nat.lt_or_ge j L.size with h'|h'
  ·simp [h']
  ·simp [Array.getElem?_eq_none h'] at h
 ·rw [getD_set_ne false e];exact h
theorem Clo.set {j:Nat} (h:Clo md ops L) (hj:j∈Region.ready md ops L):Clo md ops (L.setIfInBounds j true):=fun k ok hk hl e he hb=>by
 by_cases ek:j=k
 ·subst ek
  obtain⟨_,oj,hoj,hall⟩:=mem_ready.1 hj
  obtain rfl:ok=oj:=Option.some.inj (hk.symm.trans hoj)
  exact Ib (hall e he hb)
 ·rw [getD_set_ne false ek] at hl
  exact Ib (h k ok hk hl e he hb)
theorem Ba {s i:Nat} (h:wO md ops s i=true):∃ o,ops[s]?=some o∧∃ e∈o.after,Region.binds md e=true∧e.on=i:=by
 unfold wO at h
 cases ho:ops[s]? with
 | none=>rw [ho] at h;cases h
 | some o =>
  rw [ho] at h
  simp only [Option.map_some,Option.getD_some] at h
  obtain⟨e,he,hb⟩:=Array.any_eq_true'.1 h
  simp only [Bool.and_eq_true,beq_iff_eq] at hb
  exact⟨o,rfl,e,he,hb⟩
theorem Bc (h0:L.getD i true=false) (h1:L.getD i false=true):False:=by
 rcases Nat.lt_or_ge i L.size with h'|h'
 ·simp [h'] at h0 h1;rw [h0] at h1;cases h1
 ·simp [Array.getElem?_eq_none h'] at h1
theorem Gz (hc:Clo md ops L) (hw:Iz md ops s i=true) (hi:i∈Region.ready md ops L):s ∉ Region.ready md ops L:=by
 intro hs
 obtain⟨_,o,ho,hall⟩:=mem_ready.1 hs
 have h0:=(mem_ready.1 hi).1
 have hd:∀ k,wO md ops s k=true→L.getD k false=true:=fun k hk=>by
  obtain⟨o',ho',e,he,hb,rfl⟩:=Ba hk
  obtain rfl:o'=o:=Option.some.inj (ho'.symm.trans ho)
  exact hall e he hb
 rw [Iz,Bool.or_eq_true] at hw
 rcases hw with h|h
 ·exact Bc h0 (hd i h)
 ·obtain⟨j,_,hj⟩:=List.any_eq_true.1 h
  rw [Bool.and_eq_true] at hj
  obtain⟨h1,h2⟩:=hj
  obtain⟨oj,hoj,e,he,hb,rfl⟩:=Ba h2
  exact Bc h0 (hc j oj hoj (hd j h1) e he hb)
theorem Ei {oi:Oper} {v:Value} (hi:ops[i]?=some oi) (hsel:∀ (j:Nat) (o:Oper) cs b,ops[j]?=some o→o.op≠.select cs b) (hQ:∀ c a w,Q (.panic c) (a.put oi.dst v) w→Q (.panic c) a w) (hw:Iz md ops s i=true) :
  ∀ (n:Nat) (L:Array Bool) (a:Act) (w:World),Clo md ops L→(∀ j oj,ops[j]?=some oj→j≠i→L.getD j true=false→(∀ e∈oj.after,Region.binds md e=true→e.on≠i)→oi.apart ops oj=true)→i∈Region.ready md ops L→L.getD s true=false→YieldsIf P ops S oi v a→S w→Ej P md ops Q S s n (L.setIfInBounds i true) (a.put oi.dst v) w→Ej P md ops Q S s (n+1) L a w
 | 0,L,a,w,_,_,hr,hs,hy,hS,H=>by
  refine⟨fun h=>(by rw [h] at hr;cases hr),fun j hj=>?_⟩
  by_cases e:j=i
  ·subst e;exact hy.wpOp hi hS ⟨fun _=>hS,H⟩
  ·have:=ready_mono hj e
   rw [H.1] at this
   cases this
 | n+1,L,a,w,hc,hf,hr,hs,hy,hS,H=>by
  refine⟨fun h=>(by rw [h] at hr;cases hr),fun j hj=>?_⟩
  by_cases e:j=i
  ·subst e;exact hy.wpOp hi hS ⟨fun _=>hS,H⟩
  ·have hjs:j≠s:=fun e'=>Gz hc hw hr (e'▸hj)
   have his:i≠s:=fun e'=>Gz hc hw hr (e'▸hr)
   obtain⟨hjun,oj,hoj,hall⟩:=mem_ready.1 hj
   have hnot:∀ e∈oj.after,Region.binds md e=true→e.on≠i:=fun e he hb heq=>Bc (mem_ready.1 hr).1 (heq▸hall e he hb)
   have h2:=wpOp_putIf hoj (hf j oj hoj e hjun hnot) (fun cs b=>hsel i oi cs b hi) (fun cs b=>hsel j oj cs b hoj) hQ hy (H.2 j (ready_mono hj e))
   refine wpOp_mono (fun a' w' k=>?_) h2
   have hs1:(L.setIfInBounds j true).getD s true=false:=by rw [getD_set_ne true hjs];exact hs
   have hSw:S w':=k.2.1 (by rw [getD_set_ne true hjs,getD_set_ne true his];exact hs)
   refine⟨fun _=>hSw,Ei hi hsel hQ hw n (L.setIfInBounds j true) a' w' (hc.set hj) (fun q oq hq hqi hun hno=>hf q oq hq hqi ?_ hno) (ready_mono hr (Ne.symm e)) hs1 k.1 hSw ?_⟩
   ·by_cases hjq:j=q
    ·subst hjq;exact hjun
    ·rw [getD_set_ne true hjq] at hun;exact hun
   ·rw [Array.setIfInBounds_comm _ _ e];exact k.2.2
theorem cW {oi:Oper} {v:Value} {n:Nat}    (hi:ops[i]?=some oi) (hs:(Region.noSelect ops&&Region.free md ops L i&&(Region.ready md ops L).contains i&&Iz md ops s i&&!L.getD s true&&qGd md ops L)=true)
  (hQ:∀ c a w,Q (.panic c) (a.put oi.dst v) w→Q (.panic c) a w) (hy:YieldsIf P ops S oi v a) (hS:S w) (h:S w→Ej P md ops Q S s n (L.setIfInBounds i true) (a.put oi.dst v) w):Ej P md ops Q S s (n+1) L a w:=by
 simp only [Bool.and_eq_true,Bool.not_eq_true'] at hs
 obtain⟨⟨⟨⟨⟨h1,h2⟩,h3⟩,h4⟩,h5⟩,h6⟩:=hs
 exact Ei hi (Region.noSelect_spec h1) hQ h4 n L a w (Yd h6) (Region.free_spec hi h2) (by simpa using h3) h5 hy hS (h hS)
theorem gR {o:Oper} {n:Nat}    (hr:Region.ready md ops L=[i]) (ho:ops[i]?=some o)
  (h:∀ K':Act→World→Prop,Go.Shut (∀ a w,((L.setIfInBounds i true).getD s true=false→S w)→Ej P md ops Q S s n (L.setIfInBounds i true) a w→K' a w)→if Region.wanted o (yielded ops a.tmps)=true then Oper.wp P o a w K' Q else K' (a.put o.dst undef) w):Ej P md ops Q S s (n+1) L a w:=by
 refine⟨fun h0=>(by rw [hr] at h0;cases h0),fun j hj=>?_⟩
 rw [hr,List.mem_singleton] at hj
 subst hj
 exact wpOp_step ho (fun K' hK=>h K' (fun a w hS hW=>hK a w ⟨hS,hW⟩))
theorem xY (hr:Region.ready md ops L=[]) (h:Q .normal a w):∀ n,Ej P md ops Q S s n L a w
 | 0=>⟨hr,h⟩
 | _+1=>⟨fun _=>h,by rw [hr];simp⟩
theorem qU {id:Nat}   (s:Nat) (hm:P.follows .mixedOrders=true) (h:Ej P .any ops Q S s ops.size (Array.replicate ops.size false) a w.drew):(Code.region id ops true).wp P Q a w :=
 wp_region_any hm h.any
end
variable {S:Bl} {a:Option Addr} {b n z:Nat} {v:Value} {vs xs:List Value} {w:World}
def nd0:NT→Nd
 | .kept t s=>.mk s t.place [] []
 | .leaf s es=>.mk s 0 es []
 | .bran s _=>.mk s 0 [] []
theorem tS (es:List En):(cV es).map nd0=(eD esz es).map xL:=by rw [cV,List.map_map];rfl
def nC (n:NT):Prop:=∀ t s,n=.kept t s→0<t.place
def Or2 (A B:Bl):Bl:=fun k=>A k∨B k
theorem qEy (β:Nat) (sv lv:Value) (fs:Fs) (hl:(fs.life==0)=false) (root:Int) (ca:Option Addr) (cn cc:Nat) (n:NT) (hn:Ok0 fs n) (hp:nC n) (m:MN) (S:Bl) (w:World) (hf:aG w β sv lv fs) (hm:iA w S (nd0 n) m) (hS:∀ b,S b→b<w.heap.size) :
  Calls Tryz.prog 190 #[.agg (tA β root ca cn cc),.agg #[.string m.lo,.string m.hi,.int .i64 m.place,.slice m.ea m.en m.ec,.slice m.ka m.kn m.kc]] w fun e w' =>
   ∃ lo hi ea ec ka kc,e=.returned (.agg #[.string lo,.string hi,.int .i64 0,.slice ea n.ents0.length ec,.slice ka 0 kc])∧aH w' (Or2 S (New w w')) ea (aM n.ents0)∧n.ents0.length≤ec∧Below w.heap.size w w':=by
 cases n with
 | bran=>exact hn.elim
 | leaf s es =>
  obtain⟨_,_,_,_,_,ms,h1,h2,h3,h4,h5,h6,h7,h8,h9,h10,h11⟩:=hm
  refine(Qq β root ca cn cc m (by simp [h3]) w).mono ?_
  rintro e w' ⟨rfl,hb⟩
  refine⟨m.lo,m.hi,m.ea,m.ec,m.ka,m.kc,?_,(h8.on (vV hb hS)).mono (fun k hk=>.inl hk),h6,hb⟩
  rw [h3,h4,h5];rfl
 | kept t s =>
  cases t with
  | branch=>exact hn.elim
  | leaf p es =>
   obtain⟨_,_,_,_,_,ms,h1,h2,h3,h4,h5,h6,h7,h8,h9,h10,h11⟩:=hm
   have hp0:0<p:=hp _ _ rfl
   have h3':m.place=p:=h3
   have hst:bG fs 0 (.leaf m.place es) ⟨m.lo,m.hi⟩:=by rw [h3',h1,h2];exact hn
   refine(Qr β sv lv fs hl root ca cn cc m (by simp [h3'];omega) es w hst hf).mono ?_
   rintro e w' ⟨ea,ec,rfl,hr,hc,hb⟩
   exact⟨m.lo,m.hi,ea,ec,none,0,rfl,hr.mono (fun k hk=>.inr hk),hc,hb⟩
theorem cO {e:TypeId}     (h:w.ownsRow 0 e z v n xs):∃ a c,v=.slice a n c∧n≤c∧aH w (fun k=>v.ownBlock=some k) a xs:=by
 obtain⟨a,c,rfl⟩:=aO h
 have h0:=h
 obtain⟨h1,h2⟩:=h
 rcases h2 with⟨h3,h4⟩|⟨g,cap,cur,h3,hb,hg,hnc,hcm,hcs,htake⟩
 ·simp only [Value.slice.injEq] at h3
  refine⟨a,c,rfl,by omega,.inl ?_⟩
  have:xs.length=0:=by rw [h1,h4];simp
  exact List.eq_nil_of_length_eq_zero this
 ·simp only [Value.slice.injEq,true_and] at h3
  obtain⟨rfl,rfl⟩:=h3
  refine⟨_,c,rfl,hnc,.inr ⟨g,0,rfl,rfl,fun i u hu=>?_⟩⟩
  obtain⟨g',e1,_,_,e2⟩:=lC h0 hu
  simp only [Option.some.injEq,Addr.mk.injEq,and_true] at e1
  subst e1
  simpa using e2
def Ek (n:Nat) (w:World):Bl:=fun k=>k<w.heap.size∧(k<n∨n+3≤k)
theorem aH.past {w W wn:World}    (h:aH wn (Or2 S (New W wn)) a vs) (hS:∀ b,S b→b<w.heap.size) (h1:w.heap.size+3≤W.heap.size) (h2:w.heap.size≤wn.heap.size):aH wn (Ek w.heap.size wn) a vs :=
 h.mono (fun k hk=>by
  rcases hk with hk|hk
  ·exact⟨jY (hS k hk) h2,.inl (hS k hk)⟩
  ·exact⟨hk.2,.inr (vJ h1 hk.1)⟩)
theorem aH.step {W wn:World}   (h:aH W (Ek n W) a vs) (hb:Below W.heap.size W wn):aH wn (Ek n wn) a vs :=
 (h.on (vV hb (fun k hk=>hk.1))).mono (fun k hk=>⟨jY hk.1 hb.size,hk.2⟩)
theorem cC {b b' o o':Nat} {v u:Value} (hne:b'≠b) (h:w.cell? ⟨b,o,none⟩=some u):(w.setCell ⟨b',o',none⟩ v).cell? ⟨b,o,none⟩=some u:=by
 rw [World.cell?_setCell_other _ _ _ _ (by simp [hne])];exact h
abbrev Zc (w:World) (b:Nat) (v0 v1 v2 v3 v4:Value):World:=((((w.setCell ⟨b,0,none⟩ v0).setCell ⟨b,1,none⟩ v1).setCell ⟨b,2,none⟩ v2).setCell ⟨b,3,none⟩ v3).setCell ⟨b,4,none⟩ v4
theorem Tf (w:World) (b:Nat) (v0 v1 v2 v3 v4:Value):Fr (Bl.one b) w (Zc w b v0 v1 v2 v3 v4) :=
 (((((Fr.refl (Bl.one b) w).setCell (p:=⟨b,0,none⟩) (.inl rfl) _).setCell (p:=⟨b,1,none⟩) (.inl rfl) _).setCell (p:=⟨b,2,none⟩) (.inl rfl) _).setCell (p:=⟨b,3,none⟩) (.inl rfl) _).setCell (p:=⟨b,4,none⟩) (.inl rfl) _
theorem Lk {x0 x1 x2 x3 x4:Value} {t:TypeId} (h:w.heap[b]?=some (.cells #[x0,x1,x2,x3,x4] t)) (v0 v1 v2 v3 v4:Value):(Zc w b v0 v1 v2 v3 v4).heap[b]?=some (.cells #[v0,v1,v2,v3,v4] t):=by
 have:=aD (aD (aD (aD (aD h 0 v0) 1 v1) 2 v2) 3 v3) 4 v4
 simpa using this
theorem Uy (β:Nat) (sv lv:Value) (fs:Fs) (hl:(fs.life==0)=false) (root:Int) (ca:Option Addr) (cn cc:Nat) (a b:NT) (ha:Ok0 fs a) (hb:Ok0 fs b) (hpa:nC a) (hpb:nC b) (ma mb:MN) (S:Bl) (w:World) (hf:aG w β sv lv fs) (hma:iA w S (nd0 a) ma) (hmb:iA w S (nd0 b) mb) (hS:∀ b,S b→b<w.heap.size) (hna:a.ents0.length≤1000) (hnb:b.ents0.length≤1000) :
  Calls Tryz.prog 187 #[.agg (tA β root ca cn cc),ma.val,mb.val] w fun e w' =>
   ∃ v ms,e=.returned v∧w'.ownsRow 0 224 5 v ms.length (aL ms)∧bS w' (New w w') ((iM a b).map nd0) ms∧Below w.heap.size w w'∧∀ k,v.ownBlock=some k→w.heap.size≤k:=by
 obtain⟨W1,hW1⟩:=nM (((w.alloc (.cells (tA β root ca cn cc) 95)).alloc ma.obj).alloc mb.obj)
 have B1:Below w.heap.size w W1:=hW1▸((bA _ _).alloc (by simp) _).alloc (by simp;omega) _
 have t1:W1.heap[w.heap.size]?=some (.cells (tA β root ca cn cc) 95):=hW1▸aB _ (aB _ (aA w _))
 have a1:W1.heap[w.heap.size+1]?=some ma.obj:=by
  rw [← hW1];refine aB _ ?_;have:=aA (w.alloc (.cells (tA β root ca cn cc) 95)) ma.obj;simpa using this
 have b1:W1.heap[w.heap.size+1+1]?=some mb.obj:=by
  rw [← hW1];have:=aA ((w.alloc (.cells (tA β root ca cn cc) 95)).alloc ma.obj) mb.obj;simpa using this
 have z1:W1.heap.size=w.heap.size+3:=by rw [← hW1];simp
 have Z1:Hid (W1.heap.size=w.heap.size+3):=z1
 have hLd:∀ (n:NT) (m:MN),Ok0 fs n→nC n→iA w S (nd0 n) m→∀ W,Below w.heap.size w W→Calls Tryz.prog 190 #[.agg (tA β root ca cn cc),.agg #[.string m.lo,.string m.hi,.int .i64 m.place,.slice m.ea m.en m.ec,.slice m.ka m.kn m.kc]] W fun e w' =>
   ∃ lo hi ea ec ka kc,e=.returned (.agg #[.string lo,.string hi,.int .i64 0,.slice ea n.ents0.length ec,.slice ka 0 kc])∧aH w' (Or2 S (New W w')) ea (aM n.ents0)∧n.ents0.length≤ec∧Below W.heap.size W w':=fun n m hn hp hm W hW =>
  qEy β sv lv fs hl root ca cn cc n hn hp m S W (hf.on (vV hW hf.lies)) (hm.on (vV hW hS)) (fun b h=>jY (hS b h) hW.size)
 have hJw:∀ W,Below (w.heap.size+3) W1 W→Below w.heap.size w W:=fun W h=>B1.trans (h.mono (by omega))
 have hA:=fun W h=>hLd a ma ha hpa hma W (hJw W h)
 have hB:=fun W h=>hLd b mb hb hpb hmb W (hJw W h)
 have hgood:∀ x∈a.ents0++b.ents0,x.good fs:=fun x hx=>(List.mem_append.1 hx).elim ((eX ha).2.2 x) ((eX hb).2.2 x)
 have hJ:Below (w.heap.size+3) W1 W1:=Below.refl _ _
 have hWz:w.heap.size+3≤W1.heap.size:=by omega
 obtain⟨tc0,tc1,tc2⟩:=eU t1
 obtain⟨ac0,ac1,ac2,ac3,ac4⟩:=dR a1
 obtain⟨bc0,bc1,bc2,bc3,bc4⟩:=dR b1
 clear hLd hl z1
 go_enter Tryz.func187,Tryz.ntmps187
 go_wp2
 refine qU (S:=(fun X=>X.cell? ⟨w.heap.size,0,none⟩=some (.pointer (some ⟨β,0,none⟩))∧X.cell? ⟨w.heap.size,1,none⟩=some (.int .i64 root)∧X.cell? ⟨w.heap.size,2,none⟩=some (.slice ca cn cc)∧X.cell? ⟨w.heap.size+1,0,none⟩=some (.string ma.lo)∧X.cell? ⟨w.heap.size+1,1,none⟩=some (.string ma.hi)∧X.cell? ⟨w.heap.size+1,2,none⟩=some (.int .i64 ma.place)∧X.cell? ⟨w.heap.size+1,3,none⟩=some (.slice ma.ea ma.en ma.ec)∧X.cell? ⟨w.heap.size+1,4,none⟩=some (.slice ma.ka ma.kn ma.kc)∧X.cell? ⟨w.heap.size+1+1,0,none⟩=some (.string mb.lo)∧X.cell? ⟨w.heap.size+1+1,1,none⟩=some (.string mb.hi)∧X.cell? ⟨w.heap.size+1+1,2,none⟩=some (.int .i64 mb.place)∧X.cell? ⟨w.heap.size+1+1,3,none⟩=some (.slice mb.ea mb.en mb.ec)∧X.cell? ⟨w.heap.size+1+1,4,none⟩=some (.slice mb.ka mb.kn mb.kc))) 6 (by kernel_rfl) ?_
 have hHeld:=(show ((fun X=>X.cell? ⟨w.heap.size,0,none⟩=some (.pointer (some ⟨β,0,none⟩))∧X.cell? ⟨w.heap.size,1,none⟩=some (.int .i64 root)∧X.cell? ⟨w.heap.size,2,none⟩=some (.slice ca cn cc)∧X.cell? ⟨w.heap.size+1,0,none⟩=some (.string ma.lo)∧X.cell? ⟨w.heap.size+1,1,none⟩=some (.string ma.hi)∧X.cell? ⟨w.heap.size+1,2,none⟩=some (.int .i64 ma.place)∧X.cell? ⟨w.heap.size+1,3,none⟩=some (.slice ma.ea ma.en ma.ec)∧X.cell? ⟨w.heap.size+1,4,none⟩=some (.slice ma.ka ma.kn ma.kc)∧X.cell? ⟨w.heap.size+1+1,0,none⟩=some (.string mb.lo)∧X.cell? ⟨w.heap.size+1+1,1,none⟩=some (.string mb.hi)∧X.cell? ⟨w.heap.size+1+1,2,none⟩=some (.int .i64 mb.place)∧X.cell? ⟨w.heap.size+1+1,3,none⟩=some (.slice mb.ea mb.en mb.ec)∧X.cell? ⟨w.heap.size+1+1,4,none⟩=some (.slice mb.ka mb.kn mb.kc))) W1.drew from ⟨tc0,tc1,tc2,ac0,ac1,ac2,ac3,ac4,bc0,bc1,bc2,bc3,bc4⟩)
 refine cW (i:=0) (v:=.agg (tA β root ca cn cc)) rfl (by kernel_rfl) (fun _ _ _ h=>h) (.inl ⟨by rfl,fun w hSw=>by(try dsimp only at hSw);go_simp⟩) (by assumption) (fun hHeld=>?_)
 try simp only [Act.put,jV,jZ,jX]
 refine cW (i:=1) (v:=.agg #[.string ma.lo,.string ma.hi,.int .i64 ma.place,.slice ma.ea ma.en ma.ec,.slice ma.ka ma.kn ma.kc]) rfl (by kernel_rfl) (fun _ _ _ h=>h) (.inl ⟨by rfl,fun w hSw=>by(try dsimp only at hSw);go_simp⟩) (by assumption) (fun hHeld=>?_)
 try simp only [Act.put,jV,jZ,jX]
 refine cW (i:=3) (v:=.agg (tA β root ca cn cc)) rfl (by kernel_rfl) (fun _ _ _ h=>h) (.inl ⟨by rfl,fun w hSw=>by(try dsimp only at hSw);go_simp⟩) (by assumption) (fun hHeld=>?_)
 try simp only [Act.put,jV,jZ,jX]
 refine cW (i:=4) (v:=.agg #[.string mb.lo,.string mb.hi,.int .i64 mb.place,.slice mb.ea mb.en mb.ec,.slice mb.ka mb.kn mb.kc]) rfl (by kernel_rfl) (fun _ _ _ h=>h) (.inl ⟨by rfl,fun w hSw=>by(try dsimp only at hSw);go_simp⟩) (by assumption) (fun hHeld=>?_)
 try simp only [Act.put,jV,jZ,jX]
 refine gR (i:=2) (by kernel_rfl) rfl (fun K hK=>?_)
 go_simp
 (go_at_call 190;(with_reducible refine jC (hA _ ?_) ?_);(first|exact hJ|exact hJ.drew);rintro e wn ⟨alo,ahi,aea,aec,aka,akc,rfl,aR,aC,hbn⟩;have hJ':=hJ;have hJ:Below (w.heap.size+3) W1 wn:=(by first|exact dC hJ' hWz hbn|exact dC hJ'.drew hWz hbn);have aR:aH wn (Ek w.heap.size wn) aea (aM a.ents0):=aR.past hS (by first|exact hWz|exact vJ hWz hJ'.size) (hJw _ hJ).size;clear hJ';obtain⟨tc0,tc1,tc2⟩:=eU ((hJ.block w.heap.size (by omega)).trans t1);have ab:=(hJ.block (w.heap.size+1) (by omega)).trans a1;have bb:=(hJ.block (w.heap.size+1+1) (by omega)).trans b1;obtain⟨ac0,ac1,ac2,ac3,ac4⟩:=dR ab;obtain⟨bc0,bc1,bc2,bc3,bc4⟩:=dR bb;have afr:=aF ab;have bfr:=aF bb)
 simp only []
 refine hK.out _ _ (fun _=>⟨tc0,tc1,tc2,ac0,ac1,ac2,ac3,ac4,bc0,bc1,bc2,bc3,bc4⟩) ?_
 clear hK K
 try simp only [Act.put,jV,jZ,jX]
 refine gR (i:=5) (by kernel_rfl) rfl (fun K hK=>?_)
 go_simp
 (go_at_call 190;(with_reducible refine jC (hB _ ?_) ?_);(first|exact hJ|exact hJ.drew);rintro e wn ⟨blo,bhi,bea,bec,bka,bkc,rfl,bR,bC,hbn⟩;have hJ':=hJ;have hJ:Below (w.heap.size+3) W1 wn:=(by first|exact dC hJ' hWz hbn|exact dC hJ'.drew hWz hbn);have bR:aH wn (Ek w.heap.size wn) bea (aM b.ents0):=bR.past hS (by first|exact hWz|exact vJ hWz hJ'.size) (hJw _ hJ).size;clear hJ';obtain⟨tc0,tc1,tc2⟩:=eU ((hJ.block w.heap.size (by omega)).trans t1);have ab:=(hJ.block (w.heap.size+1) (by omega)).trans a1;have bb:=(hJ.block (w.heap.size+1+1) (by omega)).trans b1;obtain⟨ac0,ac1,ac2,ac3,ac4⟩:=dR ab;obtain⟨bc0,bc1,bc2,bc3,bc4⟩:=dR bb;have afr:=aF ab;have bfr:=aF bb)
 simp only []
 refine hK.out _ _ (fun _=>⟨tc0,tc1,tc2,ac0,ac1,ac2,ac3,ac4,bc0,bc1,bc2,bc3,bc4⟩) ?_
 clear hK K
 try simp only [Act.put,jV,jZ,jX]
 refine gR (i:=6) (by kernel_rfl) rfl (fun K hK=>?_)
 go_simp
 refine hK.out _ _ (fun e=>by cases e) ?_
 clear hK K
 try simp only [Act.put,jV,jZ,jX]
 refine gR (i:=7) (by kernel_rfl) rfl (fun K hK=>?_)
 go_simp
 refine hK.out _ _ (fun e=>by cases e) ?_
 clear hK K
 try simp only [Act.put,jV,jZ,jX]
 refine xY (by kernel_rfl) ?_ _
 all_goals (first|(have aR2:=aH.step aR hbn;have bR2:=bR)|(have bR2:=aH.step bR hbn;have aR2:=aR))
 all_goals
  have xa5:=Lk ab (.string alo) (.string ahi) (.int .i64 0) (.slice aea a.ents0.length aec) (.slice aka 0 akc)
  have fa5:=Tf wn (w.heap.size+1) (.string alo) (.string ahi) (.int .i64 0) (.slice aea a.ents0.length aec) (.slice aka 0 akc)
  obtain⟨w5,hw5⟩:=nM (Zc wn (w.heap.size+1) (.string alo) (.string ahi) (.int .i64 0) (.slice aea a.ents0.length aec) (.slice aka 0 akc))
  rw [hw5] at xa5 fa5
  have bb5:=fa5.heap bb (oN (by omega))
  have xbS:=Lk bb5 (.string blo) (.string bhi) (.int .i64 0) (.slice bea b.ents0.length bec) (.slice bka 0 bkc)
  have fbS:=Tf w5 (w.heap.size+1+1) (.string blo) (.string bhi) (.int .i64 0) (.slice bea b.ents0.length bec) (.slice bka 0 bkc)
  obtain⟨wS,hwS⟩:=nM (Zc w5 (w.heap.size+1+1) (.string blo) (.string bhi) (.int .i64 0) (.slice bea b.ents0.length bec) (.slice bka 0 bkc))
  rw [hwS] at xbS fbS
  have xaS:=fbS.heap xa5 (oN (by omega))
  have FS:Fr (fun k=>k=w.heap.size+1∨k=w.heap.size+1+1) wn wS:=(fa5.mono (fun k hk=>.inl (.inl hk))).trans (fbS.mono (fun k hk=>.inl (.inr hk)))
  have aRS:aH wS (Ek w.heap.size wn) aea (aM a.ents0):=aR2.on (FS.on (fun k hk=>⟨hk.1,fun e=>by have:=hk.2;omega⟩))
  have bRS:aH wS (Ek w.heap.size wn) bea (aM b.ents0):=bR2.on (FS.on (fun k hk=>⟨hk.1,fun e=>by have:=hk.2;omega⟩))
  have hwn:=(hJw _ hJ).size
  have BS:Below w.heap.size w wS:=(hJw _ hJ).trans (FS.below (by omega) (fun k hk=>by omega))
  have hszS:=FS.size
  obtain⟨sa0,sa1,sa2,sa3,sa4⟩:=dR xaS
  obtain⟨sb0,sb1,sb2,sb3,sb4⟩:=dR xbS
  obtain⟨wA,hwA⟩:=nM (wS.alloc (.cells #[.slice aea a.ents0.length aec,.slice bea b.ents0.length bec] 83))
  have bA:Below wS.heap.size wS wA:=hwA▸(bA _ _)
  have xA:wA.heap[wS.heap.size]?=some (.cells #[.slice aea a.ents0.length aec,.slice bea b.ents0.length bec] 83):=hwA▸aA wS _
  have zA:=(gL xA)
  have hCc:=Oj [⟨aea,aec,a.ents0⟩,⟨bea,bec,b.ents0⟩] (some ⟨wS.heap.size,0,none⟩) 2 (fun k=>k<wA.heap.size) wA
   (.inr ⟨wS.heap.size,0,rfl,zA,fun i u hu=>by
    rcases i with _|_|i
    ·simp [Pc.val] at hu;subst hu;simp [World.cell?,xA]
    ·simp [Pc.val] at hu;subst hu;simp [World.cell?,xA]
    ·simp at hu⟩)
   (fun q hq=>by
    simp only [List.mem_cons,List.not_mem_nil,or_false] at hq
    rcases hq with rfl|rfl
    ·exact⟨aC,(aRS.on (vV bA (fun k hk=>by have:=hk.1;omega))).mono (fun k hk=>by have:=hk.1;have:=bA.size;omega)⟩
    ·exact⟨bC,(bRS.on (vV bA (fun k hk=>by have:=hk.1;omega))).mono (fun k hk=>by have:=hk.1;have:=bA.size;omega)⟩)
   (fun k hk=>hk) (by simp [lens];omega) (by simp) (by simp)
  have hlens:lens [(⟨aea,aec,a.ents0⟩:Pc En),⟨bea,bec,b.ents0⟩]=(a.ents0++b.ents0).length:=by simp [lens]
  have hflat : [(⟨aea,aec,a.ents0⟩:Pc En),⟨bea,bec,b.ents0⟩].flatMap (·.l)=a.ents0++b.ents0:=by simp
  rw [hlens,hflat] at hCc
  obtain⟨ab0,hab0⟩:=nM (a.ents0++b.ents0)
  rw [hab0] at hCc
  have HG:Hid (∀ x∈ab0,x.good fs):=by rw [← hab0];exact hgood
  have HLn:Hid (ab0.length≤1000000):=by show _≤_;rw [← hab0,jK];omega
  have HTG:Hid ((iM a b).map nd0=(eD esz ab0).map xL):=by show _=_;rw [iM,tS,hab0]
  have hwAf:wA.heap.size=wS.heap.size+1:=by rw [← hwA];simp
  have BA:Below w.heap.size w wA:=BS.trans (bA.mono (by have:=BS.size;omega))
  clear xa5 fa5 bb5 fbS FS aR bR aR2 bR2 ac0 ac1 ac2 ac3 ac4 bc0 bc1 bc2 bc3 bc4 ab bb afr bfr tc0 tc1 tc2 hab0 hlens hflat hwAf
  unfold Zc at hw5 hwS
  rw [hw5,hwS]
  go_wp2_with (first
   | (go_at_call 191;(with_reducible refine jC hCc ?_);rintro e wC ⟨v,rfl,hown,hbC,hlies⟩;obtain⟨va,vc,rfl,hvc,hrow⟩:=cO hown;have hNL:=oD va vc ab0 (fun k=>k<wC.heap.size∧wA.heap.size≤k) wC (hrow.mono (fun k hk=>⟨aX hown hk,hlies k hk⟩)) (fun k hk=>hk.1) HLn.out hvc (fun x hx=>pH (HG.out x hx)) (nX HG.out))
   | (go_at_call 162;(with_reducible refine jC hNL ?_);rintro e wL ⟨vL,qs,rfl,hoL,hql,hqr,hbL,hlL⟩))
  go_ret
  have hsz1:=BA.size
  have hsz2:=hbC.size
  have hsz3:=hbL.size
  refine⟨_,qs.map kI,rfl,by rw [List.length_map];exact hoL,?_,(BA.trans (hbC.mono hsz1)).trans (hbL.mono (by omega)),fun k hk=>vJ (by omega) (hlL k hk)⟩
  rw [HTG.out,← hql]
  exact(xK hqr).mono (fun k hk=>⟨by have:=hk.2;omega,by have:=hk.1;omega⟩)
theorem qEq {fs:Fs} {n:NT} (hn:Ok0 fs n) (hp:nC n) {m:MN}   (hm:iA w S (nd0 n) m) (hS:∀ b,S b→b<w.heap.size) (hlen:n.ents0.length≤1000) :
  Calls Tryz.prog 186 #[.agg #[.string m.lo,.string m.hi,.int .i64 m.place,.slice m.ea m.en m.ec,.slice m.ka m.kn m.kc]] w fun e w'=>e=.returned (.bool (fR n))∧Below w.heap.size w w':=by
 cases n with
 | bran=>exact hn.elim
 | leaf s es =>
  obtain⟨_,_,_,_,_,ms,h1,h2,h3,h4,h5,h6,h7,h8,h9,h10,h11⟩:=hm
  have e0:ms=[]:=List.eq_nil_of_length_eq_zero h10
  subst e0
  refine(uO m es [] S w h4 h5 h6 h7 h8 h9 hS (by have:es.length≤1000:=hlen;omega) (by simp) (fun x hx=>pH (hn.2.2.2.2 x hx)) (by simp)).mono ?_
  rintro e w' ⟨rfl,hb⟩
  refine⟨?_,hb⟩
  refine congrArg (fun b=>Ending.returned (.bool b)) ?_
  rw [h3,Bool.eq_iff_iff];simp [fR,Tb]<;>exact decide_eq_true_iff
 | kept t s =>
  obtain⟨_,_,_,_,_,ms,h1,h2,h3,h4,h5,h6,h7,h8,h9,h10,h11⟩:=hm
  have e0:ms=[]:=List.eq_nil_of_length_eq_zero h10
  subst e0
  refine(uO m [] [] S w h4 h5 h6 h7 h8 h9 hS (by simp) (by simp) (by simp) (by simp)).mono ?_
  rintro e w' ⟨rfl,hb⟩
  refine⟨?_,hb⟩
  have h0:0<t.place:=hp t s rfl
  have h3':m.place=t.place:=h3
  have:(m.place==0)=false:=by rw [h3'];simp;omega
  rw [this];rfl
theorem Nl {α β:Type} (f:β→α→β) (b:β) (l:List α) (j:Nat) (h:j<l.length):(l.take (j+1)).foldl f b=f ((l.take j).foldl f b) l[j]:=by
 rw [List.take_succ_eq_append_getElem h,List.foldl_append];rfl
abbrev Fw (tog:NT→NT→List NT) (ns:List NT) (j:Nat):List NT:=(ns.take j).foldl (Hv tog) []
def qEz:Value→Nat
 | .slice _ n _=>n
 | _=>0
def Apart (S:Bl) (n:Nat) (v:Value) (w:World):Bl:=fun k=>(S k∨(n≤k∧k<w.heap.size))∧v.ownBlock≠some k
theorem qCw {n0:Nat} {wr wX w3:World} {va vb v3:Value} {E:TypeId} {z n m:Nat} {xs news:List Value} {acc new:List Nd} {rs msn:List MN} {Q:Bl} (hS:∀ b,S b→b<wr.heap.size) (hN:bS wr (Apart S n0 va wr) acc rs) (hon:Below wr.heap.size wr wX) (hnew:bS wX Q new msn) (hQ:∀ k,Q k→(S k∨n0≤k)∧k<wX.heap.size∧va.ownBlock≠some k) (hvb:vb.ownBlock=va.ownBlock) (A:lU E z vb n xs news m wX v3 w3) :
  bS w3 (Apart S n0 v3 w3) (acc++new) (rs++msn):=by
 have hsz:=hon.size
 have hsz3:=A.fr.size
 have key:∀ k,k<wX.heap.size→va.ownBlock≠some k→v3.ownBlock≠some k:=fun k h1 h2 h3=>by
  rcases A.lies k h3 with h|h
  ·exact h2 (hvb▸h)
  ·omega
 have hApL:∀ b,Apart S n0 va wr b→b<wr.heap.size:=fun b h=>h.1.elim (hS b) (fun h=>h.2)
 refine bS.append ?_ ?_
 ·have h1:=hN.on (vV hon hApL)
  have h2:=h1.on (A.fr.on (fun k hk=>⟨jY (hApL k hk) hsz,fun e=>hk.2 (hvb▸e)⟩))
  refine h2.mono (fun k hk=>⟨hk.1.imp id (fun h=>⟨h.1,by have:=h.2;omega⟩),key k (jY (hApL k hk) hsz) hk.2⟩)
 ·have h2:=hnew.on (A.fr.on (fun k hk=>⟨(hQ k hk).2.1,fun e=>(hQ k hk).2.2 (hvb▸e)⟩))
  refine h2.mono (fun k hk=>⟨(hQ k hk).1.imp id (fun h=>⟨h,by have:=(hQ k hk).2.1;omega⟩),key k (hQ k hk).2.1 (hQ k hk).2.2⟩)
theorem Cc {e:TypeId}     (h:w.ownsRow 0 e z v n xs) (hn:0<n):∃ g c,v=.slice (some ⟨g,0,none⟩) n c∧g<w.heap.size∧∀ j u,xs[j]?=some u→w.cell? ((⟨g,0,none⟩:Addr).add j)=some u:=by
 have h0:=h
 obtain⟨h1,h2⟩:=h
 rcases h2 with⟨_,h4⟩|⟨g,cap,cur,h3,hb,hg,hnc,hcm,hcs,htake⟩
 ·omega
 ·refine⟨g,cap,h3,(gL hg),fun j u hu=>?_⟩
  subst h3
  obtain⟨g',e1,_,_,e2⟩:=lC h0 hu
  simp only [Option.some.injEq,Addr.mk.injEq,and_true] at e1
  subst e1
  have e:(⟨g,0,none⟩:Addr).add j=⟨g,j,none⟩:=by unfold Addr.add;split<;>simp_all
  rw [e];exact e2
theorem qCm {fs:Fs} {a b:NT} (ha:Ok0 fs a) (hb:Ok0 fs b):iM a b≠[]:=by
 intro h
 have hg:∀ x∈a.ents0++b.ents0,x.good fs:=fun x hx=>(List.mem_append.1 hx).elim ((eX ha).2.2 x) ((eX hb).2.2 x)
 have:=gH hg
 rw [iM] at h
 rw [h] at this
 have h0:a.ents0++b.ents0=[]:=this.symm
 exact(eX ha).1 (List.append_eq_nil_iff.1 h0).1
theorem Yi (g i:Nat):(⟨g,0,none⟩:Addr).add i=⟨g,i,none⟩:=by unfold Addr.add;split<;>simp_all
theorem Jm {n c:Nat} {rs:List MN} (h:w.ownsRow 0 224 5 (.slice a n c) n (aL rs)) {i:Nat} {m:MN} (hi:rs[i]?=some m):∃ g,a=some ⟨g,0,none⟩∧g<w.heap.size∧n≤c∧w.cell? ⟨g,i * 5,none⟩=some (.string m.lo)∧w.cell? ⟨g,i * 5+1,none⟩=some (.string m.hi)∧w.cell? ⟨g,i * 5+2,none⟩=some (.int .i64 m.place)∧w.cell? ⟨g,i * 5+3,none⟩=some (.slice m.ea m.en m.ec)∧w.cell? ⟨g,i * 5+4,none⟩=some (.slice m.ka m.kn m.kc):=by
 obtain⟨hi1,hi2⟩:=List.getElem?_eq_some_iff.1 hi
 have hc:∀ o (u:Value),o<5→m.cells[o]?=some u→∃ g,a=some ⟨g,0,none⟩∧g<w.heap.size∧n≤c∧w.cell? ⟨g,i * 5+o,none⟩=some u:=fun o u ho hu=>sG h (by rw [lZ hi1 ho,hi2];exact hu)
 obtain⟨g,rfl,h1,h2,e0⟩:=hc 0 _ (by decide) rfl
 refine⟨g,rfl,h1,h2,e0,?_,?_,?_,?_⟩
 ·obtain⟨g',hg,_,_,e⟩:=hc 1 _ (by decide) rfl;cases hg;exact e
 ·obtain⟨g',hg,_,_,e⟩:=hc 2 _ (by decide) rfl;cases hg;exact e
 ·obtain⟨g',hg,_,_,e⟩:=hc 3 _ (by decide) rfl;cases hg;exact e
 ·obtain⟨g',hg,_,_,e⟩:=hc 4 _ (by decide) rfl;cases hg;exact e
structure InJ (tog:NT→NT→List NT) (J:List NT→Prop) (nd:NT→Nd) (ns:List NT) (j:Nat) (S:Bl) (n0:Nat) (a b:Value) (wq:World) (A N:List NT) (ra rn:List MN):Prop where
 inv:J (A++(N++ns.drop (j+1)))
 goes:rL tog A N=Fw tog ns (j+1)
 pos:0<rn.length
 arow:wq.ownsRow 0 224 5 a ra.length (aL ra)
 nrow:wq.ownsRow 0 224 5 b rn.length (aL rn)
 na:bS wq (Apart S n0 a wq) (A.map nd) ra
 nn:bS wq (Apart S n0 a wq) (N.map nd) rn
 new:∀ k,a.ownBlock=some k→n0+1≤k
theorem qDg (β:Nat) (sv lv:Value) (fs:Fs) (root:Int) (ca:Option Addr) (cn cc:Nat) (nd:NT→Nd) (tog:NT→NT→List NT) (J:List NT→Prop)
  (hJt:∀ A l n B,J (A++l :: n :: B)→J (A++(tog l n++B))∧tog l n≠[])
  (hJc:∀ L,J L→L.length≤1000000)
  (hsm:∀ L,J L→∀ n∈L,∀ (m:MN) (S:Bl) (w:World),iA w S (nd n) m→(∀ b,S b→b<w.heap.size)→Calls Tryz.prog 186 #[m.val] w fun e w'=>e=.returned (.bool (fR n))∧Below w.heap.size w w')
  (htg:∀ A l n B,J (A++l :: n :: B)→∀ (ma mb:MN) (S:Bl) (w:World),aG w β sv lv fs→iA w S (nd l) ma→iA w S (nd n) mb→(∀ b,S b→b<w.heap.size)→Calls Tryz.prog 187 #[.agg (tA β root ca cn cc),ma.val,mb.val] w fun e w' =>
   ∃ v ms,e=.returned v∧w'.ownsRow 0 224 5 v ms.length (aL ms)∧bS w' (Or2 S (New w w')) ((tog l n).map nd) ms∧Below w.heap.size w w'∧∀ k,v.ownBlock=some k→w.heap.size≤k)
  (ns:List NT) (ms:List MN) (na:Option Addr) (nc:Nat) (S:Bl) (w:World) (hf:aG w β sv lv fs) (hJ:J ns)
  (hR:aH w S na (aL ms)) (hm:bS w S (ns.map nd) ms) (hS:∀ b,S b→b<w.heap.size) (hnc:ns.length≤nc) :
  Calls Tryz.prog 177 #[.agg (tA β root ca cn cc),.slice na ns.length nc] w fun e w' =>
   ∃ v rs,e=.returned v∧w'.ownsRow 0 224 5 v rs.length (aL rs)∧bS w' (Apart S w.heap.size v w') ((iK tog ns).map nd) rs∧Below w.heap.size w w'∧∀ k,v.ownBlock=some k→w.heap.size≤k:=by
 have hml:ms.length=ns.length:=by rw [hm.1,List.length_map]
 have hn:=hJc ns hJ
 obtain⟨W1,hW1⟩:=nM (w.alloc (.cells (tA β root ca cn cc) 95))
 have B1:Below w.heap.size w W1:=hW1▸(bA _ _)
 have t1:W1.heap[w.heap.size]?=some (.cells (tA β root ca cn cc) 95):=hW1▸aA w _
 have z1:=(gL t1)
 go_enter Tryz.func177,Tryz.ntmps177
 go_wp2
 go_loopw [5,12] (fun a b wr=>∃ (j:Nat) (rs:List MN),b=.int .i64 j∧j≤ns.length∧Hid (J (Fw tog ns j++ns.drop j))∧wr.ownsRow 0 224 5 a rs.length (aL rs)∧bS wr (Apart S w.heap.size a wr) ((Fw tog ns j).map nd) rs∧Below (w.heap.size+1) W1 wr∧∀ k,a.ownBlock=some k→w.heap.size+1≤k) (fun _ b _=>ns.length-(intOf b).toNat)
 case atStart=>exact⟨0,[],rfl,Nat.zero_le _,hJ,World.ownsRow_nil _ _ _ _,bS.nil _ _,hW1▸Below.refl _ _,by simp [Value.ownBlock]⟩
 case round =>
  obtain⟨j,rs,rfl,hj,hJj,ho,hN,hB,hk⟩:=hrel
  obtain⟨aa,ac,rfl⟩:=aO ho
  have zwr:=hB.size
  have hwrw:Below w.heap.size w wr:=B1.trans (hB.mono (by omega))
  by_cases hlt:j<ns.length
  ·obtain⟨n,hnj⟩:=nM (ns[j])
   obtain⟨m,hmj⟩:=nM (ms[j]'(by omega))
   have hlt2:j<ms.length:=by omega
   obtain⟨rb,ro,hna,hrb,n0,n1,n2,n3,n4⟩:=(hR.on (vV hwrw hS)).nod hlt2
   rw [hmj] at n0 n1 n2 n3 n4
   subst hna
   have hnm:iA wr S (nd n) m:=(hm.2 j (nd n) m (by rw [List.getElem?_map,jQ hlt,hnj];rfl) (by rw [jQ hlt2,hmj])).on (vV hwrw hS)
   obtain⟨lo,hi,pl,ea,en,ec,ka,kn,kc⟩:=m
   dsimp only at n0 n1 n2 n3 n4
   have hSw:∀ b,S b→b<wr.heap.size:=fun b h=>jY (hS b h) hwrw.size
   obtain⟨WC,hWC⟩:=nM ((wr.alloc (.cells #[.string lo,.string hi,.int .i64 pl,.slice ea en ec,.slice ka kn kc] 224)).alloc (.cells #[.string lo,.string hi,.int .i64 pl,.slice ea en ec,.slice ka kn kc] 224))
   have bC:Below wr.heap.size wr WC:=hWC▸(bA _ _).alloc (by simp) _
   have zC:WC.heap.size=wr.heap.size+2:=by rw [← hWC];simp
   have oC:WC.ownsRow 0 224 5 (.slice (some ⟨wr.heap.size+1,0,none⟩) 1 1) 1 (aL [⟨lo,hi,pl,ea,en,ec,ka,kn,kc⟩]):=by
    rw [← hWC]
    have:=World.ownsRow_lit (base:=0) (e:=224) (size:=5) (wr.alloc (.cells #[.string lo,.string hi,.int .i64 pl,.slice ea en ec,.slice ka kn kc] 224)) #[.string lo,.string hi,.int .i64 pl,.slice ea en ec,.slice ka kn kc] 1 (Nat.zero_le _) (by decide) rfl
    simpa [aL,MN.cells] using this
   have hApL:∀ b,Apart S w.heap.size (.slice aa rs.length ac) wr b→b<wr.heap.size:=fun b h=>h.1.elim (hSw b) (fun h=>h.2)
   have I0:InJ tog J nd ns j S w.heap.size (.slice aa rs.length ac) (.slice (some ⟨wr.heap.size+1,0,none⟩) 1 1) WC (Fw tog ns j) [n] rs [⟨lo,hi,pl,ea,en,ec,ka,kn,kc⟩]:=by
    refine⟨?_,?_,Nat.one_pos,bK ho (vV (Y:=fun k=>k<wr.heap.size) bC (fun k h=>h)) (fun k hk=>aX ho hk),oC,(hN.on (vV bC hApL)).mono (fun k hk=>⟨hk.1.imp id (fun h=>⟨h.1,by omega⟩),hk.2⟩),((bS.one hnm).on (vV bC hSw)).mono (fun k h=>⟨.inl h,fun e=>by have h1:=hk k e;have h2:=hS k h;omega⟩),hk⟩
    ·have h:=hJj.out
     rw [List.drop_eq_getElem_cons hlt,hnj] at h
     exact h
    ·show _=(ns.take (j+1)).foldl (Hv tog) []
     rw [Nl _ _ _ _ hlt,hnj];rfl
   have hBC:Below (w.heap.size+1) W1 WC:=hB.trans (bC.mono (by omega))
   clear hnj hmj oC hN hJj
   have q0:=dR (aA wr (.cells #[.string lo,.string hi,.int .i64 pl,.slice ea en ec,.slice ka kn kc] 224))
   obtain⟨q0,q1,q2,q3,q4⟩:=q0
   go_wp2
   go_loopw [5,8] (fun a b wq=>∃ (A N:List NT) (ra rn:List MN),InJ tog J nd ns j S w.heap.size a b wq A N ra rn∧Below (w.heap.size+1) W1 wq) (fun a _ _=>qEz a)
   case atStart=>exact⟨_,_,_,_,I0,hBC⟩
   case round =>
    obtain⟨A,N,ra,rn,I,hB⟩:=hrel
    obtain⟨aa,ac,rfl⟩:=aO I.arow
    obtain⟨ba,bc,rfl⟩:=aO I.nrow
    have hpos:=I.pos
    have harow:=I.arow
    have hwq:Below w.heap.size w wr:=B1.trans (hB.mono (by omega))
    have zwr:=hB.size
    have hSw:∀ b,S b→b<wr.heap.size:=fun b h=>jY (hS b h) hwq.size
    have hApL:∀ b,Apart S w.heap.size (.slice aa ra.length ac) wr b→b<wr.heap.size:=fun b h=>h.1.elim (hSw b) (fun h=>h.2)
    have hAl:ra.length=A.length:=by have:=I.na.1;rwa [List.length_map] at this
    have hNl:rn.length=N.length:=by have:=I.nn.1;rwa [List.length_map] at this
    have hcnt:ra.length+rn.length≤1000000:=by
     have:=hJc _ I.inv
     rw [jK,jK] at this;omega
    obtain⟨gb,hba,hbl,hbc,hbcell⟩:∃ gb,ba=some ⟨gb,0,none⟩∧gb<wr.heap.size∧rn.length≤bc∧∀ i u,(aL rn)[i]?=some u→wr.cell? ((⟨gb,0,none⟩:Addr).add i)=some u:=by
     obtain⟨g,c,h1,h2,h3⟩:=Cc I.nrow hpos
     cases h1
     obtain⟨m0,hm0⟩:∃ m0,rn[0]?=some m0:=⟨rn[0],jQ hpos⟩
     obtain⟨g',h4,_,h5,_⟩:=Jm I.nrow hm0
     exact⟨g,rfl,h2,h5,h3⟩
    subst hba
    -- the end of the round
    have HEND:Hid (rL tog A N=A++N→∀ (v3:Value) (w3 wX:World),Below wr.heap.size wr wX→lU 224 5 (.slice aa ra.length ac) ra.length (aL ra) (aL rn) rn.length wX v3 w3→Hid (J (Fw tog ns (j+1)++ns.drop (j+1)))∧w3.ownsRow 0 224 5 v3 (ra++rn).length (aL (ra++rn))∧bS w3 (Apart S w.heap.size v3 w3) ((Fw tog ns (j+1)).map nd) (ra++rn)∧Below (w.heap.size+1) W1 w3∧∀ k,v3.ownBlock=some k→w.heap.size+1≤k):=by
     intro hE v3 w3 wX hX A3
     have e:Fw tog ns (j+1)=A++N:=I.goes.symm.trans hE
     have zX:=hX.size
     refine⟨?_,?_,?_,(hB.trans (hX.mono (by omega))).trans (A3.fr.below (by omega) I.new),?_⟩
     ·rw [e,List.append_assoc];exact I.inv
     ·have:=A3.row
      rw [jK,kT];exact this
     ·rw [e,List.map_append]
      exact qCw hSw I.na hX (I.nn.on (vV hX hApL)) (fun k hk=>⟨hk.1.imp id (fun h=>h.1),jY (hApL k hk) zX,hk.2⟩) rfl A3
     ·intro k h
      rcases A3.lies k h with h|h
      ·exact I.new k h
      ·omega
    by_cases hN1:rn.length=1
    ·obtain⟨mn,rfl⟩:∃ mn,rn=[mn]:=List.length_eq_one_iff.1 hN1
     obtain⟨n',rfl⟩:∃ n',N=[n']:=List.length_eq_one_iff.1 (hNl.symm.trans hN1)
     rcases List.eq_nil_or_concat ra with rfl|⟨ra',ml,rfl⟩
     ·-- none is ahead
      have hA0:A=[]:=List.eq_nil_of_length_eq_zero hAl.symm
      have hE:=HEND.out (by rw [hA0];rfl)
      clear HEND I hAl hNl hA0
      simp only [List.length_singleton,jN] at *
      go_wp2_with (at_builtin;refine Aw wr rfl (.tmp 54) (.tmp 55) 221 224 _ 5 88 rfl Tryz.underlying221 kK rfl (by decide) (.slice aa 0 ac) 0 (aL []) rfl harow ⟨gb,0,none⟩ 1 bc (aL [mn]) rfl rfl hbcell (mP [mn]) (by omega) (by omega) ?_;intro v3 w3 A3;obtain⟨g3,k3,rfl⟩:=A3.shape (by omega))
      obtain⟨h1,h2,h3,h4,h5⟩:=hE _ _ _ (Below.refl _ _) A3
      exact⟨⟨j+1,_,by go_num,by omega,h1,h2,h3,h4,h5⟩,by simp [intOf];omega⟩
     ·simp only [List.concat_eq_append] at *
      obtain⟨L,hL⟩:=nM (ra'.length)
      have hLr:(ra'++[ml]).length=L+1:=by simp [hL]
      obtain⟨A',l,rfl⟩:∃ A' l,A=A'++[l]:=by
       rcases List.eq_nil_or_concat A with h|⟨a,b,h⟩
       ·rw [h,hLr] at hAl;simp at hAl
       ·exact⟨a,b,by rw [h,List.concat_eq_append]⟩
      have hA':A'.length=L:=by rw [hLr] at hAl;simp at hAl;omega
      have hlm:iA wr (Apart S w.heap.size (.slice aa (ra'++[ml]).length ac) wr) (nd l) ml:=I.na.2 L (nd l) ml (by rw [List.map_append,List.getElem?_append_right (by simp;omega)];simp [hA']) (by rw [List.getElem?_append_right (by omega)];simp [hL])
      have hnm':iA wr (Apart S w.heap.size (.slice aa (ra'++[ml]).length ac) wr) (nd n') mn:=I.nn.2 0 (nd n') mn rfl rfl
      have hNA:bS wr (Apart S w.heap.size (.slice aa (ra'++[ml]).length ac) wr) (A'.map nd) ra':=by
       have:=I.na.take L
       rw [List.map_append,List.take_append_of_le_length (by simp [hA']),List.take_append_of_le_length (by omega),List.take_of_length_le (by simp [hA']),List.take_of_length_le (by omega)] at this
       exact this
      have hinv:J (A'++l :: n' :: ns.drop (j+1)):=by have:=I.inv;simpa using this
      have hsl:=fun W (hW:Below wr.heap.size wr W)=>hsm _ hinv l (by simp) ml _ W (hlm.on (vV hW hApL)) (fun b h=>jY (hApL b h) hW.size)
      have hsn:=fun W (hW:Below wr.heap.size wr W)=>hsm _ hinv n' (by simp) mn _ W (hnm'.on (vV hW hApL)) (fun b h=>jY (hApL b h) hW.size)
      have hfr:aG wr β sv lv fs:=hf.on (vV hwq hf.lies)
      have hTG:=fun X (hX:Below wr.heap.size wr X)=>htg _ _ _ _ hinv ml mn _ X (hfr.on (vV hX hfr.lies)) (hlm.on (vV hX hApL)) (hnm'.on (vV hX hApL)) (fun b h=>jY (hApL b h) hX.size)
      obtain⟨g,hg,hgl,hgc,e0,e1,e2,e3,e4⟩:=Jm I.arow (i:=L) (m:=ml) (by rw [List.getElem?_append_right (by omega)];simp [hL])
      subst hg
      obtain⟨gb',hgb,_,_,q0,q1,q2,q3,q4⟩:=Jm I.nrow (i:=0) (m:=mn) rfl
      cases hgb
      obtain⟨llo,lhi,lpl,lea,len,lec,lka,lkn,lkc⟩:=ml
      obtain⟨lo,hi,pl,ea,en,ec,ka,kn,kc⟩:=mn
      have t1':wr.heap[w.heap.size]?=some (.cells (tA β root ca cn cc) 95):=(hB.block _ (by omega)).trans t1
      have HMK:Hid (∀ X,Below wr.heap.size wr X→(X.cell? ⟨w.heap.size,0,none⟩=some (.pointer (some ⟨β,0,none⟩))∧X.cell? ⟨w.heap.size,1,none⟩=some (.int .i64 root)∧X.cell? ⟨w.heap.size,2,none⟩=some (.slice ca cn cc))∧X.ownsRow 0 224 5 (.slice (some ⟨g,0,none⟩) (ra'++[(⟨llo,lhi,lpl,lea,len,lec,lka,lkn,lkc⟩:MN)]).length ac) (ra'++[(⟨llo,lhi,lpl,lea,len,lec,lka,lkn,lkc⟩:MN)]).length (aL (ra'++[⟨llo,lhi,lpl,lea,len,lec,lka,lkn,lkc⟩]))∧(X.cell? ⟨g,L * 5,none⟩=some (.string llo)∧X.cell? ⟨g,L * 5+1,none⟩=some (.string lhi)∧X.cell? ⟨g,L * 5+2,none⟩=some (.int .i64 lpl)∧X.cell? ⟨g,L * 5+3,none⟩=some (.slice lea len lec)∧X.cell? ⟨g,L * 5+4,none⟩=some (.slice lka lkn lkc))∧(X.cell? ⟨gb,0,none⟩=some (.string lo)∧X.cell? ⟨gb,1,none⟩=some (.string hi)∧X.cell? ⟨gb,2,none⟩=some (.int .i64 pl)∧X.cell? ⟨gb,3,none⟩=some (.slice ea en ec)∧X.cell? ⟨gb,4,none⟩=some (.slice ka kn kc))):=by
       intro X hX
       have cX:∀ {b o:Nat} {u:Value},b<wr.heap.size→wr.cell? ⟨b,o,none⟩=some u→X.cell? ⟨b,o,none⟩=some u:=fun hb h=>by rw [World.cell?_of_block (w:=wr) (hX.block _ hb)];exact h
       exact⟨eU ((hX.block _ (gL t1')).trans t1'),bK I.arow (vV (Y:=fun k=>k<wr.heap.size) hX (fun k h=>h)) (fun k hk=>aX I.arow hk),⟨cX hgl e0,cX hgl e1,cX hgl e2,cX hgl e3,cX hgl e4⟩,⟨cX hbl q0,cX hbl q1,cX hbl q2,cX hbl q3,cX hbl q4⟩⟩
      obtain⟨tz0,tz1,tz2⟩:=eU t1'
      simp only [hLr,Nat.zero_mul,Nat.zero_add,List.length_singleton] at *
      have hw1:IntKind.i64.wrap (((L+1:Nat):Int)-1)=(L:Int):=by rw [IntKind.wrap_i64];omega
      have hnneg:¬ (L:Int)<0:=by omega
      have hbb:Below wr.heap.size wr wr:=Below.refl _ _
      have HBC:Hid (∀ X,Below wr.heap.size wr X→∀ i u,(aL [(⟨lo,hi,pl,ea,en,ec,ka,kn,kc⟩:MN)])[i]?=some u→X.cell? ((⟨gb,0,none⟩:Addr).add i)=some u):=fun X hX i u hu=>by
       have h:=hbcell i u hu
       rw [Yi] at h ⊢
       rw [World.cell?_of_block (w:=wr) (hX.block _ hbl)];exact h
      dsimp only [MN.val] at hsl hsn hTG
      have HTG:Hid (∀ X,Below wr.heap.size wr X→_):=hTG
      clear hTG
      by_cases hgo:fR l=true∨fR n'=true
      ·-- one of the two is small
       have HGO:Hid (rL tog A' (tog l n')=Fw tog ns (j+1)):=(Xk hgo).symm.trans I.goes
       have HJ2:Hid (J (A'++(tog l n'++ns.drop (j+1)))):=(hJt _ _ _ _ hinv).1
       have HNE:Hid (tog l n'≠[]):=(hJt _ _ _ _ hinv).2
       have HNW:Hid (∀ k,(Value.slice (some ⟨g,0,none⟩) L ac).ownBlock=some k→w.heap.size+1≤k):=I.new
       have HNA:Hid (bS wr (Apart S w.heap.size (.slice (some ⟨g,0,none⟩) L ac) wr) (A'.map nd) ra'):=hNA
       have HCUT:Hid (∀ {X:World},X.ownsRow 0 224 5 (.slice (some ⟨g,0,none⟩) L ac) L ((aL (ra'++[⟨llo,lhi,lpl,lea,len,lec,lka,lkn,lkc⟩])).take (L * 5))→X.ownsRow 0 224 5 (.slice (some ⟨g,0,none⟩) L ac) ra'.length (aL ra')):=by
        intro X hX
        rw [kT,List.take_append_of_le_length (by rw [iW,hL];omega),List.take_of_length_le (by rw [iW,hL];omega)] at hX
        rw [hL];exact hX
       have HSL:Hid (∀ W,Below wr.heap.size wr W→_):=hsl
       have HSN:Hid (∀ W,Below wr.heap.size wr W→_):=hsn
       have hor:fR l=true∨(fR l=false∧fR n'=true):=by cases h:fR l;exact .inr ⟨rfl,by rcases hgo with h'|h';rw [h] at h';simp at h';exact h'⟩;exact .inl rfl
       clear HEND I hAl hNl hsl hsn hgo hlm hnm' hNA hJt hJc hsm htg hL hLr hA'
       rcases hor with hs|⟨hs,hs2⟩
       ·rw [hs] at HSL
        clear HSN hs
        go_wp2_with (go_at_call 186;(with_reducible refine jC (HSL.out _ hbb) ?_;clear HSL);rintro e wt ⟨rfl,hb1⟩;have hbb:=hbb.trans (hb1.mono hbb.size);obtain⟨⟨tz0,tz1,tz2⟩,x3,⟨e0,e1,e2,e3,e4⟩,⟨q0,q1,q2,q3,q4⟩⟩:=HMK.out _ hbb)
        have hix:(L:Int)<(L:Int)+1:=by omega
        have hca:(L:Int)≤(ac:Int):=by omega
        have hl0:(0:Int)≤(L:Int):=by omega
        refine wp_region_held_drew (S:=(fun X=>X.cell? ⟨w.heap.size,0,none⟩=some (.pointer (some ⟨β,0,none⟩))∧X.cell? ⟨w.heap.size,1,none⟩=some (.int .i64 root)∧X.cell? ⟨w.heap.size,2,none⟩=some (.slice ca cn cc)∧X.cell? ⟨g,L * 5,none⟩=some (.string llo)∧X.cell? ⟨g,L * 5+1,none⟩=some (.string lhi)∧X.cell? ⟨g,L * 5+2,none⟩=some (.int .i64 lpl)∧X.cell? ⟨g,L * 5+3,none⟩=some (.slice lea len lec)∧X.cell? ⟨g,L * 5+4,none⟩=some (.slice lka lkn lkc)∧X.cell? ⟨gb,0,none⟩=some (.string lo)∧X.cell? ⟨gb,1,none⟩=some (.string hi)∧X.cell? ⟨gb,2,none⟩=some (.int .i64 pl)∧X.cell? ⟨gb,3,none⟩=some (.slice ea en ec)∧X.cell? ⟨gb,4,none⟩=some (.slice ka kn kc))) (by kernel_rfl) (by(first|exact⟨tz0,tz1,tz2,e0,e1,e2,e3,e4,q0,q1,q2,q3,q4⟩|(with_reducible exact⟨tz0,tz1,tz2,e0,e1,e2,e3,e4,q0,q1,q2,q3,q4⟩)|(simp [tz0,tz1,tz2,e0,e1,e2,e3,e4,q0,q1,q2,q3,q4]))) (fun hHeld=>?_)
        refine wpAnyH_take (i:=0) (v:=.agg (tA β root ca cn cc)) rfl (by kernel_rfl) (by kernel_rfl) (by kernel_rfl) (fun _ _ _ h=>h) (Or.inl ⟨by rfl,fun w hSw=>by(try dsimp only at hSw);go_simp⟩) (by assumption) ?_
        try simp only [Act.put,jV,jZ,jX]
        refine wpAnyH_take (i:=1) (v:=.slice (some ⟨g,0,none⟩) (L+1) ac) rfl (by kernel_rfl) (by kernel_rfl) (by kernel_rfl) (fun _ _ _ h=>h) (Or.inl ⟨by rfl,fun w hSw=>by(try dsimp only at hSw);go_simp⟩) (by assumption) ?_
        try simp only [Act.put,jV,jZ,jX]
        refine wpAnyH_take (i:=2) (v:=.int .i64 (L:Nat)) rfl (by kernel_rfl) (by kernel_rfl) (by kernel_rfl) (fun _ _ _ h=>h) (Or.inl ⟨by rfl,fun w hSw=>by(try dsimp only at hSw);go_simp⟩) (by assumption) ?_
        try simp only [Act.put,jV,jZ,jX]
        refine wpAnyH_take (i:=3) (v:=.pointer (some ⟨g,L * 5,none⟩)) rfl (by kernel_rfl) (by kernel_rfl) (by kernel_rfl) (fun _ _ _ h=>h) (Or.inl ⟨by rfl,fun w hSw=>by(try dsimp only at hSw);go_simp⟩) (by assumption) ?_
        try simp only [Act.put,jV,jZ,jX]
        refine wpAnyH_take (i:=4) (v:=.agg #[.string llo,.string lhi,.int .i64 lpl,.slice lea len lec,.slice lka lkn lkc]) rfl (by kernel_rfl) (by kernel_rfl) (by kernel_rfl) (fun _ _ _ h=>h) (Or.inl ⟨by rfl,fun w hSw=>by(try dsimp only at hSw);go_simp⟩) (by assumption) ?_
        try simp only [Act.put,jV,jZ,jX]
        refine wpAnyH_take (i:=5) (v:=.slice (some ⟨gb,0,none⟩) 1 bc) rfl (by kernel_rfl) (by kernel_rfl) (by kernel_rfl) (fun _ _ _ h=>h) (Or.inl ⟨by rfl,fun w hSw=>by(try dsimp only at hSw);go_simp⟩) (by assumption) ?_
        try simp only [Act.put,jV,jZ,jX]
        refine wpAnyH_take (i:=6) (v:=.pointer (some ⟨gb,0,none⟩)) rfl (by kernel_rfl) (by kernel_rfl) (by kernel_rfl) (fun _ _ _ h=>h) (Or.inl ⟨by rfl,fun w hSw=>by(try dsimp only at hSw);go_simp⟩) (by assumption) ?_
        try simp only [Act.put,jV,jZ,jX]
        refine wpAnyH_take (i:=7) (v:=.agg #[.string lo,.string hi,.int .i64 pl,.slice ea en ec,.slice ka kn kc]) rfl (by kernel_rfl) (by kernel_rfl) (by kernel_rfl) (fun _ _ _ h=>h) (Or.inl ⟨by rfl,fun w hSw=>by(try dsimp only at hSw);go_simp⟩) (by assumption) ?_
        try simp only [Act.put,jV,jZ,jX]
        refine wpAnyH_ready (rs:=[8]) (by kernel_rfl) (by simp) (AllReadyH.cons rfl (fun K hK=>?_) AllReadyH.nil)
        go_simp
        (go_at_call 187;(with_reducible refine jC (HTG.out _ ?_) ?_);exact hbb.drew;rintro e wT ⟨vT,msT,rfl,hoT,hNT,hbT,hlT⟩;have hbT2:Below wr.heap.size wr wT:=hbb.drew.trans (hbT.mono hbb.size);obtain⟨⟨tz0,tz1,tz2⟩,x3,⟨e0,e1,e2,e3,e4⟩,⟨q0,q1,q2,q3,q4⟩⟩:=HMK.out wT hbT2)
        simp only []
        refine hK.out _ _ (by(first|exact⟨tz0,tz1,tz2,e0,e1,e2,e3,e4,q0,q1,q2,q3,q4⟩|(with_reducible exact⟨tz0,tz1,tz2,e0,e1,e2,e3,e4,q0,q1,q2,q3,q4⟩)|(simp [tz0,tz1,tz2,e0,e1,e2,e3,e4,q0,q1,q2,q3,q4]))) (fun hHeld=>?_)
        clear hK K
        try simp only [Act.put,jV,jZ,jX]
        refine wpAnyH_ready (rs:=[9]) (by kernel_rfl) (by simp) (AllReadyH.cons rfl (fun K hK=>?_) AllReadyH.nil)
        go_simp
        refine hK.out _ _ (by(first|exact⟨tz0,tz1,tz2,e0,e1,e2,e3,e4,q0,q1,q2,q3,q4⟩|(with_reducible exact⟨tz0,tz1,tz2,e0,e1,e2,e3,e4,q0,q1,q2,q3,q4⟩)|(simp [tz0,tz1,tz2,e0,e1,e2,e3,e4,q0,q1,q2,q3,q4]))) (fun hHeld=>?_)
        clear hK K
        try simp only [Act.put,jV,jZ,jX]
        refine wpAnyH_done (by kernel_rfl) ?_ _
        rotate_left
        all_goals go_wp2
        all_goals
         have zT:=hbT2.size
         have hNE:0<msT.length:=by rw [hNT.1,List.length_map];exact List.length_pos_iff.2 HNE.out
         refine⟨⟨A',tog l n',ra',msT,⟨HJ2.out,HGO.out,hNE,HCUT.out (Jn x3 (Nat.le_succ L)),hoT,?_,?_,HNW.out⟩,hB.trans (hbT2.mono (by omega))⟩,by simp only [qEz];omega⟩
         ·exact(HNA.out.on (vV hbT2 hApL)).mono (fun k hk=>⟨hk.1.imp id (fun h=>⟨h.1,by omega⟩),hk.2⟩)
         ·refine hNT.mono (fun k hk=>?_)
          rcases hk with hk|hk
          ·exact⟨hk.1.imp id (fun h=>⟨h.1,by omega⟩),hk.2⟩
          ·have h1:_≤k:=hk.1
           refine⟨.inr ⟨by have:=hwq.size;have:=hbb.size;simp at h1;omega,hk.2⟩,fun e=>?_⟩
           simp [Value.ownBlock] at e
           have:=hbb.size
           simp at h1;omega
       ·rw [hs] at HSL
        rw [hs2] at HSN
        clear hs hs2
        go_wp2_with (go_at_call 186;(first|(with_reducible refine jC (HSL.out _ hbb) ?_;clear HSL)|(with_reducible refine jC (HSN.out _ hbb) ?_;clear HSN));rintro e wt ⟨rfl,hb1⟩;have hbb:=hbb.trans (hb1.mono hbb.size);obtain⟨⟨tz0,tz1,tz2⟩,x3,⟨e0,e1,e2,e3,e4⟩,⟨q0,q1,q2,q3,q4⟩⟩:=HMK.out _ hbb)
        have hix:(L:Int)<(L:Int)+1:=by omega
        have hca:(L:Int)≤(ac:Int):=by omega
        have hl0:(0:Int)≤(L:Int):=by omega
        refine wp_region_held_drew (S:=(fun X=>X.cell? ⟨w.heap.size,0,none⟩=some (.pointer (some ⟨β,0,none⟩))∧X.cell? ⟨w.heap.size,1,none⟩=some (.int .i64 root)∧X.cell? ⟨w.heap.size,2,none⟩=some (.slice ca cn cc)∧X.cell? ⟨g,L * 5,none⟩=some (.string llo)∧X.cell? ⟨g,L * 5+1,none⟩=some (.string lhi)∧X.cell? ⟨g,L * 5+2,none⟩=some (.int .i64 lpl)∧X.cell? ⟨g,L * 5+3,none⟩=some (.slice lea len lec)∧X.cell? ⟨g,L * 5+4,none⟩=some (.slice lka lkn lkc)∧X.cell? ⟨gb,0,none⟩=some (.string lo)∧X.cell? ⟨gb,1,none⟩=some (.string hi)∧X.cell? ⟨gb,2,none⟩=some (.int .i64 pl)∧X.cell? ⟨gb,3,none⟩=some (.slice ea en ec)∧X.cell? ⟨gb,4,none⟩=some (.slice ka kn kc))) (by kernel_rfl) (by(first|exact⟨tz0,tz1,tz2,e0,e1,e2,e3,e4,q0,q1,q2,q3,q4⟩|(with_reducible exact⟨tz0,tz1,tz2,e0,e1,e2,e3,e4,q0,q1,q2,q3,q4⟩)|(simp [tz0,tz1,tz2,e0,e1,e2,e3,e4,q0,q1,q2,q3,q4]))) (fun hHeld=>?_)
        refine wpAnyH_take (i:=0) (v:=.agg (tA β root ca cn cc)) rfl (by kernel_rfl) (by kernel_rfl) (by kernel_rfl) (fun _ _ _ h=>h) (Or.inl ⟨by rfl,fun w hSw=>by(try dsimp only at hSw);go_simp⟩) (by assumption) ?_
        try simp only [Act.put,jV,jZ,jX]
        refine wpAnyH_take (i:=1) (v:=.slice (some ⟨g,0,none⟩) (L+1) ac) rfl (by kernel_rfl) (by kernel_rfl) (by kernel_rfl) (fun _ _ _ h=>h) (Or.inl ⟨by rfl,fun w hSw=>by(try dsimp only at hSw);go_simp⟩) (by assumption) ?_
        try simp only [Act.put,jV,jZ,jX]
        refine wpAnyH_take (i:=2) (v:=.int .i64 (L:Nat)) rfl (by kernel_rfl) (by kernel_rfl) (by kernel_rfl) (fun _ _ _ h=>h) (Or.inl ⟨by rfl,fun w hSw=>by(try dsimp only at hSw);go_simp⟩) (by assumption) ?_
        try simp only [Act.put,jV,jZ,jX]
        refine wpAnyH_take (i:=3) (v:=.pointer (some ⟨g,L * 5,none⟩)) rfl (by kernel_rfl) (by kernel_rfl) (by kernel_rfl) (fun _ _ _ h=>h) (Or.inl ⟨by rfl,fun w hSw=>by(try dsimp only at hSw);go_simp⟩) (by assumption) ?_
        try simp only [Act.put,jV,jZ,jX]
        refine wpAnyH_take (i:=4) (v:=.agg #[.string llo,.string lhi,.int .i64 lpl,.slice lea len lec,.slice lka lkn lkc]) rfl (by kernel_rfl) (by kernel_rfl) (by kernel_rfl) (fun _ _ _ h=>h) (Or.inl ⟨by rfl,fun w hSw=>by(try dsimp only at hSw);go_simp⟩) (by assumption) ?_
        try simp only [Act.put,jV,jZ,jX]
        refine wpAnyH_take (i:=5) (v:=.slice (some ⟨gb,0,none⟩) 1 bc) rfl (by kernel_rfl) (by kernel_rfl) (by kernel_rfl) (fun _ _ _ h=>h) (Or.inl ⟨by rfl,fun w hSw=>by(try dsimp only at hSw);go_simp⟩) (by assumption) ?_
        try simp only [Act.put,jV,jZ,jX]
        refine wpAnyH_take (i:=6) (v:=.pointer (some ⟨gb,0,none⟩)) rfl (by kernel_rfl) (by kernel_rfl) (by kernel_rfl) (fun _ _ _ h=>h) (Or.inl ⟨by rfl,fun w hSw=>by(try dsimp only at hSw);go_simp⟩) (by assumption) ?_
        try simp only [Act.put,jV,jZ,jX]
        refine wpAnyH_take (i:=7) (v:=.agg #[.string lo,.string hi,.int .i64 pl,.slice ea en ec,.slice ka kn kc]) rfl (by kernel_rfl) (by kernel_rfl) (by kernel_rfl) (fun _ _ _ h=>h) (Or.inl ⟨by rfl,fun w hSw=>by(try dsimp only at hSw);go_simp⟩) (by assumption) ?_
        try simp only [Act.put,jV,jZ,jX]
        refine wpAnyH_ready (rs:=[8]) (by kernel_rfl) (by simp) (AllReadyH.cons rfl (fun K hK=>?_) AllReadyH.nil)
        go_simp
        (go_at_call 187;(with_reducible refine jC (HTG.out _ ?_) ?_);exact hbb.drew;rintro e wT ⟨vT,msT,rfl,hoT,hNT,hbT,hlT⟩;have hbT2:Below wr.heap.size wr wT:=hbb.drew.trans (hbT.mono hbb.size);obtain⟨⟨tz0,tz1,tz2⟩,x3,⟨e0,e1,e2,e3,e4⟩,⟨q0,q1,q2,q3,q4⟩⟩:=HMK.out wT hbT2)
        simp only []
        refine hK.out _ _ (by(first|exact⟨tz0,tz1,tz2,e0,e1,e2,e3,e4,q0,q1,q2,q3,q4⟩|(with_reducible exact⟨tz0,tz1,tz2,e0,e1,e2,e3,e4,q0,q1,q2,q3,q4⟩)|(simp [tz0,tz1,tz2,e0,e1,e2,e3,e4,q0,q1,q2,q3,q4]))) (fun hHeld=>?_)
        clear hK K
        try simp only [Act.put,jV,jZ,jX]
        refine wpAnyH_ready (rs:=[9]) (by kernel_rfl) (by simp) (AllReadyH.cons rfl (fun K hK=>?_) AllReadyH.nil)
        go_simp
        refine hK.out _ _ (by(first|exact⟨tz0,tz1,tz2,e0,e1,e2,e3,e4,q0,q1,q2,q3,q4⟩|(with_reducible exact⟨tz0,tz1,tz2,e0,e1,e2,e3,e4,q0,q1,q2,q3,q4⟩)|(simp [tz0,tz1,tz2,e0,e1,e2,e3,e4,q0,q1,q2,q3,q4]))) (fun hHeld=>?_)
        clear hK K
        try simp only [Act.put,jV,jZ,jX]
        refine wpAnyH_done (by kernel_rfl) ?_ _
        rotate_left
        all_goals go_wp2
        all_goals
         have zT:=hbT2.size
         have hNE:0<msT.length:=by rw [hNT.1,List.length_map];exact List.length_pos_iff.2 HNE.out
         refine⟨⟨A',tog l n',ra',msT,⟨HJ2.out,HGO.out,hNE,HCUT.out (Jn x3 (Nat.le_succ L)),hoT,?_,?_,HNW.out⟩,hB.trans (hbT2.mono (by omega))⟩,by simp only [qEz];omega⟩
         ·exact(HNA.out.on (vV hbT2 hApL)).mono (fun k hk=>⟨hk.1.imp id (fun h=>⟨h.1,by omega⟩),hk.2⟩)
         ·refine hNT.mono (fun k hk=>?_)
          rcases hk with hk|hk
          ·exact⟨hk.1.imp id (fun h=>⟨h.1,by omega⟩),hk.2⟩
          ·have h1:_≤k:=hk.1
           refine⟨.inr ⟨by have:=hwq.size;have:=hbb.size;simp at h1;omega,hk.2⟩,fun e=>?_⟩
           simp [Value.ownBlock] at e
           have:=hbb.size
           simp at h1;omega
      ·-- neither is
       have hE:=HEND.out (Xj hgo)
       have hs1:fR l=false:=by cases h:fR l;rfl;exact absurd (.inl h) hgo
       have hs2:fR n'=false:=by cases h:fR n';rfl;exact absurd (.inr h) hgo
       rw [hs1] at hsl
       rw [hs2] at hsn
       have HSL:Hid (∀ W,Below wr.heap.size wr W→_):=hsl
       have HSN:Hid (∀ W,Below wr.heap.size wr W→_):=hsn
       clear HEND I hAl hNl hsl hsn HTG hgo hs1 hs2 hlm hnm' hNA
       go_wp2_with (first
        | (go_at_call 186;(first|(with_reducible refine jC (HSL.out _ hbb) ?_;clear HSL)|(with_reducible refine jC (HSN.out _ hbb) ?_;clear HSN));rintro e wt ⟨rfl,hb1⟩;have hbb:=hbb.trans (hb1.mono hbb.size);obtain⟨_,x3,⟨e0,e1,e2,e3,e4⟩,⟨q0,q1,q2,q3,q4⟩⟩:=HMK.out _ hbb)
        | (at_builtin;refine Aw wt rfl (.tmp 54) (.tmp 55) 221 224 _ 5 88 rfl Tryz.underlying221 kK rfl (by decide) (.slice (some ⟨g,0,none⟩) (L+1) ac) (L+1) (aL (ra'++[⟨llo,lhi,lpl,lea,len,lec,lka,lkn,lkc⟩])) rfl x3 ⟨gb,0,none⟩ 1 bc (aL [⟨lo,hi,pl,ea,en,ec,ka,kn,kc⟩]) rfl rfl (HBC.out _ hbb) (mP _) (by omega) (by omega) ?_;intro v3 w3 A3;obtain⟨g3,k3,rfl⟩:=A3.shape (by omega)))
       obtain⟨h1,h2,h3,h4,h5⟩:=hE _ _ _ hbb A3
       exact⟨⟨j+1,_,by go_num,by omega,h1,h2,h3,h4,h5⟩,by simp [intOf];omega⟩
    ·-- several
     have hE:=HEND.out (Ri (by omega))
     have hne:¬ ((rn.length:Int)=1):=by omega
     clear HEND I hAl hNl
     go_wp2_with (at_builtin;refine Aw wr rfl (.tmp 54) (.tmp 55) 221 224 _ 5 88 rfl Tryz.underlying221 kK rfl (by decide) (.slice aa ra.length ac) ra.length (aL ra) rfl harow ⟨gb,0,none⟩ rn.length bc (aL rn) rfl (by rw [iW]) hbcell (mP rn) (by omega) (by omega) ?_;intro v3 w3 A3;obtain⟨g3,k3,rfl⟩:=A3.shape (by omega))
     obtain⟨h1,h2,h3,h4,h5⟩:=hE _ _ _ (Below.refl _ _) A3
     exact⟨⟨j+1,_,by go_num,by omega,h1,h2,h3,h4,h5⟩,by simp [intOf];omega⟩
  ·obtain rfl:j=ns.length:=by omega
   go_wp2
   go_ret
   refine⟨_,rs,rfl,ho,?_,B1.trans (hB.mono (by omega)),fun k h=>vJ (Nat.le_succ _) (hk k h)⟩
   have e:Fw tog ns ns.length=iK tog ns:=by rw [Fw,List.take_length];rfl
   rw [e] at hN
   exact hN
theorem qDh (β:Nat) (sv lv:Value) (fs:Fs) (hl:(fs.life==0)=false) (root:Int) (ca:Option Addr) (cn cc:Nat) (J:List NT→Prop) (hJt:∀ A l n B,J (A++l :: n :: B)→J (A++(iM l n++B))) (hJe:∀ L,J L→L.length≤1000000∧∀ n∈L,Ok0 fs n∧nC n∧n.ents0.length≤1000) (ns:List NT) (ms:List MN) (na:Option Addr) (nc:Nat) (S:Bl) (w:World) (hf:aG w β sv lv fs) (hJ:J ns)
  (hR:aH w S na (aL ms)) (hm:bS w S (ns.map nd0) ms) (hS:∀ b,S b→b<w.heap.size) (hnc:ns.length≤nc) :
  Calls Tryz.prog 177 #[.agg (tA β root ca cn cc),.slice na ns.length nc] w fun e w' =>
   ∃ v rs,e=.returned v∧w'.ownsRow 0 224 5 v rs.length (aL rs)∧bS w' (Apart S w.heap.size v w') ((iK iM ns).map nd0) rs∧Below w.heap.size w w'∧∀ k,v.ownBlock=some k→w.heap.size≤k:=by
 refine qDg β sv lv fs root ca cn cc nd0 iM J (fun A l n B h=>?_) (fun L h=>(hJe L h).1) (fun L h n hn m S w hm hS=>?_) (fun A l n B h ma mb S w hf ha hb hS=>?_) ns ms na nc S w hf hJ hR hm hS hnc
 ·have hE:=(hJe _ h).2
  exact⟨hJt A l n B h,qCm (hE l (by simp)).1 (hE n (by simp)).1⟩
 ·have hE:=(hJe L h).2 n hn
  exact qEq hE.1 hE.2.1 hm hS hE.2.2
 ·have h1:=(hJe _ h).2 l (by simp)
  have h2:=(hJe _ h).2 n (by simp)
  refine(Uy β sv lv fs hl root ca cn cc l n h1.1 h2.1 h1.2.1 h2.2.1 ma mb S w hf ha hb hS h1.2.2 h2.2.2).mono ?_
  rintro e w' ⟨v,ms,rfl,ho,hn,hb,hk⟩
  exact⟨v,ms,rfl,ho,hn.mono (fun k h=>.inr h),hb,hk⟩
theorem wG (β:Nat) (sv lv:Value) (fs:Fs) (hl:(fs.life==0)=false) (root:Int) (ca:Option Addr) (cn cc:Nat) (p:Nat) (s:Sp) (es:List En) (cs:List Ch) (xa:Option Addr) (xc:Nat) (S:Bl) (w:World) (ht:bG fs 0 (.leaf p es) s) (hf:aG w β sv lv fs) (hR:aH w S xa (cs.flatMap Ch.cells)) (hS:∀ b,S b→b<w.heap.size) (hr:cI cs) (hgd:∀ c∈cs,c.good) (hn:cs.length≤1000) (hc:cs.length≤xc) (hxa:(xa=none∧xc=0)∨∃ b off,xa=some ⟨b,off,none⟩) (hon:(bD es cs).length≤100000) :
  Calls Tryz.prog 164 #[.agg (tA β root ca cn cc),.int .i64 p,.agg #[.string s.lo,.string s.hi],.slice xa cs.length xc] w fun e w' =>
   ∃ v ms,e=.returned v∧w'.ownsRow 0 224 5 v ms.length (aL ms)∧bS w' (New w w') ((cV (bD es cs)).map nd0) ms∧Below w.heap.size w w'∧∀ k,v.ownBlock=some k→w.heap.size≤k:=by
 have hgood:∀ y∈bD es cs,y.good fs:=fG (fs:=fs) (dH (h:=0) ht) hr (fK ht) hgd
 obtain⟨g,hg,hk3,hes,hne,hin,hok⟩:=ht
 obtain⟨W1,hW1⟩:=nM (((w.alloc (.cells (tA β root ca cn cc) 95)).alloc (.cells #[.string s.lo,.string s.hi] 135)).alloc (.cells #[.slice xa cs.length xc] 93))
 have B1:Below w.heap.size w W1:=hW1▸((bA _ _).alloc (by simp) _).alloc (by simp;omega) _
 have t1:W1.heap[w.heap.size]?=some (.cells (tA β root ca cn cc) 95):=hW1▸aB _ (aB _ (aA w _))
 have s1:W1.heap[w.heap.size+1]?=some (.cells #[.string s.lo,.string s.hi] 135):=by
  rw [← hW1];refine aB _ ?_;have:=aA (w.alloc (.cells (tA β root ca cn cc) 95)) (.cells #[.string s.lo,.string s.hi] 135);simpa using this
 have c1:W1.heap[w.heap.size+1+1]?=some (.cells #[.slice xa cs.length xc] 93):=by
  rw [← hW1];have:=aA ((w.alloc (.cells (tA β root ca cn cc) 95)).alloc (.cells #[.string s.lo,.string s.hi] 135)) (.cells #[.slice xa cs.length xc] 93);simpa using this
 have z1:W1.heap.size=w.heap.size+3:=by rw [← hW1];simp
 obtain⟨tc0,tc1,tc2⟩:=eU t1
 obtain⟨sc0,sc1⟩:=cG s1
 have hf1:aG W1 β sv lv fs:=hf.on (vV B1 hf.lies)
 obtain⟨sm1,sm2,sm3⟩:=iV hg
 have he0:0<g.ents.length:=by rw [hes,List.length_map];exact List.length_pos_iff.2 hne
 have hel:g.ents.length=es.length:=by rw [hes,List.length_map]
 have hin':∀ e∈g.ents,s.has e.key=true:=fun e he=>by rw [hes,List.mem_map] at he;obtain⟨x,hx,rfl⟩:=he;exact hin x hx
 have hNd:=sI β sv lv fs root ca cn cc p s g W1 hf1 hl hg (by simp [hk3]) (by simp [hk3]) he0 (hin' _ (List.getElem_mem _)) (hin' _ (List.getElem_mem _)) sm1 sm3
 have hk3b:(g.kind==3)=true:=by simp [hk3]
 have HE:Hid (g.ents=es.map (·.e)):=hes
 have HL:Hid (g.ents.length=es.length):=hel
 have HZ:Hid (W1.heap.size=w.heap.size+3):=z1
 have HSM:Hid (g.ents.length≤1000):=sm3
 clear hk3 hes hel z1 hin' hin hok
 go_enter Tryz.func164,Tryz.ntmps164
 go_wp2_with (first
  | (go_at_call 117;(with_reducible refine jC hNd ?_);rintro e W3 ⟨vv,rfl,⟨ka,ia,ea,kc,ic,ec,rfl,q1,q2,q3,qq⟩,hb3⟩;have x4:=aA W3 (pgO g ka ia ea kc ic ec);obtain⟨m0,m1,m2,m3,m4,m5,m6,m7⟩:=bL x4))
 obtain⟨W4,hW4⟩:=nM (W3.alloc (pgO g ka ia ea kc ic ec))
 rw [hW4]
 rw [hW4] at x4 m0 m1 m2 m3 m4 m5 m6 m7
 have b4:Below W3.heap.size W3 W4:=hW4▸(bA _ _)
 have z3:=hb3.size
 have z4:W3.heap.size<W4.heap.size:=(gL x4)
 have B4:Below w.heap.size w W4:=(B1.trans (hb3.mono B1.size)).trans (b4.mono (vJ B1.size z3))
 have c4:W4.heap[w.heap.size+1+1]?=some (.cells #[.slice xa cs.length xc] 93):=(b4.block _ (by have:=HZ.out;omega)).trans ((hb3.block _ (by have:=HZ.out;omega)).trans c1)
 have s6:W4.cell? ⟨W3.heap.size,6,none⟩=some (.slice ea g.ents.length ec):=m6
 have sc:W4.cell? ⟨w.heap.size+1+1,0,none⟩=some (.slice xa cs.length xc):=by simp [World.cell?,c4]
 have HF4:Hid (∀ X,Below W4.heap.size W4 X→X.cell? ⟨W3.heap.size,6,none⟩=some (.slice ea g.ents.length ec)∧X.cell? ⟨w.heap.size+1+1,0,none⟩=some (.slice xa cs.length xc)):=by
  intro X hX
  have h1:=(hX.block _ z4).trans x4
  have h2:=(hX.block _ (gL c4)).trans c4
  exact⟨(bL h1).2.2.2.2.2.2.1,by simp [World.cell?,h2]⟩
 have hJ:Below W4.heap.size W4 W4:=Below.refl _ _
 have hq4:aH W4 (fun k=>k<W4.heap.size) ea (aM es):=by
  have:=(q3.on (vV b4 (fun k hk=>hk.2))).mono (S':=fun k=>k<W4.heap.size) (fun k hk=>by have:=hk.2;omega)
  rw [zI HE.out] at this
  exact this
 have hec:=qq.2.2
 have HC:Hid (∀ X,Below W4.heap.size W4 X→∀ (bv be:Nat),X.heap[bv]?=some (.cells #[.slice ea g.ents.length ec] 83)→X.heap[be]?=some (.cells #[.func (.func 185) #[] #[.pointer (some ⟨bv,0,none⟩)]] 132)→X.heap[be+1]?=some (.cells #[.slice xa cs.length xc] 93) →
   Calls Tryz.prog 163 #[.func (.func 148) #[] #[.pointer (some ⟨be+1,0,none⟩),.pointer (some ⟨be,0,none⟩)]] X fun e w'=>∃ v,e=.returned v∧w'.ownsRow 0 108 4 v (bD es cs).length (aM (bD es cs))∧Below X.heap.size X w'∧∀ k,v.ownBlock=some k→X.heap.size≤k):=by
  intro X hX bv be hbv hbe hbc
  have hqX:aH X (fun k=>k<X.heap.size) ea (aM es):=(hq4.on (vV hX (fun k hk=>hk))).mono (fun k hk=>jY hk hX.size)
  have hRX:aH X (fun k=>k<X.heap.size) xa (cs.flatMap Ch.cells):=((hR.on (vV B4 hS)).on (vV hX (fun k hk=>jY (hS k hk) B4.size))).mono (fun k hk=>jY (jY (hS k hk) B4.size) hX.size)
  rw [HL.out] at hbv
  have hV:=Kv bv ea ec es (fun k=>k<X.heap.size) (fun k=>k<X.heap.size) X hbv hqX (by have:=HSM.out;have:=HL.out;omega) (by have:=HL.out;omega) (gL hbv) (fun k h=>h)
  have hO:=Gv 185 #[.pointer (some ⟨bv,0,none⟩)] (enters_of Tryz.func185 (by kernel_rfl) rfl) es (fun k=>k<X.heap.size) (be+1) be xa xc cs (fun k=>k<X.heap.size) (fun k=>k<X.heap.size) X hV hbc hbe hRX hr (by omega) hc hxa (gL hbc) (gL hbe) (fun k h=>h) (fun k h=>h)
  exact zN 148 _ (enters_of Tryz.func148 (by kernel_rfl) rfl) (bD es cs) (fun k=>k<X.heap.size) X hO (fun k h=>h) (by omega)
 obtain⟨ys,hys⟩:=nM (bD es cs)
 rw [hys] at HC hon hgood
 have HLV:Hid ((cV (bD es cs)).map nd0=(eD esz ys).map xL):=by show _=_;rw [tS,hys]
 have HG:Hid (∀ x∈ys,x.good fs):=hgood
 clear hgood hys hq4 hW4 x4 c4 m0 m1 m2 m3 m4 m5 m6 m7 q1 q2 q3 qq tc0 tc1 tc2 sc0 sc1 hNd
 go_region_held3 (fun X=>X.cell? ⟨W3.heap.size,6,none⟩=some (.slice ea g.ents.length ec)∧X.cell? ⟨w.heap.size+1+1,0,none⟩=some (.slice xa cs.length xc))
  ((first|(with_reducible exact⟨s6,sc⟩)|(simp [s6,sc])))
  (first
   | (go_at_call 176;(with_reducible refine jC (Kx ea g.ents.length ec _) ?_);rintro e wv ⟨rfl,xv,hbv⟩;have hJv:Below W4.heap.size W4 wv:=hJ.drew.trans hbv;obtain⟨s6,sc⟩:=HF4.out wv hJv)
   | (go_at_call 136;(with_reducible refine jC (sZ _ _ _ _ _ _) ?_);rintro e wo ⟨rfl,xo1,xo2,hbo⟩;have hJo:Below W4.heap.size W4 wo:=hJv.trans (hbo.mono hJv.size);obtain⟨s6,sc⟩:=HF4.out wo hJo;have xvo:=(hbo.block _ (gL xv)).trans xv;have hCl:=HC.out wo hJo _ _ xvo xo1 xo2)
   | (go_at_call 163;(with_reducible refine jC hCl ?_);rintro e wc ⟨vC,rfl,hown,hbC,hlies⟩;have hJc:Below W4.heap.size W4 wc:=hJo.trans (hbC.mono hJo.size);obtain⟨s6,sc⟩:=HF4.out wc hJc;obtain⟨va,vc,rfl,hvc,hrow⟩:=cO hown;have hNL:=oD va vc ys (fun k=>k<wc.heap.size∧wo.heap.size≤k) wc (hrow.mono (fun k hk=>⟨aX hown hk,hlies k hk⟩)) (fun k hk=>hk.1) (by omega) hvc (fun x hx=>pH (HG.out x hx)) (nX HG.out))
   | (go_at_call 162;(with_reducible refine jC hNL ?_);rintro e wL ⟨vL,qs,rfl,hoL,hql,hqr,hbL,hlL⟩;have hJL:Below W4.heap.size W4 wL:=hJc.trans (hbL.mono hJc.size);obtain⟨s6,sc⟩:=HF4.out wL hJL))
 all_goals go_wp2
 all_goals go_ret
 all_goals
  have hsz1:=B4.size
  have hsz2:=hJo.size
  have hsz3:=hJc.size
  have hsz4:=hbL.size
  refine⟨_,qs.map kI,rfl,by rw [List.length_map];exact hoL,?_,B4.trans (hJL.mono hsz1),fun k hk=>vJ (by omega) (hlL k hk)⟩
  rw [HLV.out,← hql]
  exact(xK hqr).mono (fun k hk=>⟨by have:=hk.2;omega,by have:=hk.1;omega⟩)
theorem aH.rowAt {B:Nat} (h:aH w S a vs) (hS:∀ b,S b→b<B):cT w B a vs:=by
 rcases h with h|⟨b,off,ha,hs,hc⟩
 ·exact .inl h
 ·exact .inr ⟨b,off,ha,hS b hs,hc⟩
structure Iu (w:World) (S:Bl) (g:Pg) (ka ia ea:Option Addr) (kc ic ec:Nat):Prop where
 keys:aH w S ka (g.keys.map .string)
 kids:aH w S ia (g.kids.map (.int .i64))
 ents:aH w S ea (g.ents.flatMap Ent.cells)
theorem Iu.on {w w':World}  {g:Pg} {ka ia ea:Option Addr} {kc ic ec:Nat} (h:Iu w S g ka ia ea kc ic ec) (ho:On S w w'):Iu w' S g ka ia ea kc ic ec:=⟨h.keys.on ho,h.kids.on ho,h.ents.on ho⟩
theorem rN (g:Pg) (ka ia ea:Option Addr) (kc ic ec:Nat) (S:Bl) (w:World) (hP:Iu w S g ka ia ea kc ic ec) (hS:∀ b,S b→b<w.heap.size) (hs:g.small) (hE:g.encE=0) :
  Calls Tryz.prog 89 #[.agg #[.int .i64 g.kind,.int .i64 g.ver,.int .i64 g.root,.int .i64 g.next,.slice ka g.keys.length kc,.slice ia g.kids.length ic,.slice ea g.ents.length ec,.string g.data]] w fun e w'=>e=.returned (.string g.encS)∧Below w.heap.size w w':=by
 obtain⟨W1,hW1⟩:=nM (w.alloc (pgO g ka ia ea kc ic ec))
 have b1:Below w.heap.size w W1:=hW1▸(bA _ _)
 have x1:W1.heap[w.heap.size]?=some (pgO g ka ia ea kc ic ec):=hW1▸aA w _
 obtain⟨m0,m1,m2,m3,m4,m5,m6,m7⟩:=bL x1
 have hS1:∀ b,S b→b<W1.heap.size:=fun b h=>jY (hS b h) b1.size
 have hP1:=hP.on (vV b1 hS)
 have hC:=qF g.kind g.ver g.root g.next ka ia ea kc ic ec g.data g.keys g.kids g.ents W1 (hP1.keys.rowAt hS1) (hP1.kids.rowAt hS1) (hP1.ents.rowAt hS1) hs
 have hE':Pages.cM g.kind g.ver g.root g.next g.keys g.kids g.ents g.data=0:=hE
 rw [hE'] at hC
 obtain⟨s,hs'⟩:∃ s,Pages.encS g.kind g.ver g.root g.next g.keys g.kids g.ents g.data=s:=⟨_,rfl⟩
 rw [hs'] at hC
 have HSs:Hid (g.encS=s):=hs'
 clear hE' hs'
 go_enter Tryz.func89,Tryz.ntmps89
 go_wp2_with (go_at_call 119;(with_reducible refine jC hC ?_);rintro e w2 ⟨rfl,hb2⟩)
 go_ret
 exact⟨by rw [HSs.out];rfl,b1.trans (hb2.mono b1.size)⟩
structure dY (w:World) (b:Nat) (Sf:Bl) (fa:Option Addr) (fc:Nat) (fr:List Nat) (wv:Value) (ws:List (Nat×ByteArray)):Prop where
 box:w.heap[b]?=some (.cells #[.slice fa fr.length fc,wv] 220)
 free:aH w Sf fa (fr.map (fun n:Nat=>Value.int .i64 n))
 some':fr≠[]→∃ b0 o0,fa=some ⟨b0,o0,none⟩
 cap:fr.length≤fc
 own:w.ownsRow 0 209 2 wv ws.length (ws.flatMap dE)
 apart:∀ k,Sf k→k<w.heap.size∧k≠b∧wv.ownBlock≠some k
def fpL (b:Nat) (wv:Value):Bl:=fun k=>k=b∨wv.ownBlock=some k
theorem dY.lies {Sf:Bl} {fa:Option Addr} {fc:Nat} {fr:List Nat} {wv:Value} {ws:List (Nat×ByteArray)} (h:dY w b Sf fa fc fr wv ws):∀ k,fpL b wv k→k<w.heap.size:=by
 rintro k (rfl|hk)
 ·exact(gL h.box)
 ·exact aX h.own hk
theorem dY.fr {w w':World}  {Sf:Bl} {fa:Option Addr} {fc:Nat} {fr:List Nat} {wv:Value} {ws:List (Nat×ByteArray)} (h:dY w b Sf fa fc fr wv ws) (f:Below w.heap.size w w'):dY w' b Sf fa fc fr wv ws :=
 ⟨(f.block _ (h.lies b (.inl rfl))).trans h.box,h.free.on (vV f (fun k hk=>(h.apart k hk).1)),h.some',h.cap,bK h.own (vV (Y:=fun k=>k<w.heap.size) f (fun k hk=>hk)) (fun k hk=>aX h.own hk),fun k hk=>⟨jY (h.apart k hk).1 f.size,(h.apart k hk).2⟩⟩
theorem qFc:(Tryz.prog.info? 209).map (fun i=>(i.zero,i.size,i.bytes))=some (some (.agg #[.int .i64 0,.string ⟨#[]⟩]),2,24):=by kernel_rfl
theorem aH.tail {b0 o0:Nat}   (h:aH w S (some ⟨b0,o0,none⟩) (v :: vs))  (ha:vs≠[]→a=some ⟨b0,o0+1,none⟩):aH w S a vs:=by
 rcases h with h|⟨b,off,hb,hs,hc⟩
 ·simp at h
 ·by_cases hv:vs=[]
  ·exact .inl hv
  ·simp only [Option.some.injEq,Addr.mk.injEq,and_true] at hb
   obtain⟨rfl,rfl⟩:=hb
   refine .inr ⟨b0,o0+1,ha hv,hs,fun i u hu=>?_⟩
   have:=hc (i+1) u (by simpa using hu)
   rw [show o0+1+i=o0+(i+1) by omega]
   exact this
theorem Ca (b:Nat) (Sf:Bl) (fa:Option Addr) (fc p:Nat) (fr:List Nat) (wv:Value) (ws:List (Nat×ByteArray)) (g:Pg) (ka ia ea:Option Addr) (kc ic ec:Nat) (S:Bl) (w:World) (h:dY w b Sf fa fc (p :: fr) wv ws) (hP:Iu w S g ka ia ea kc ic ec) (hS:∀ b,S b→b<w.heap.size) (hSb:¬ S b) (hs:g.small) (hE:g.encE=0) (hws:ws.length≤100000) :
  Calls Tryz.prog 180 #[.pointer (some ⟨b,0,none⟩),.agg #[.int .i64 g.kind,.int .i64 g.ver,.int .i64 g.root,.int .i64 g.next,.slice ka g.keys.length kc,.slice ia g.kids.length ic,.slice ea g.ents.length ec,.string g.data]] w fun e w'=>e=.returned (.int .i64 p) ∧
   ∃ fa' wv',dY w' b Sf fa' (fc-1) fr wv' (ws++[(p,g.encS)])∧Fr (fpL b wv) w w'∧∀ k,wv'.ownBlock=some k→wv.ownBlock=some k∨w.heap.size≤k:=by
 obtain⟨b0,o0,rfl⟩:=h.some' (by simp)
 have hcap:fr.length+1≤fc:=by have:=h.cap;simpa using this
 obtain⟨rb,ro,hra,hrb,hrc⟩:=h.free.at (f:=fun n:Nat=>Value.int .i64 n) (l:=p :: fr) (j:=0) (by simp)
 simp only [Option.some.injEq,Addr.mk.injEq,and_true] at hra
 obtain⟨rfl,rfl⟩:=hra
 simp only [Nat.add_zero,List.getElem_cons_zero] at hrc
 obtain⟨W1,hW1⟩:=nM (w.alloc (pgO g ka ia ea kc ic ec))
 have b1:Below w.heap.size w W1:=hW1▸(bA _ _)
 have x1:W1.heap[w.heap.size]?=some (pgO g ka ia ea kc ic ec):=hW1▸aA w _
 have h1:=h.fr b1
 have hbx:W1.heap[b]?=some (.cells #[.slice (some ⟨b0,o0,none⟩) (fr.length+1) fc,wv] 220):=h1.box
 obtain⟨l0,l1⟩:=cG hbx
 have lfr:=aF hbx
 have blt:b<w.heap.size:=h.lies b (.inl rfl)
 have hap:=h.apart b0 hrb
 have hrc1:W1.cell? ⟨b0,o0,none⟩=some (.int .i64 p):=by rw [World.cell?_of_block (w:=w) (b1.block b0 hap.1)];exact hrc
 obtain⟨A,hA⟩:=nM ((if fc=1 then (some ⟨b0,o0,none⟩:Option Addr) else some ⟨b0,o0+1,none⟩))
 obtain⟨W2,hW2⟩:=nM (W1.setCell ⟨b,0,none⟩ (.slice A fr.length (fc-1)))
 have y2:W2.heap[b]?=some (.cells #[.slice A fr.length (fc-1),wv] 220):=by rw [← hW2];have:=aD hbx 0 (.slice A fr.length (fc-1));simpa using this
 have f2:Fr (Bl.one b) W1 W2:=hW2▸(Fr.refl (Bl.one b) W1).setCell (p:=⟨b,0,none⟩) (.inl rfl) _
 have x2:=f2.heap x1 (oN (by omega))
 obtain⟨m0,m1,m2,m3,m4,m5,m6,m7⟩:=bL x2
 obtain⟨k0,k1⟩:=cG y2
 have kfr:=aF y2
 have hwvb:wv.ownBlock≠some b:=aV h.own h.box (by decide)
 have own2:W2.ownsRow 0 209 2 wv ws.length (ws.flatMap dE):=bK h1.own (f2.on (Z:=fun k=>wv.ownBlock=some k) (fun k hk=>⟨aX h1.own hk,fun e=>by simp only [Bl.one] at e;subst e;exact hwvb hk⟩)) (fun k hk=>hk)
 have hSA:∀ {X:World},Below W2.heap.size W2 X→On S w X:=fun {X} hX=>((vV b1 hS).trans (f2.on (fun k hk=>⟨jY (hS k hk) b1.size,fun e=>by simp only [Bl.one] at e;subst e;exact hSb hk⟩))).trans (vV hX (fun k hk=>jY (jY (hS k hk) b1.size) f2.size))
 have HC:Hid (∀ X,Below W2.heap.size W2 X→Calls Tryz.prog 89 #[.agg #[.int .i64 g.kind,.int .i64 g.ver,.int .i64 g.root,.int .i64 g.next,.slice ka g.keys.length kc,.slice ia g.kids.length ic,.slice ea g.ents.length ec,.string g.data]] X fun e w'=>e=.returned (.string g.encS)∧Below X.heap.size X w'):=fun X hX=>rN g ka ia ea kc ic ec S X (hP.on (hSA hX)) (fun k hk=>jY (jY (hS k hk) b1.size) (vJ f2.size hX.size)) hs hE
 have HF:Hid (∀ X,Below W2.heap.size W2 X→X.heap[w.heap.size]?=some (pgO g ka ia ea kc ic ec)∧X.heap[b]?=some (.cells #[.slice A fr.length (fc-1),wv] 220)∧X.ownsRow 0 209 2 wv ws.length (ws.flatMap dE)):=fun X hX=>⟨(hX.block _ (gL x2)).trans x2,(hX.block _ (gL y2)).trans y2,bK own2 (vV (Y:=fun k=>k<W2.heap.size) hX (fun k h=>h)) (fun k hk=>aX own2 hk)⟩
 have HAA:Hid ((if fc=1 then (some ⟨b0,o0,none⟩:Option Addr) else some ⟨b0,o0+1,none⟩)=A):=hA
 obtain⟨es,hes⟩:=nM (g.encS)
 rw [hes] at HC ⊢
 have hJ:Below W2.heap.size W2 W2:=Below.refl _ _
 have hf0:((fr.length:Int)+1==0)=false:=by simp;omega
 clear hes hSA
 go_enter Tryz.func180,Tryz.ntmps180
 go_wp2
 clear hA l0 l1 lfr hrc1 hbx
 refine qU (S:=(fun X=>X.cell? ⟨w.heap.size,0,none⟩=some (.int .i64 g.kind)∧X.cell? ⟨w.heap.size,1,none⟩=some (.int .i64 g.ver)∧X.cell? ⟨w.heap.size,2,none⟩=some (.int .i64 g.root)∧X.cell? ⟨w.heap.size,3,none⟩=some (.int .i64 g.next)∧X.cell? ⟨w.heap.size,4,none⟩=some (.slice ka g.keys.length kc)∧X.cell? ⟨w.heap.size,5,none⟩=some (.slice ia g.kids.length ic)∧X.cell? ⟨w.heap.size,6,none⟩=some (.slice ea g.ents.length ec)∧X.cell? ⟨w.heap.size,7,none⟩=some (.string g.data)∧X.cell? ⟨b,1,none⟩=some wv)) 13 (by kernel_rfl) ?_
 have hHeld:=(show ((fun X=>X.cell? ⟨w.heap.size,0,none⟩=some (.int .i64 g.kind)∧X.cell? ⟨w.heap.size,1,none⟩=some (.int .i64 g.ver)∧X.cell? ⟨w.heap.size,2,none⟩=some (.int .i64 g.root)∧X.cell? ⟨w.heap.size,3,none⟩=some (.int .i64 g.next)∧X.cell? ⟨w.heap.size,4,none⟩=some (.slice ka g.keys.length kc)∧X.cell? ⟨w.heap.size,5,none⟩=some (.slice ia g.kids.length ic)∧X.cell? ⟨w.heap.size,6,none⟩=some (.slice ea g.ents.length ec)∧X.cell? ⟨w.heap.size,7,none⟩=some (.string g.data)∧X.cell? ⟨b,1,none⟩=some wv)) W2.drew from ⟨m0,m1,m2,m3,m4,m5,m6,m7,k1⟩)
 refine cW (i:=0) (v:=.pointer (some ⟨b,0,none⟩)) rfl (by kernel_rfl) (fun _ _ _ h=>h) (.inl ⟨by rfl,fun w hSw=>by(try dsimp only at hSw);go_simp⟩) (by assumption) (fun hHeld=>?_)
 try simp only [Act.put,jV,jZ,jX]
 refine cW (i:=1) (v:=.pointer (some ⟨b,0,none⟩)) rfl (by kernel_rfl) (fun _ _ _ h=>h) (.inl ⟨by rfl,fun w hSw=>by(try dsimp only at hSw);go_simp⟩) (by assumption) (fun hHeld=>?_)
 try simp only [Act.put,jV,jZ,jX]
 refine cW (i:=2) (v:=.pointer (some ⟨b,0,none⟩)) rfl (by kernel_rfl) (fun _ _ _ h=>h) (.inl ⟨by rfl,fun w hSw=>by(try dsimp only at hSw);go_simp⟩) (by assumption) (fun hHeld=>?_)
 try simp only [Act.put,jV,jZ,jX]
 refine cW (i:=3) (v:=.pointer (some ⟨b,1,none⟩)) rfl (by kernel_rfl) (fun _ _ _ h=>h) (.inl ⟨by rfl,fun w hSw=>by(try dsimp only at hSw);go_simp⟩) (by assumption) (fun hHeld=>?_)
 try simp only [Act.put,jV,jZ,jX]
 refine cW (i:=4) (v:=wv) rfl (by kernel_rfl) (fun _ _ _ h=>h) (.inl ⟨by rfl,fun w hSw=>by(try dsimp only at hSw);go_simp⟩) (by assumption) (fun hHeld=>?_)
 try simp only [Act.put,jV,jZ,jX]
 refine cW (i:=5) (v:=.int .i64 p) rfl (by kernel_rfl) (fun _ _ _ h=>h) (.inl ⟨by rfl,fun w hSw=>by(try dsimp only at hSw);go_simp⟩) (by assumption) (fun hHeld=>?_)
 try simp only [Act.put,jV,jZ,jX]
 refine cW (i:=6) (v:=.agg #[.int .i64 g.kind,.int .i64 g.ver,.int .i64 g.root,.int .i64 g.next,.slice ka g.keys.length kc,.slice ia g.kids.length ic,.slice ea g.ents.length ec,.string g.data]) rfl (by kernel_rfl) (fun _ _ _ h=>h) (.inl ⟨by rfl,fun w hSw=>by(try dsimp only at hSw);go_simp⟩) (by assumption) (fun hHeld=>?_)
 try simp only [Act.put,jV,jZ,jX]
 refine gR (i:=7) (by kernel_rfl) rfl (fun K hK=>?_)
 go_simp
 (go_at_call 89;(with_reducible refine jC (HC.out _ ?_) ?_);exact hJ.drew;rintro e we ⟨rfl,hbe⟩;have hJe:Below W2.heap.size W2 we:=hJ.drew.trans hbe;obtain⟨xe,ye,owne⟩:=HF.out we hJe;obtain⟨m0,m1,m2,m3,m4,m5,m6,m7⟩:=bL xe;obtain⟨k0,k1⟩:=cG ye;have xeA:=aB (.cells #[.int .i64 p,.string es] 209) xe;obtain⟨n0,n1,n2,n3,n4,n5,n6,n7⟩:=bL xeA;have yeA:=aB (.cells #[.int .i64 p,.string es] 209) ye;obtain⟨kk0,kk1⟩:=cG yeA)
 simp only []
 refine hK.out _ _ (fun _=>⟨m0,m1,m2,m3,m4,m5,m6,m7,k1⟩) ?_
 clear hK K
 try simp only [Act.put,jV,jZ,jX]
 have hHeld:=(show ((fun X=>X.cell? ⟨w.heap.size,0,none⟩=some (.int .i64 g.kind)∧X.cell? ⟨w.heap.size,1,none⟩=some (.int .i64 g.ver)∧X.cell? ⟨w.heap.size,2,none⟩=some (.int .i64 g.root)∧X.cell? ⟨w.heap.size,3,none⟩=some (.int .i64 g.next)∧X.cell? ⟨w.heap.size,4,none⟩=some (.slice ka g.keys.length kc)∧X.cell? ⟨w.heap.size,5,none⟩=some (.slice ia g.kids.length ic)∧X.cell? ⟨w.heap.size,6,none⟩=some (.slice ea g.ents.length ec)∧X.cell? ⟨w.heap.size,7,none⟩=some (.string g.data)∧X.cell? ⟨b,1,none⟩=some wv)) we from ⟨m0,m1,m2,m3,m4,m5,m6,m7,k1⟩)
 refine cW (i:=8) (v:=.agg #[.int .i64 p,.string es]) rfl (by kernel_rfl) (fun _ _ _ h=>h) (.inl ⟨by rfl,fun w hSw=>by(try dsimp only at hSw);go_simp⟩) (by assumption) (fun hHeld=>?_)
 try simp only [Act.put,jV,jZ,jX]
 refine gR (i:=9) (by kernel_rfl) rfl (fun K hK=>?_)
 go_simp
 refine hK.out _ _ (fun _=>⟨n0,n1,n2,n3,n4,n5,n6,n7,kk1⟩) ?_
 clear hK K
 try simp only [Act.put,jV,jZ,jX]
 refine gR (i:=10) (by kernel_rfl) rfl (fun K hK=>?_)
 (refine kN we rfl (.tmp 31) (.tmp 36) 177 209 _ 2 24 rfl Tryz.underlying177 qFc rfl (by decide) wv ws.length (ws.flatMap dE) (by simp [Act.eval,Act.put]) owne [.int .i64 p,.string es] (by simp [Act.eval,Act.put]) rfl (by simp [Value.oneCell']) (by omega) (by omega) ?_;intro v3 w3 A3;obtain⟨g3,k3,rfl⟩:=A3.shape (by decide);have y3:=A3.fr.heap ye (aV owne ye (by decide));have x3:=A3.fr.heap xe (aV owne xe (by decide));obtain⟨m0,m1,m2,m3,m4,m5,m6,m7⟩:=bL x3;obtain⟨k0,k1⟩:=cG y3;have kfr:=aF y3)
 refine hK.out _ _ (fun _=>⟨m0,m1,m2,m3,m4,m5,m6,m7,k1⟩) ?_
 clear hK K
 try simp only [Act.put,jV,jZ,jX]
 have hHeld:=(show ((fun X=>X.cell? ⟨w.heap.size,0,none⟩=some (.int .i64 g.kind)∧X.cell? ⟨w.heap.size,1,none⟩=some (.int .i64 g.ver)∧X.cell? ⟨w.heap.size,2,none⟩=some (.int .i64 g.root)∧X.cell? ⟨w.heap.size,3,none⟩=some (.int .i64 g.next)∧X.cell? ⟨w.heap.size,4,none⟩=some (.slice ka g.keys.length kc)∧X.cell? ⟨w.heap.size,5,none⟩=some (.slice ia g.kids.length ic)∧X.cell? ⟨w.heap.size,6,none⟩=some (.slice ea g.ents.length ec)∧X.cell? ⟨w.heap.size,7,none⟩=some (.string g.data)∧X.cell? ⟨b,1,none⟩=some wv)) w3 from ⟨m0,m1,m2,m3,m4,m5,m6,m7,k1⟩)
 refine cW (i:=11) (v:=.pointer (some ⟨b,0,none⟩)) rfl (by kernel_rfl) (fun _ _ _ h=>h) (.inl ⟨by rfl,fun w hSw=>by(try dsimp only at hSw);go_simp⟩) (by assumption) (fun hHeld=>?_)
 try simp only [Act.put,jV,jZ,jX]
 refine cW (i:=12) (v:=.pointer (some ⟨b,1,none⟩)) rfl (by kernel_rfl) (fun _ _ _ h=>h) (.inl ⟨by rfl,fun w hSw=>by(try dsimp only at hSw);go_simp⟩) (by assumption) (fun hHeld=>?_)
 try simp only [Act.put,jV,jZ,jX]
 refine gR (i:=13) (by kernel_rfl) rfl (fun K hK=>?_)
 go_simp
 refine hK.out _ _ (fun e=>by cases e) ?_
 clear hK K
 try simp only [Act.put,jV,jZ,jX]
 refine xY (by kernel_rfl) ?_ _
 all_goals go_wp2
 all_goals go_ret
 all_goals
  have hfin:=aD y3 1 (.slice (some ⟨g3,0,none⟩) (ws.length+1) k3)
  have hw2:w.heap.size≤W2.heap.size:=vJ b1.size f2.size
  have hwe:w.heap.size≤we.heap.size:=vJ hw2 hJe.size
  have F:Fr (fpL b wv) w (w3.setCell ⟨b,1,none⟩ (.slice (some ⟨g3,0,none⟩) (ws.length+1) k3)):=((((Fr.of_below b1).trans (f2.mono (fun k hk=>.inl (.inl hk)))).trans ((Fr.of_below hJe).mono (fun k hk=>.inl hk))).trans (A3.fr.mono (fun k hk=>.inl (.inr hk)))).setCell (p:=⟨b,1,none⟩) (.inl (.inl rfl)) _
  have hlies:∀ k,(Value.slice (some ⟨g3,0,none⟩) (ws.length+1) k3).ownBlock=some k→wv.ownBlock=some k∨w.heap.size≤k:=fun k hk=>(A3.lies k hk).imp id (fun h=>by omega)
  have hne3:(Value.slice (some ⟨g3,0,none⟩) (ws.length+1) k3).ownBlock≠some b:=aV A3.row y3 (by decide)
  refine⟨rfl,A,_,⟨by simpa using hfin,?_,?_,by omega,?_,?_⟩,F,hlies⟩
  ·have hr1:aH w Sf A (fr.map (fun n:Nat=>Value.int .i64 n)):=by
    refine aH.tail (v:=.int .i64 p) (by simpa using h.free) (fun hv=>?_)
    rw [← HAA.out,if_neg]
    intro e
    have:fr.length≠0:=fun e0=>hv (by rw [List.eq_nil_of_length_eq_zero e0];rfl)
    omega
   exact hr1.on (F.on (fun k hk=>⟨(h.apart k hk).1,fun e=>by rcases e with e|e;exact(h.apart k hk).2.1 e;exact(h.apart k hk).2.2 e⟩))
  ·intro hv
   rw [← HAA.out]
   split
   ·exact⟨_,_,rfl⟩
   ·exact⟨_,_,rfl⟩
  ·have hr:=A3.row
   have:w3.ownsRow 0 209 2 (.slice (some ⟨g3,0,none⟩) (ws.length+1) k3) (ws++[(p,es)]).length ((ws++[(p,es)]).flatMap dE):=by
    rw [jK,List.length_singleton,List.flatMap_append]
    exact hr
   exact bK this ((On.refl (fun k=>(Value.slice (some ⟨g3,0,none⟩) (ws.length+1) k3).ownBlock=some k) w3).setCell (p:=⟨b,1,none⟩) (fun hk=>hne3 hk) _) (fun k hk=>hk)
  ·intro k hk
   refine⟨jY (h.apart k hk).1 F.size,(h.apart k hk).2.1,fun e=>?_⟩
   rcases hlies k e with e|e
   ·exact(h.apart k hk).2.2 e
   ·have:=(h.apart k hk).1;omega
def enc1 (y:Nat×Pg):Nat×ByteArray:=(y.1,y.2.encS)
theorem Qi (next:Nat) (d:ByteArray) (h:d.size≤240):(gA next d).small:=by
 refine⟨by simp [gA],by simp [gA],by simp [gA],by simp [gA],?_,?_,?_⟩
 ·simp [gA,eE,aI]
 ·simp [gA,lK,aI]
 ·simp only [gA];omega
theorem Qf (w:World) (S:Bl) (g:Pg) (h1:g.keys=[]) (h2:g.kids=[]) (h3:g.ents=[]) (kc ic ec:Nat):Iu w S g none none none kc ic ec:=⟨.inl (by rw [h1];rfl),.inl (by rw [h2];rfl),.inl (by rw [h3];rfl)⟩
theorem Gb (b:Nat) (Sf:Bl):∀ (k:Nat) (v:ByteArray) (fa:Option Addr) (fc:Nat) (fr:List Nat) (wv:Value) (ws:List (Nat×ByteArray)) (w:World) (h:dY w b Sf fa fc fr wv ws) (hv:v.size≤240 * k) (hv2:v.size≤100000) (hl:(gI k v fr).length≤fr.length) (hp:∀ p∈fr,aS (p:Nat)=true) (hws:ws.length+k≤100000),
  Calls Tryz.prog 182 #[.pointer (some ⟨b,0,none⟩),.string v] w fun e w'=>e=.returned (.int .i64 (fB (gI k v fr):Nat)) ∧
   ∃ fa' fc' wv',dY w' b Sf fa' fc' (fr.drop (gI k v fr).length) wv' (ws++(gI k v fr).reverse.map enc1)∧Fr (fpL b wv) w w'∧∀ k,wv'.ownBlock=some k→wv.ownBlock=some k∨w.heap.size≤k
 | k,v,fa,fc,fr,wv,ws,w,h,hv,hv2,hl,hp,hws=>by
  by_cases h0:v.size=0
  ·have e0:v=⟨#[]⟩:=oQ h0
   subst e0
   rw [jL _ _ _ h0]
   go_enter Tryz.func182,Tryz.ntmps182
   go_wp2
   go_ret
   exact⟨rfl,fa,fc,wv,by simpa using h,Fr.refl _ _,fun k hk=>.inl hk⟩
  ·cases k with
   | zero=>omega
   | succ k =>
    have hne:¬ v=⟨#[]⟩:=fun e=>h0 (by rw [e];rfl)
    rw [jM _ _ _ h0] at hl ⊢
    rw [jB] at hl
    have ih:=Gb b Sf k (v.extract (min v.size 240) v.size) fa fc fr wv ws w.drew (h.fr ((Below.refl _ w).drew)) (by rw [dU _ _ _ (jU _)];omega) (by rw [dU _ _ _ (jU _)];omega) (by omega) hp (by omega)
    obtain⟨ch,hch⟩:=nM (gI k (v.extract (min v.size 240) v.size) fr)
    have hlen:=Cv k (v.extract (min v.size 240) v.size) fr
    have hmem:=rJ (k:=k) (v:=v.extract (min v.size 240) v.size) (fr:=fr) (by omega)
    rw [hch] at ih hl hlen hmem ⊢
    have hnx:fB ch=0∨aS (fB ch:Nat)=true:=by
     cases ch with
     | nil=>exact .inl rfl
     | cons y l=>exact .inr (hp _ (hmem y (by simp)))
    have hgetD:fr.getD ch.length 0=fr[ch.length]'(by omega):=by rw [List.getD_eq_getElem?_getD,jQ (by omega)];rfl
    obtain⟨pl,hpl⟩:=nM (fr[ch.length]'(by omega))
    have hdrop:fr.drop ch.length=pl :: fr.drop (ch.length+1):=by rw [List.drop_eq_getElem_cons (by omega),hpl]
    rw [hgetD,hpl]
    have hs0:(v.extract 0 (min v.size 240)).size=min v.size 240:=by rw [dU _ _ _ (by omega)];omega
    have HE:Hid ((gA (fB ch) (v.extract 0 (min v.size 240))).encE=0):=Oa _ _ hnx (by rw [hs0];omega) (by rw [hs0];omega)
    have HSm:Hid ((gA (fB ch) (v.extract 0 (min v.size 240))).small):=Qi _ _ (by rw [hs0];omega)
    have HPg:Hid (∀ (fa':Option Addr) (fc':Nat) (wv':Value) (w':World),dY w' b Sf fa' fc' (fr.drop ch.length) wv' (ws++ch.reverse.map enc1)→Calls Tryz.prog 180 #[.pointer (some ⟨b,0,none⟩),.agg #[.int .i64 4,.int .i64 0,.int .i64 0,.int .i64 (fB ch:Nat),.slice none 0 0,.slice none 0 0,.slice none 0 0,.string (v.extract 0 (min v.size 240))]] w' fun e w''=>e=.returned (.int .i64 pl) ∧
      ∃ fa'' wv'',dY w'' b Sf fa'' (fc'-1) (fr.drop (ch.length+1)) wv'' ((ws++ch.reverse.map enc1)++[(pl,(gA (fB ch) (v.extract 0 (min v.size 240))).encS)])∧Fr (fpL b wv') w' w''∧∀ k,wv''.ownBlock=some k→wv'.ownBlock=some k∨w'.heap.size≤k):=by
     intro fa' fc' wv' w' hL
     rw [hdrop] at hL
     exact Ca b Sf fa' fc' pl _ wv' _ (gA (fB ch) (v.extract 0 (min v.size 240))) none none none 0 0 0 Bl.none w' hL (Qf _ _ _ rfl rfl rfl 0 0 0) (fun _ h=>h.elim) (fun h=>h) HSm.out HE.out (by rw [jK,List.length_map,List.length_reverse];omega)
    obtain⟨sn,hsn⟩:=nM ((gA (fB ch) (v.extract 0 (min v.size 240))).encS)
    have HOUT:Hid (ws++((pl,gA (fB ch) (v.extract 0 (min v.size 240))) :: ch).reverse.map enc1=(ws++ch.reverse.map enc1)++[(pl,sn)]):=by
     show _=_
     rw [List.reverse_cons,List.map_append,← List.append_assoc,← hsn];rfl
    rw [hsn] at HPg
    have HHD:Hid (fB ((pl,gA (fB ch) (v.extract 0 (min v.size 240))) :: ch)=pl):=rfl
    rw [HOUT.out,HHD.out,jB]
    obtain⟨hd,hhd⟩:=nM (fB ch)
    rw [hhd] at ih HPg
    clear hch hlen hmem hnx hgetD hpl hdrop hs0 HE HSm hsn HOUT HHD hhd
    have hie:v.toList.isEmpty=false:=Mz.2 hne
    by_cases hle:v.size≤240
    ·have hmin:min v.size 240=v.size:=by omega
     rw [hmin] at ih HPg
     have he1:v.extract v.size v.size=ByteArray.empty:=by rw [oQ (a:=v.extract v.size v.size) (by rw [dU _ _ _ (jU _)];omega)];rfl
     have he2:v.extract 0 v.size=v:=extract_all (jU _)
     rw [he1] at ih
     rw [he2] at HPg
     have hle':(v.size:Int)≤240:=by omega
     clear hmin
     go_enter Tryz.func182,Tryz.ntmps182
     go_wp2
     go_region_held3 (fun _=>True) (trivial)
      (first
       | (go_at_call 182;(with_reducible refine jC ih ?_);rintro e wt ⟨rfl,fa',fc',wv',hL,hF0,hli⟩;have hF:Fr (fpL b wv) w wt:=(Fr.refl _ w).drew.trans hF0;have hPc:=HPg.out fa' fc' wv' wt hL)
       | (go_at_call 180;(with_reducible refine jC hPc ?_);rintro e wp ⟨rfl,fa2,wv2,hL2,hF2,hli2⟩))
     all_goals go_wp2
     all_goals go_ret
     all_goals
      refine⟨rfl,fa2,_,wv2,hL2,hF.grow hF2 (fun k hk=>?_),fun k hk=>?_⟩
      ·rcases hk with hk|hk
       ·exact .inl (.inl hk)
       ·exact(hli k hk).imp (fun h=>.inr h) id
      ·rcases hli2 k hk with h1|h1
       ·exact hli k h1
       ·exact .inr (vJ hF.size h1)
    ·have hmin:min v.size 240=240:=by omega
     rw [hmin] at ih HPg
     have hle':¬ (v.size:Int)≤240:=by omega
     have hgt:(240:Int)≤(v.size:Int):=by omega
     have hgn:240≤v.size:=by omega
     clear hmin
     go_enter Tryz.func182,Tryz.ntmps182
     go_wp2
     go_region_held3 (fun _=>True) (trivial)
      (first
       | (go_at_call 182;(with_reducible refine jC ih ?_);rintro e wt ⟨rfl,fa',fc',wv',hL,hF0,hli⟩;have hF:Fr (fpL b wv) w wt:=(Fr.refl _ w).drew.trans hF0;have hPc:=HPg.out fa' fc' wv' wt hL)
       | (go_at_call 180;(with_reducible refine jC hPc ?_);rintro e wp ⟨rfl,fa2,wv2,hL2,hF2,hli2⟩))
     all_goals go_wp2
     all_goals go_ret
     all_goals
      refine⟨rfl,fa2,_,wv2,hL2,hF.grow hF2 (fun k hk=>?_),fun k hk=>?_⟩
      ·rcases hk with hk|hk
       ·exact .inl (.inl hk)
       ·exact(hli k hk).imp (fun h=>.inr h) id
      ·rcases hli2 k hk with h1|h1
       ·exact hli k h1
       ·exact .inr (vJ hF.size h1)
