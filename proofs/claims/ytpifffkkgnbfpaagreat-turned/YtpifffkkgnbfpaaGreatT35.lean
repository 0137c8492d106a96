import Derived.Test.YtpifffkkgnbfpaaGreatT34
set_option linter.unusedSimpArgs false
set_option linter.unusedVariables false
set_option maxRecDepth 100000
set_option maxHeartbeats 8000000
namespace Go.Proofs.YtpifffkkgnbfpaaGreat.Tree
open Go.RowKit Pages
variable {K:List ByteArray} {fs:Fs} {n:Nat} {o:Option (Nat×T)} {w wq:World}
structure qEc (K:List ByteArray) (n:Nat) (w wq:World) (D:Db) (j:Nat) (o ao:Option (Nat×T)):Prop where
 db:aO wq 0 D
 well:D.fs.well
 failed:D.failed=false
 ver:D.ver=j
 root:D.root=rootOf o
 aroot:D.aroot=rootOf ao
 last0:0≤D.last
 last1:D.last≤j
 store:gK K n D.fs j o ao
 new:∀ k,fpD D k→w.heap.size≤k
 below:Below w.heap.size w wq
def Idle (D:Db):Prop:=D.ts=[]
theorem qAu {w wq w':World} {Y:Bl} (hb:Below w.heap.size w wq) (f:Fr Y wq w') (h:∀ k,Y k→w.heap.size≤k):Below w.heap.size w w':=hb.trans (f.below hb.size h)
theorem qAp {Y Y':Bl} (hb:Below w.heap.size w wq) (h:∀ k,Y k→w.heap.size≤k) (g:aH wq Y Y'):∀ k,Y' k→w.heap.size≤k:=fun k hk=>(g k hk).elim (h k) (fun h'=>vJ hb.size h')
structure Dq (K:List ByteArray) (cs:List Ch):Prop where
 rise:cI cs
 good:∀ c∈cs,c.good
 keys:∀ c∈cs,c.key∈K
 len:cs.length≤1000
theorem Dq.with {cs:List Ch} (h:Dq K cs) (hl:cs.length<1000) (c:Ch) (hg:c.good) (hk:c.key∈K):Dq K (cY cs c)∧0<(cY cs c).length∧(cY cs c).length≤cs.length+1:=by
 have hlen:(cY cs c).length≤cs.length+1∧0<(cY cs c).length:=by
  rw [tF h.rise,jK,jB,List.length_take,List.length_drop]
  have:=pN cs c.key
  constructor
  ·split<;>omega
  ·omega
 refine⟨⟨Et h.rise c,fun x hx=>?_,fun x hx=>?_,by omega⟩,hlen.2,hlen.1⟩
 ·rcases (iB h.rise c x).1 hx with rfl|⟨h1,_⟩
  ·exact hg
  ·exact h.good x h1
 ·rcases (iB h.rise c x).1 hx with rfl|⟨h1,_⟩
  ·exact hk
  ·exact h.keys x h1
structure KOk (K:List ByteArray) (n:Nat):Prop where
 k24:∀ k∈K,k.size≤24
 ksum:3+tot (fun k:ByteArray=>k.size+3) K≤250
 n40:40≤n
 small:n≤4096
 room:3 * (1+3 * K.length)+2≤n
structure qCd (w wq:World) (β:Nat) (sv lv:Value) (fs:Fs):Prop where
 file:aD wq β sv lv fs
 new:∀ k,fpF β sv lv k→w.heap.size≤k
 below:Below w.heap.size w wq
theorem qDo {β:Nat} {sv lv:Value}  (hf:aD wq β sv lv fs) (hb:Below w.heap.size w wq) :
  Calls Tryz.prog 14 #[.pointer (some ⟨β,0,none⟩)] wq fun e w'=>∃ β' sv' lv',e=.returned (.pointer (some ⟨β',0,none⟩))∧qCd w w' β' sv' lv' fs:=by
 refine(Np β sv lv fs wq hf).mono ?_
 rintro e w' ⟨β',sv',lv',rfl,hf',hb',hn⟩
 exact⟨β',sv',lv',rfl,hf',fun k hk=>vJ hb.size (hn k hk),hb.trans (hb'.mono hb.size)⟩
theorem Sz {β:Nat} {sv lv:Value}  {j:Nat} {o ao:Option (Nat×T)} (h:qCd w wq β sv lv fs) (S:gK K n fs j o ao) (hw:fs.well) (hn:40≤n) :
  Calls Tryz.prog 16 #[.pointer (some ⟨β,0,none⟩)] wq fun e w'=>∃ D,e=.returned (.tuple #[.pointer (some ⟨D.d,0,none⟩),.int .i64 0])∧qEc K n w w' D j o ao∧Idle D∧D.β=β:=by
 refine(Lj S hn hw β sv lv wq h.file).mono ?_
 rintro e w' ⟨D,rfl,hD,h1,h2,h3,h4,h5,h6,h7,h8,h9,hF,hG⟩
 exact⟨D,rfl,⟨hD,h3▸hw,h7,h4,h5,h6,by rw [h8];exact Int.le_refl _,by rw [h8];exact Int.natCast_nonneg _,h3▸S,qAp h.below h.new hG,qAu h.below hF h.new⟩,h9,h1⟩
theorem qAs (hn:40≤n) (hn2:n≤4096) (w:World) :
  Calls Tryz.prog 10 #[.int .i64 (n:Nat)] w fun e w'=>∃ D,e=.returned (.tuple #[.pointer (some ⟨D.d,0,none⟩),.pointer (some ⟨D.β,0,none⟩)])∧qEc K n w w' D 0 none none∧Idle D:=by
 have hS:gK K n (Fs.new n) 0 none none:=Uq K n (by omega)
 have hw:(Fs.new n).well:=⟨rfl,rfl⟩
 have hNw:=qCv n w hn2
 go_enter Tryz.func10,Tryz.ntmps10
 go_wp2_with (first
  | (go_at_call 33;(with_reducible refine jC hNw ?_);rintro e X1 ⟨β,sv,lv,rfl,hf1,hb1,hn1⟩;have hO1:=Sz (K:=K) (w:=w) ⟨hf1,hn1,hb1⟩ hS hw hn)
  | (go_at_call 16;(with_reducible refine jC hO1 ?_);rintro e X2 ⟨D0,rfl,hL0,hi0,hβ0⟩;subst hβ0;have HL0:Hid _:=hL0;have hC:=qDo (w:=w) hL0.db.file hL0.below;clear hL0)
  | (go_at_call 14;(with_reducible refine jC hC ?_);rintro e X3 ⟨β',sv',lv',rfl,hf3⟩;have hO2:=Sz (K:=K) hf3 HL0.out.store HL0.out.well hn)
  | (go_at_call 16;(with_reducible refine jC hO2 ?_);rintro e X4 ⟨D,rfl,hL,hi,hβ⟩;subst hβ))
 go_ret2
 exact⟨D,rfl,hL,hi⟩
theorem Wp (key k:ByteArray):(mO key).has k=true↔k=key:=by
 have happ:(key++(⟨#[0]⟩:ByteArray)).toList=key.toList++[0]:=by
  rw [ByteArray.toList_eq,ByteArray.toList_eq];simp
 have hne:(key++(⟨#[0]⟩:ByteArray))≠⟨#[]⟩:=fun e=>by
  have:=congrArg ByteArray.toList e
  rw [happ] at this
  have h2:(⟨#[]⟩:ByteArray).toList=[]:=by rw [ByteArray.toList_eq]
  rw [h2] at this
  simp at this
 constructor
 ·intro h
  simp only [mO,Sp.has,Bool.and_eq_true,eV] at h
  rcases h.2 with h2|h2
  ·exact absurd h2 hne
  ·unfold lt at h2
   rw [happ] at h2
   rcases Ud _ _ h2 with h3|h3
   ·have:=Bs.2 h.1
    rw [show lt k key=true from h3] at this;cases this
   ·exact pL h3
 ·rintro rfl
  simp only [mO,Sp.has,Bool.and_eq_true,eV]
  refine⟨bG _,.inr ?_⟩
  unfold lt
  rw [happ]
  exact Uc _
theorem Br {root:Nat}  (hro:aY fs root o) (hf:gQ o):∀ x∈eY o,x.good fs:=fun x hx=>by
 obtain⟨h1,h2⟩:=mM (cs:=[]) hro hf .nil (by simp)
 exact h1.good x (by rw [h2];exact(dG (gO hro) .nil x).2 (.inr ⟨hx,by simp⟩))
theorem Aa {x:En} (h:x.good fs):x.ok fs∧(x.e.over≠0→x.e.size≠0):=by
 obtain⟨_,_,⟨h1,h2,h3,h4⟩|⟨_,_,size,over,h1,h2,h3,h4,h5⟩⟩:=h
 ·exact⟨⟨x.e.val.size,0,h3,h1,h4,.inl ⟨rfl,h2⟩⟩,fun h=>absurd h1 h⟩
 ·refine⟨⟨size,over,h1,h2,h4,?_⟩,fun _=>by rw [h1];omega⟩
  rcases Nat.eq_zero_or_pos over with rfl|h
  ·rename_i hp
   rw [h2] at hp
   simp [aQ] at hp
  ·exact .inr ⟨h,h5⟩
def iN (o:Option (Nat×T)) (cs:List Ch) (key:ByteArray):Option (List UInt8):=valOf (bI (eY o) cs) key
theorem Hi {root:Nat}  {cs:List Ch} {key:ByteArray} {E:Ent} (hro:aY fs root o) (hf:gQ o) (hr:cI cs) (hc:∀ c∈cs,c.good) (h1:fnd cs key=true→∀ c,cs[cL cs key]?=some c→E=(chE c).e) (h2:fnd cs key=false→∀ x xs,cK (mO key) o=x :: xs→E=x.e) :
  (gX o cs key=false∧iN o cs key=none)∨∃ X:En,X.good fs∧E=X.e∧gX o cs key=true∧iN o cs key=some X.value:=by
 have hre:=gO hro
 unfold iN
 rw [Bo hre hr]
 cases hfd:fnd cs key with
 | true =>
  obtain⟨h0,hk⟩:=tZ hfd hr
  have hg:=hc _ (List.getElem_mem h0)
  have hE:=h1 hfd _ (jQ h0)
  have hfi:cs.find? (fun c=>decide (c.key=key))=some (cs[cL cs key]):=by
   cases hq:cs.find? (fun c=>decide (c.key=key)) with
   | none=>have:=List.find?_eq_none.1 hq _ (List.getElem_mem h0);simp [hk] at this
   | some c =>
    have a1:=List.mem_of_find?_eq_some hq
    have a2:c.key=key:=by simpa using List.find?_some hq
    obtain⟨i,hi,rfl⟩:=List.getElem_of_mem a1
    rcases Nat.lt_trichotomy i (cL cs key) with h|h|h
    ·have:=List.pairwise_iff_getElem.1 hr i _ hi h0 h
     rw [a2,hk,bV] at this;cases this
    ·subst h;rfl
    ·have:=List.pairwise_iff_getElem.1 hr _ i h0 hi h
     rw [a2,hk,bV] at this;cases this
  rw [hfi]
  simp only
  unfold gX
  rw [if_pos hfd,jQ h0]
  cases hgo:(cs[cL cs key]).gone with
  | true=>left;exact⟨by simp [hgo],by simp⟩
  | false=>right;exact⟨chE _,Ny hg,hE,by simp [hgo],by simp [En.value,chE]⟩
 | false =>
  have hno:cs.find? (fun c=>decide (c.key=key))=none:=by
   refine List.find?_eq_none.2 fun c hcm=>?_
   simp only [decide_eq_true_eq]
   intro e
   have:=(Ab hr key).2 ⟨c,hcm,e⟩
   rw [hfd] at this;cases this
  rw [hno]
  simp only
  unfold gX
  rw [if_neg (by rw [hfd];simp)]
  have hst:=tM hro (mO key)
  have hfil:(eY o).filter (fun x=>(mO key).has x.e.key)=(eY o).filter (fun x=>decide (x.e.key=key)):=List.filter_congr (fun x _=>by
   rw [Bool.eq_iff_iff,Wp];simp)
  rw [hfil] at hst
  unfold valOf
  cases hl:cK (mO key) o with
  | nil =>
   left
   refine⟨rfl,?_⟩
   rw [hl] at hst
   have:(eY o).find? (fun x=>decide (x.e.key=key))=none:=List.find?_eq_none.2 fun x hx=>by
    have:=List.filter_eq_nil_iff.1 hst.symm x hx
    exact this
   rw [this];rfl
  | cons x xs =>
   right
   have hh:(eY o).find? (fun x=>decide (x.e.key=key))=some x:=by
    rw [← List.head?_filter,← hst,hl];rfl
   exact⟨x,Br hro hf x (List.mem_of_find?_eq_some hh),h2 hfd x xs hl,rfl,by rw [hh];rfl⟩
def bT:List ByteArray:=[⟨#[0]⟩,⟨#[97]⟩,⟨#[97,97]⟩,⟨#[97,98]⟩,⟨#[98]⟩,⟨#[107,107,107,107,107,107,107,107,107,107,107,107,107,107,107,107,107,107,107,107,107,107,107,97]⟩,⟨#[107,107,107,107,107,107,107,107,107,107,107,107,107,107,107,107,107,107,107,107,107,107,107,98]⟩,⟨#[107,107,107,107,107,107,107,107,107,107,107,107,107,107,107,107,107,107,107,107,107,107,107,99]⟩,⟨#[109]⟩,⟨#[110]⟩,⟨#[122]⟩,⟨#[255]⟩]
theorem rD:∀ k∈bT,1≤k.size∧k.size≤24:=by decide
theorem qEq:∀ k∈bT,lt ⟨#[]⟩ k=true:=by decide +kernel
theorem kOk (h1:120≤n) (h2:n≤4096):KOk bT n:=⟨fun k hk=>(rD k hk).2,by decide,by omega,h2,by show 3 * (1+3 * 12)+2≤n;omega⟩
theorem Iz (k:Nat) (hk:k<12) (w:World) :
  Calls Tryz.prog 24 #[.int .i64 (k:Nat)] w fun e w'=>e=.returned (.string (bT[k]'hk))∧Below w.heap.size w w':=by
 obtain⟨kk,hkk⟩:=nM (bT[k]'hk)
 have hx:=aA w (.cells (bT.map Value.string).toArray 9)
 have hc:(w.alloc (.cells (bT.map Value.string).toArray 9)).cell? ⟨w.heap.size,k,none⟩=some (.string kk):=by
  have hq:bT[k]?=some kk:=List.getElem?_eq_some_iff.2 ⟨hk,hkk⟩
  unfold World.cell?
  dsimp only
  rw [hx]
  simp [hq]
 have HB:Hid (Below w.heap.size w (w.alloc (.cells (bT.map Value.string).toArray 9))):=bA _ _
 have hki:(k:Int)<12:=by omega
 rw [hkk]
 clear hx hkk
 simp only [bT,List.map_cons,List.map_nil] at hc HB
 go_enter Tryz.func24,Tryz.ntmps24
 go_wp2
 go_ret
 exact⟨rfl,HB.out⟩
theorem rE (k:Nat) (hk:k<12):bT[k]'hk∈bT:=List.getElem_mem _
theorem Lb (k:Nat) (hk:k<12) (v:ByteArray) (hv:v.size≤400) (g:Bool):(⟨bT[k]'hk,v,g⟩:Ch).good:=⟨qEq _ (rE k hk),(rD _ (rE k hk)).2,hv⟩
def kR (c n:Int):Int:=if c<0 then (-(c+1)) % n else c % n
theorem eA (c n:Int) (hn:0<n):0≤kR c n∧kR c n<n:=by
 unfold kR
 split
 ·exact⟨Int.emod_nonneg _ (by omega),Int.emod_lt_of_pos _ hn⟩
 ·exact⟨Int.emod_nonneg _ (by omega),Int.emod_lt_of_pos _ hn⟩
theorem oM (c n:Int) (w:World) (h0 : -9223372036854775808≤c) (h1:c≤9223372036854775807) (hn:0<n) :
  Calls Tryz.prog 22 #[.int .i64 c,.int .i64 n] w fun e w'=>e=.returned (.int .i64 (kR c n))∧w'=w:=by
 have hn0:n≠0:=by omega
 by_cases hc:c<0
 ·go_enter Tryz.func22,Tryz.ntmps22
  go_wp2
  go_ret
  have e : -((c+1).tmod n)=(-(c+1)) % n:=by rw [← Int.neg_tmod,Int.tmod_eq_emod_of_nonneg (by omega)]
  exact⟨by rw [e,kR,if_pos hc];rfl,rfl⟩
 ·go_enter Tryz.func22,Tryz.ntmps22
  go_wp2
  go_ret
  exact⟨by rw [kR,if_neg (by omega)];rfl,rfl⟩
