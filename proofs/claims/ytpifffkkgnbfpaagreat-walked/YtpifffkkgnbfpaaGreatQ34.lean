import Derived.Test.YtpifffkkgnbfpaaGreatQ33
set_option linter.unusedSimpArgs false
set_option linter.unusedVariables false
set_option maxRecDepth 100000
set_option maxHeartbeats 8000000
namespace Go.Proofs.YtpifffkkgnbfpaaGreat.Tree
open Go.RowKit Pages
variable {K:List ByteArray} {fs:Fs} {n:Nat} {o:Option (Nat×T)} {w wq:World}
structure qDs (K:List ByteArray) (n:Nat) (w wq:World) (D:Db) (j:Nat) (o ao:Option (Nat×T)):Prop where
 db:aM wq 0 D
 well:D.fs.well
 failed:D.failed=false
 ver:D.ver=j
 root:D.root=rootOf o
 aroot:D.aroot=rootOf ao
 last0:0≤D.last
 last1:D.last≤j
 store:lH K n D.fs j o ao
 new:∀ k,fpD D k→w.heap.size≤k
 below:Below w.heap.size w wq
def Idle (D:Db):Prop:=D.ts=[]
theorem qAc {w wq w':World} {Y:Bl} (hb:Below w.heap.size w wq) (f:Fr Y wq w') (h:∀ k,Y k→w.heap.size≤k):Below w.heap.size w w':=hb.trans (f.below hb.size h)
theorem Zx {Y Y':Bl} (hb:Below w.heap.size w wq) (h:∀ k,Y k→w.heap.size≤k) (g:aI wq Y Y'):∀ k,Y' k→w.heap.size≤k:=fun k hk=>(g k hk).elim (h k) (fun h'=>vJ hb.size h')
structure kZ (K:List ByteArray) (cs:List Ch):Prop where
 rise:cH cs
 good:∀ c∈cs,c.good
 keys:∀ c∈cs,c.key∈K
 len:cs.length≤1000
theorem kZ.with {cs:List Ch} (h:kZ K cs) (hl:cs.length<1000) (c:Ch) (hg:c.good) (hk:c.key∈K):kZ K (cL cs c)∧0<(cL cs c).length∧(cL cs c).length≤cs.length+1:=by
 have hlen:(cL cs c).length≤cs.length+1∧0<(cL cs c).length:=by
  rw [tF h.rise,jK,jB,List.length_take,List.length_drop]
  have:=pK cs c.key
  constructor
  ·split<;>omega
  ·omega
 refine⟨⟨Fg h.rise c,fun x hx=>?_,fun x hx=>?_,by omega⟩,hlen.2,hlen.1⟩
 ·rcases (iJ h.rise c x).1 hx with rfl|⟨h1,_⟩
  ·exact hg
  ·exact h.good x h1
 ·rcases (iJ h.rise c x).1 hx with rfl|⟨h1,_⟩
  ·exact hk
  ·exact h.keys x h1
structure KOk (K:List ByteArray) (n:Nat):Prop where
 k24:∀ k∈K,k.size≤24
 ksum:3+tot (fun k:ByteArray=>k.size+3) K≤250
 n40:40≤n
 small:n≤4096
 room:3 * (1+3 * K.length)+2≤n
structure qBn (w wq:World) (β:Nat) (sv lv:Value) (fs:Fs):Prop where
 file:aG wq β sv lv fs
 new:∀ k,fpF β sv lv k→w.heap.size≤k
 below:Below w.heap.size w wq
theorem qCw {β:Nat} {sv lv:Value}  (hf:aG wq β sv lv fs) (hb:Below w.heap.size w wq) :
  Calls Tryz.prog 14 #[.pointer (some ⟨β,0,none⟩)] wq fun e w'=>∃ β' sv' lv',e=.returned (.pointer (some ⟨β',0,none⟩))∧qBn w w' β' sv' lv' fs:=by
 refine(qAu β sv lv fs wq hf).mono ?_
 rintro e w' ⟨β',sv',lv',rfl,hf',hb',hn⟩
 exact⟨β',sv',lv',rfl,hf',fun k hk=>vJ hb.size (hn k hk),hb.trans (hb'.mono hb.size)⟩
theorem Sr {β:Nat} {sv lv:Value}  {j:Nat} {o ao:Option (Nat×T)} (h:qBn w wq β sv lv fs) (S:lH K n fs j o ao) (hw:fs.well) (hn:40≤n) :
  Calls Tryz.prog 16 #[.pointer (some ⟨β,0,none⟩)] wq fun e w'=>∃ D,e=.returned (.tuple #[.pointer (some ⟨D.d,0,none⟩),.int .i64 0])∧qDs K n w w' D j o ao∧Idle D∧D.β=β:=by
 refine(Za S hn hw β sv lv wq h.file).mono ?_
 rintro e w' ⟨D,rfl,hD,h1,h2,h3,h4,h5,h6,h7,h8,h9,hF,hG⟩
 exact⟨D,rfl,⟨hD,h3▸hw,h7,h4,h5,h6,by rw [h8];exact Int.le_refl _,by rw [h8];exact Int.natCast_nonneg _,h3▸S,Zx h.below h.new hG,qAc h.below hF h.new⟩,h9,h1⟩
theorem qAa (hn:40≤n) (hn2:n≤4096) (w:World) :
  Calls Tryz.prog 10 #[.int .i64 (n:Nat)] w fun e w'=>∃ D,e=.returned (.tuple #[.pointer (some ⟨D.d,0,none⟩),.pointer (some ⟨D.β,0,none⟩)])∧qDs K n w w' D 0 none none∧Idle D:=by
 have hS:lH K n (Fs.new n) 0 none none:=Ue K n (by omega)
 have hw:(Fs.new n).well:=⟨rfl,rfl⟩
 have hNw:=qCb n w hn2
 go_enter Tryz.func10,Tryz.ntmps10
 go_wp2_with (first
  | (go_at_call 33;(with_reducible refine jC hNw ?_);rintro e X1 ⟨β,sv,lv,rfl,hf1,hb1,hn1⟩;have hO1:=Sr (K:=K) (w:=w) ⟨hf1,hn1,hb1⟩ hS hw hn)
  | (go_at_call 16;(with_reducible refine jC hO1 ?_);rintro e X2 ⟨D0,rfl,hL0,hi0,hβ0⟩;subst hβ0;have HL0:Hid _:=hL0;have hC:=qCw (w:=w) hL0.db.file hL0.below;clear hL0)
  | (go_at_call 14;(with_reducible refine jC hC ?_);rintro e X3 ⟨β',sv',lv',rfl,hf3⟩;have hO2:=Sr (K:=K) hf3 HL0.out.store HL0.out.well hn)
  | (go_at_call 16;(with_reducible refine jC hO2 ?_);rintro e X4 ⟨D,rfl,hL,hi,hβ⟩;subst hβ))
 go_ret2
 exact⟨D,rfl,hL,hi⟩
theorem Vs (key k:ByteArray):(mM key).has k=true↔k=key:=by
 have happ:(key++(⟨#[0]⟩:ByteArray)).toList=key.toList++[0]:=by
  rw [ByteArray.toList_eq,ByteArray.toList_eq];simp
 have hne:(key++(⟨#[0]⟩:ByteArray))≠⟨#[]⟩:=fun e=>by
  have:=congrArg ByteArray.toList e
  rw [happ] at this
  have h2:(⟨#[]⟩:ByteArray).toList=[]:=by rw [ByteArray.toList_eq]
  rw [h2] at this
  simp at this
 constructor
 ·intro h
  simp only [mM,Sp.has,Bool.and_eq_true,fA] at h
  rcases h.2 with h2|h2
  ·exact absurd h2 hne
  ·unfold lt at h2
   rw [happ] at h2
   rcases Tu _ _ h2 with h3|h3
   ·have:=Bu.2 h.1
    rw [show lt k key=true from h3] at this;cases this
   ·exact pH h3
 ·rintro rfl
  simp only [mM,Sp.has,Bool.and_eq_true,fA]
  refine⟨bK _,.inr ?_⟩
  unfold lt
  rw [happ]
  exact Tt _
theorem Bt {root:Nat}  (hro:bI fs root o) (hf:fW o):∀ x∈dD o,x.good fs:=fun x hx=>by
 obtain⟨h1,h2⟩:=mJ (cs:=[]) hro hf .nil (by simp)
 exact h1.good x (by rw [h2];exact(dI (dX hro) .nil x).2 (.inr ⟨hx,by simp⟩))
theorem Aa {x:En} (h:x.good fs):x.ok fs∧(x.e.over≠0→x.e.size≠0):=by
 obtain⟨_,_,⟨h1,h2,h3,h4⟩|⟨_,_,size,over,h1,h2,h3,h4,h5⟩⟩:=h
 ·exact⟨⟨x.e.val.size,0,h3,h1,h4,.inl ⟨rfl,h2⟩⟩,fun h=>absurd h1 h⟩
 ·refine⟨⟨size,over,h1,h2,h4,?_⟩,fun _=>by rw [h1];omega⟩
  rcases Nat.eq_zero_or_pos over with rfl|h
  ·rename_i hp
   rw [h2] at hp
   simp [aS] at hp
  ·exact .inr ⟨h,h5⟩
def gS (o:Option (Nat×T)) (cs:List Ch) (key:ByteArray):Option (List UInt8):=valOf (aX (dD o) cs) key
theorem Hl {root:Nat}  {cs:List Ch} {key:ByteArray} {E:Ent} (hro:bI fs root o) (hf:fW o) (hr:cH cs) (hc:∀ c∈cs,c.good) (h1:fnd cs key=true→∀ c,cs[cS cs key]?=some c→E=(chE c).e) (h2:fnd cs key=false→∀ x xs,cQ (mM key) o=x :: xs→E=x.e) :
  (gE o cs key=false∧gS o cs key=none)∨∃ X:En,X.good fs∧E=X.e∧gE o cs key=true∧gS o cs key=some X.value:=by
 have hre:=dX hro
 unfold gS
 rw [Bq hre hr]
 cases hfd:fnd cs key with
 | true =>
  obtain⟨h0,hk⟩:=tS hfd hr
  have hg:=hc _ (List.getElem_mem h0)
  have hE:=h1 hfd _ (jQ h0)
  have hfi:cs.find? (fun c=>decide (c.key=key))=some (cs[cS cs key]):=by
   cases hq:cs.find? (fun c=>decide (c.key=key)) with
   | none=>have:=List.find?_eq_none.1 hq _ (List.getElem_mem h0);simp [hk] at this
   | some c =>
    have a1:=List.mem_of_find?_eq_some hq
    have a2:c.key=key:=by simpa using List.find?_some hq
    obtain⟨i,hi,rfl⟩:=List.getElem_of_mem a1
    rcases Nat.lt_trichotomy i (cS cs key) with h|h|h
    ·have:=List.pairwise_iff_getElem.1 hr i _ hi h0 h
     rw [a2,hk,cC] at this;cases this
    ·subst h;rfl
    ·have:=List.pairwise_iff_getElem.1 hr _ i h0 hi h
     rw [a2,hk,cC] at this;cases this
  rw [hfi]
  simp only
  unfold gE
  rw [if_pos hfd,jQ h0]
  cases hgo:(cs[cS cs key]).gone with
  | true=>left;exact⟨by simp [hgo],by simp⟩
  | false=>right;exact⟨chE _,Ob hg,hE,by simp [hgo],by simp [En.value,chE]⟩
 | false =>
  have hno:cs.find? (fun c=>decide (c.key=key))=none:=by
   refine List.find?_eq_none.2 fun c hcm=>?_
   simp only [decide_eq_true_eq]
   intro e
   have:=(Ab hr key).2 ⟨c,hcm,e⟩
   rw [hfd] at this;cases this
  rw [hno]
  simp only
  unfold gE
  rw [if_neg (by rw [hfd];simp)]
  have hst:=pR hro (mM key)
  have hfil:(dD o).filter (fun x=>(mM key).has x.e.key)=(dD o).filter (fun x=>decide (x.e.key=key)):=List.filter_congr (fun x _=>by
   rw [Bool.eq_iff_iff,Vs];simp)
  rw [hfil] at hst
  unfold valOf
  cases hl:cQ (mM key) o with
  | nil =>
   left
   refine⟨rfl,?_⟩
   rw [hl] at hst
   have:(dD o).find? (fun x=>decide (x.e.key=key))=none:=List.find?_eq_none.2 fun x hx=>by
    have:=List.filter_eq_nil_iff.1 hst.symm x hx
    exact this
   rw [this];rfl
  | cons x xs =>
   right
   have hh:(dD o).find? (fun x=>decide (x.e.key=key))=some x:=by
    rw [← List.head?_filter,← hst,hl];rfl
   exact⟨x,Bt hro hf x (List.mem_of_find?_eq_some hh),h2 hfd x xs hl,rfl,by rw [hh];rfl⟩
def aU:List ByteArray:=[⟨#[0]⟩,⟨#[97]⟩,⟨#[97,97]⟩,⟨#[97,98]⟩,⟨#[98]⟩,⟨#[107,107,107,107,107,107,107,107,107,107,107,107,107,107,107,107,107,107,107,107,107,107,107,97]⟩,⟨#[107,107,107,107,107,107,107,107,107,107,107,107,107,107,107,107,107,107,107,107,107,107,107,98]⟩,⟨#[107,107,107,107,107,107,107,107,107,107,107,107,107,107,107,107,107,107,107,107,107,107,107,99]⟩,⟨#[109]⟩,⟨#[110]⟩,⟨#[122]⟩,⟨#[255]⟩]
theorem kE:∀ k∈aU,1≤k.size∧k.size≤24:=by decide
theorem qEe:∀ k∈aU,lt ⟨#[]⟩ k=true:=by decide +kernel
theorem kOk (h1:120≤n) (h2:n≤4096):KOk aU n:=⟨fun k hk=>(kE k hk).2,by decide,by omega,h2,by show 3 * (1+3 * 12)+2≤n;omega⟩
theorem sH (k:Nat) (hk:k<12) (w:World) :
  Calls Tryz.prog 24 #[.int .i64 (k:Nat)] w fun e w'=>e=.returned (.string (aU[k]'hk))∧Below w.heap.size w w':=by
 obtain⟨kk,hkk⟩:=nM (aU[k]'hk)
 have hx:=aA w (.cells (aU.map Value.string).toArray 9)
 have hc:(w.alloc (.cells (aU.map Value.string).toArray 9)).cell? ⟨w.heap.size,k,none⟩=some (.string kk):=by
  have hq:aU[k]?=some kk:=List.getElem?_eq_some_iff.2 ⟨hk,hkk⟩
  unfold World.cell?
  dsimp only
  rw [hx]
  simp [hq]
 have HB:Hid (Below w.heap.size w (w.alloc (.cells (aU.map Value.string).toArray 9))):=bA _ _
 have hki:(k:Int)<12:=by omega
 rw [hkk]
 clear hx hkk
 simp only [aU,List.map_cons,List.map_nil] at hc HB
 go_enter Tryz.func24,Tryz.ntmps24
 go_wp2
 go_ret
 exact⟨rfl,HB.out⟩
theorem mL (k:Nat) (hk:k<12):aU[k]'hk∈aU:=List.getElem_mem _
theorem uM (k:Nat) (hk:k<12) (v:ByteArray) (hv:v.size≤400) (g:Bool):(⟨aU[k]'hk,v,g⟩:Ch).good:=⟨qEe _ (mL k hk),(kE _ (mL k hk)).2,hv⟩
theorem Dn (K:List ByteArray):kZ K []:=⟨.nil,by simp,by simp,by simp⟩
def iE (c n:Int):Int:=if c<0 then (-(c+1)) % n else c % n
theorem dC (c n:Int) (hn:0<n):0≤iE c n∧iE c n<n:=by
 unfold iE
 split
 ·exact⟨Int.emod_nonneg _ (by omega),Int.emod_lt_of_pos _ hn⟩
 ·exact⟨Int.emod_nonneg _ (by omega),Int.emod_lt_of_pos _ hn⟩
theorem jH (c n:Int) (w:World) (h0 : -9223372036854775808≤c) (h1:c≤9223372036854775807) (hn:0<n) :
  Calls Tryz.prog 22 #[.int .i64 c,.int .i64 n] w fun e w'=>e=.returned (.int .i64 (iE c n))∧w'=w:=by
 have hn0:n≠0:=by omega
 by_cases hc:c<0
 ·go_enter Tryz.func22,Tryz.ntmps22
  go_wp2
  go_ret
  have e : -((c+1).tmod n)=(-(c+1)) % n:=by rw [← Int.neg_tmod,Int.tmod_eq_emod_of_nonneg (by omega)]
  exact⟨by rw [e,iE,if_pos hc];rfl,rfl⟩
 ·go_enter Tryz.func22,Tryz.ntmps22
  go_wp2
  go_ret
  exact⟨by rw [iE,if_neg (by omega)];rfl,rfl⟩
