import Derived.Test.YtpifffkkgnbfpaaGreatP21
set_option linter.unusedSimpArgs false
set_option linter.unusedVariables false
namespace Go.Proofs.YtpifffkkgnbfpaaGreat.Tree
open Go.RowKit Pages
variable {K:List ByteArray} {cs:List Ch} {fr:List Nat} {fs:Fs} {n:Nat} {o:Option (Nat×T)}
theorem qCo {fs fs':Fs} {root:Nat}  (hro:bJ fs root o) (hf:gS o) (hk:∀ p∈bZ o,∀ g,fs.has p g→fs'.has p g):bJ fs' root o:=by
 rcases iX hro hf with rfl|⟨p,es,rfl,hs⟩|⟨p,ks,kids,rfl,hs⟩
 ·exact hro
 ·exact⟨hro.1,hro.2.1,Pr hs hk⟩
 ·refine⟨hro.1,hro.2.1,?_⟩
  obtain⟨g,a1,a2,a3,a4,a5,a6,a7⟩:=hs
  refine⟨g,hk p (by simp [bZ,T.pages]) g a1,a2,a3,a4,a5,a6,fun x hx=>?_⟩
  have hm:x.1∈kids:=by
   have:x.1∈(parts ⟨⟨#[]⟩,⟨#[]⟩⟩ ks kids).map (·.1):=List.mem_map.2 ⟨x,hx,rfl⟩
   rwa [gU] at this
  refine Pr (a7 x hx) (fun q hq=>hk q ?_)
  simp only [bZ,T.pages,List.mem_cons,List.mem_flatMap]
  exact .inr ⟨_,hm,hq⟩
structure Tr (K:List ByteArray) (fs:Fs) (o:Option (Nat×T)):Prop where
 rooted:bJ fs (rootOf o) o
 flat:gS o
 keys:qDy K o
 root:rootOf o=0∨aS (rootOf o:Nat)=true
theorem Tr.stays {fs fs':Fs}  (h:Tr K fs o) (hk:∀ p∈bZ o,∀ g,fs.has p g→fs'.has p g):Tr K fs' o:=⟨qCo h.rooted h.flat hk,h.flat,h.keys,h.root⟩
def fC (fs:Fs) (p ver root:Nat):Prop:=(fs.at p=eR 256∧ver=0∧root=0)∨Ep (fs.at p) (aY ver root)
structure dV (K:List ByteArray) (n:Nat) (fs:Fs) (v:Nat) (o ao:Option (Nat×T)):Prop where
 late:fs.late=[]
 len:fs.safe.length=n
 meta0:fC fs (v % 2) v (rootOf o)
 meta1:∃ v',fC fs ((v+1) % 2) v' (rootOf ao)∧(v'+1=v∨(v'=v∧rootOf ao=rootOf o))
 sure:Tr K fs o
 ahead:Tr K fs ao
 size:∀ s∈fs.safe,s.size=256
theorem mA:∀ (late:List (Nat×ByteArray)) (safe:List ByteArray),(∀ s∈safe,s.size=256)→(∀ x∈late,x.2.size=256)→∀ s∈laid safe late,s.size=256
 | [],_,h,_=>h
 | x :: late,safe,h,h'=>mA late (safe.set x.1 x.2) (fun s hs=>(List.mem_or_eq_of_mem_set hs).elim (h s) (fun e=>e▸h' x (by simp))) (fun y hy=>h' y (by simp [hy]))
theorem Wr {l:List (Nat×Pg)} {m:Nat} {mt:Pg} (h:∀ s∈fs.safe,s.size=256) (hl:fs.late=[]) (hE:∀ y∈l,y.2.encE=0) (hm:mt.encE=0):∀ s∈(fs.made l m mt).safe,s.size=256:=by
 refine mA _ _ (mA _ _ h (fun x hx=>?_)) (fun x hx=>?_)
 ·simp only [Fs.puts,hl,jE,List.mem_map] at hx
  obtain⟨y,hy,rfl⟩:=hx
  exact iD _ (hE y hy)
 ·simp only [Fs.put,Fs.synced,jE,List.mem_singleton] at hx
  subst hx
  exact iD _ hm
theorem Mk:∀ (k:Nat) (v:ByteArray) (fr:List Nat),∀ y∈gI k v fr,y.2.ver=0
 | 0,_,_,y,hy=>by simp [gI] at hy
 | k+1,v,fr,y,hy=>by
  by_cases h:v.size=0
  ·rw [jL _ _ _ h] at hy;simp at hy
  ·rw [jM _ _ _ h] at hy
   rcases List.mem_cons.1 hy with rfl|hy
   ·rfl
   ·exact Mk k _ fr y hy
theorem Hp:∀ (es:List En) (fr:List Nat),∀ y∈(aU es fr).2,y.2.ver=0
 | [],_,y,hy=>by simp [aU] at hy
 | x :: es,fr,y,hy=>by
  simp only [aU,List.mem_append,List.mem_reverse] at hy
  rcases hy with hy|hy
  ·unfold dK at hy
   split at hy
   ·exact Mk 2 _ fr y hy
   ·simp at hy
  ·exact Hp es _ y hy
theorem Mp (n:NT) (fr:List Nat):∀ y∈(dL n fr).2,y.2.ver=0:=by
 cases n with
 | kept=>simp [dL]
 | bran=>simp [dL]
 | leaf s es =>
  intro y hy
  simp only [dL,List.mem_append,List.mem_singleton] at hy
  rcases hy with hy|rfl
  ·exact Hp es fr y hy
  ·rfl
theorem Hn:∀ (ns:List NT) (fr:List Nat),∀ y∈(aZ ns fr).2,y.2.ver=0
 | [],_,y,hy=>by simp [aZ] at hy
 | n :: ns,fr,y,hy=>by
  simp only [aZ,List.mem_append] at hy
  rcases hy with hy|hy
  ·exact Mp n fr y hy
  ·exact Hn ns _ y hy
theorem Qw (N:List NT) (fr:List Nat):∀ y∈(bH N fr).2,y.2.ver=0:=by
 unfold bH
 split
 ·simp
 ·exact Mp _ fr
 ·intro y hy
  simp only [gJ,List.mem_append,List.mem_singleton] at hy
  rcases hy with hy|rfl
  ·exact Hn _ fr y hy
  ·rfl
def bQ (o:Option (Nat×T)) (cs:List Ch) (fr:List Nat):Option (Nat×T)×List (Nat×Pg):=bH (cK o cs) fr
structure nK (K:List ByteArray) (n:Nat) (fs:Fs) (o:Option (Nat×T)) (cs:List Ch) (fr:List Nat):Prop where
 tree:Tr K fs o
 rise:cI cs
 good:∀ c∈cs,c.good
 keys:∀ c∈cs,c.key∈K
 k24:∀ k∈K,k.size≤24
 ksum:3+tot (fun k:ByteArray=>k.size+3) K≤250
 free:∀ p∈fr,2≤p∧p<n
 small:n≤4096
 len:fs.safe.length=n
 nodup:fr.Nodup
 away:∀ p∈bZ o,p ∉ fr
 room:1+3 * K.length≤fr.length
theorem nK.place (h:nK K n fs o cs fr):∀ p∈fr,aS (p:Nat)=true:=fun p hp=>by
 have:=h.free p hp
 have:=h.small
 simp only [aS,Bool.and_eq_true,decide_eq_true_eq];omega
theorem nK.enough (h:nK K n fs o cs fr):(bQ o cs fr).2.length≤1+3 * K.length:=by
 obtain⟨h1,_⟩:=mR h.tree.rooted h.tree.flat h.rise h.good
 have h2:=nR h.tree.rooted h.tree.flat h.rise h.good h.keys h.tree.keys
 have h3:=Js (cK o cs) fr
 have h4:=h1.many h2
 have h5:=h1.count
 unfold bQ;omega
theorem gM {v:Nat} {o ao:Option (Nat×T)}   (S:dV K n fs v o ao) (P:nK K n fs o cs fr) (hv:v+1<9223372036854775808) (hn:2≤n) :
  dV K n (fs.made (bQ o cs fr).2 ((v+1) % 2) (aY (v+1:Nat) (rootOf (bQ o cs fr).1))) (v+1) (bQ o cs fr).1 o ∧
  (∀ y∈(bQ o cs fr).2,y.2.encE=0)∧(bQ o cs fr).2.map (·.1)=fr.take (bQ o cs fr).2.length ∧
  (cQ (bQ o cs fr).1).map En.kv=(bD (cQ o) cs).map En.kv ∧
  ∀ o',Tr K fs o'→(∀ p∈bZ o',p ∉ fr)→Tr K (fs.made (bQ o cs fr).2 ((v+1) % 2) (aY (v+1:Nat) (rootOf (bQ o cs fr).1))) o':=by
 obtain⟨h1,h1'⟩:=mR P.tree.rooted P.tree.flat P.rise P.good
 have h2:=nR P.tree.rooted P.tree.flat P.rise P.good P.keys P.tree.keys
 obtain⟨h3,h4⟩:=yS P.tree.rooted P.tree.flat P.rise P.good
 have hen:=P.enough
 unfold bQ at hen ⊢
 have hl:(bH (cK o cs) fr).2.length≤fr.length:=vJ hen P.room
 have hp:=P.place
 have hge:=lW P.tree.rooted P.tree.flat P.tree.root
 have hm:(v+1) % 2<2:=Nat.mod_lt _ (by decide)
 have hZ:∀ (o':Option (Nat×T)),Tr K fs o'→(∀ p∈bZ o',p ∉ fr)→∀ p∈bZ o',p ∉ (v+1) % 2 :: fr:=fun o' t a p hpp hz=>by
  have hge:=lW t.rooted t.flat t.root p hpp
  rcases List.mem_cons.1 hz with h|h
  ·omega
  ·exact a p hpp h
 obtain⟨k1,k2,k3,k4⟩:=Hm h1 h2 P.k24 P.ksum h4 fr hl hp ((v+1) % 2 :: fr) (fun m hm p hpp=>hZ o P.tree P.away p ((h3 m hm).1 p hpp))
 have hpl:=Fh (cK o cs) fr hl
 have hmem:∀ y∈(bH (cK o cs) fr).2,y.1∈fr:=Bi hpl
 have hfits:fs.fits:=fun x hx=>by rw [S.late] at hx;simp at hx
 obtain⟨L,m1,m2,m3,m4⟩:=Ws (fs:=fs) (l:=(bH (cK o cs) fr).2) (m:=(v+1) % 2) (mt:=aY (v+1:Nat) (rootOf (bH (cK o cs) fr).1)) (Z:=(v+1) % 2 :: fr) hfits
  (by rw [hpl];exact P.nodup.sublist (List.take_sublist _ _)) k1 (Qw _ _) (fun y hy=>by have:=P.free _ (hmem y hy);rw [P.len];omega) (by rw [P.len];omega) (fun y hy=>List.mem_cons_of_mem _ (hmem y hy)) (by simp)
 obtain⟨r1,r2⟩:=k4 _ L
 have hstay:∀ o',Tr K fs o'→(∀ p∈bZ o',p ∉ fr)→Tr K (fs.made (bH (cK o cs) fr).2 ((v+1) % 2) (aY (v+1:Nat) (rootOf (bH (cK o cs) fr).1))) o':=fun o' t a=>t.stays (fun p hp g hg=>L.keep p g (hZ o' t a p hp) hg)
 have hE:=pJ (v+1:Nat) (rootOf (bH (cK o cs) fr).1) (by omega) (r2.imp (fun h=>by rw [h];rfl) id)
 refine⟨⟨m2,m3.trans P.len,?_,⟨v,?_,.inl (by omega)⟩,⟨r1,k2,k3,r2⟩,hstay o P.tree P.away,Wr S.size S.late k1 hE⟩,k1,hpl,?_,hstay⟩
 ·refine .inr ?_
  show Ep (Fs.at _ _) _
  rw [m1]
  exact vX _ (by show ((v+1:Nat):Int)<_;omega) hE
 ·have hv2:(v+1+1) % 2=v % 2:=by omega
  rw [hv2]
  have hnz:v % 2 ∉ (v+1) % 2 :: fr:=by
   intro hz
   rcases List.mem_cons.1 hz with h|h
   ·omega
   ·have:=P.free _ h;omega
  unfold fC
  rw [m4 _ hnz]
  exact S.meta0
 ·rw [← h1']
  exact Wv h1.ok fr hl hp
def bM (cs:List Ch) (c:Ch):List Ch:=if fnd cs c.key=true then cs.set (cS cs c.key) c else cs.take (cS cs c.key)++c :: cs.drop (cS cs c.key)
theorem uB {k:ByteArray} (h:fnd cs k=true) (hr:cI cs):∃ h0:cS cs k<cs.length,(cs[cS cs k]).key=k:=by
 unfold fnd at h
 split at h
 ·rename_i c hc
  obtain⟨h0,e⟩:=List.getElem?_eq_some_iff.1 hc
  refine⟨h0,?_⟩
  have h1:lt k c.key=false:=by simpa using h
  have h2:lt (cs[cS cs k]).key k=false:=pU hr (jU _) h0
  rw [e] at h2 ⊢
  exact mQ h2 h1
 ·simp at h
theorem tI (hr:cI cs) (c:Ch):bM cs c=cs.take (cS cs c.key)++c :: cs.drop (cS cs c.key+if fnd cs c.key=true then 1 else 0):=by
 unfold bM
 by_cases h:fnd cs c.key=true
 ·rw [if_pos h,if_pos h]
  obtain⟨h0,_⟩:=uB h hr
  rw [List.set_eq_take_append_cons_drop,if_pos h0]
 ·rw [if_neg h,if_neg h];rfl
theorem Ke (hr:cI cs) (k:ByteArray):∀ c∈cs.drop (cS cs k+if fnd cs k=true then 1 else 0),lt k c.key=true:=by
 intro c hc
 by_cases h:fnd cs k=true
 ·rw [if_pos h] at hc
  obtain⟨h0,e0⟩:=uB h hr
  obtain⟨i,hi,e⟩:=List.getElem_of_mem hc
  rw [List.getElem_drop] at e
  rw [List.length_drop] at hi
  have:=(List.pairwise_iff_getElem.1 hr) (cS cs k) (cS cs k+1+i) h0 (by omega) (by omega)
  rw [e0] at this
  rw [← e];exact this
 ·rw [if_neg h] at hc
  obtain⟨i,hi,e⟩:=List.getElem_of_mem hc
  rw [List.getElem_drop] at e
  rw [List.length_drop] at hi
  have h2:lt (cs[cS cs k+0+i]'(by omega)).key k=false:=pU hr (by omega) (by omega)
  rw [e] at h2
  rcases Mi c.key k with h3|h3
  ·exfalso
   have h4:c.key=k:=Mj h3 (Ci.1 h2)
   exact h ((Ao hr k).2 ⟨c,List.mem_of_mem_drop hc,h4⟩)
  ·exact h3
theorem Fz (hr:cI cs) (c:Ch):cI (bM cs c):=by
 rw [tI hr]
 refine List.pairwise_append.2 ⟨hr.sublist (List.take_sublist _ _),List.pairwise_cons.2 ⟨Ke hr c.key,hr.sublist (List.drop_sublist _ _)⟩,?_⟩
 intro a ha b hb
 have h1:=Ag ha
 rcases List.mem_cons.1 hb with rfl|hb
 ·exact h1
 ·exact gB h1 (Ke hr c.key b hb)
theorem fJ (hr:cI cs) (c x:Ch):x∈bM cs c↔x=c∨(x∈cs∧x.key≠c.key):=by
 rw [tI hr]
 simp only [List.mem_append,List.mem_cons]
 constructor
 ·rintro(h|h|h)
  ·exact .inr ⟨List.mem_of_mem_take h,To (Ag h)⟩
  ·exact .inl h
  ·exact .inr ⟨List.mem_of_mem_drop h,(To (Ke hr c.key x h)).symm⟩
 ·rintro(h|⟨h1,h2⟩)
  ·exact .inr (.inl h)
  ·rcases (xJ (cS cs c.key)).1 h1 with h|h
   ·exact .inl h
   ·refine .inr (.inr ?_)
    by_cases hf:fnd cs c.key=true
    ·rw [if_pos hf]
     obtain⟨h0,e0⟩:=uB hf hr
     rw [List.drop_eq_getElem_cons h0] at h
     rcases List.mem_cons.1 h with h|h
     ·exact absurd (by rw [h];exact e0) h2
     ·exact h
    ·rw [if_neg hf];exact h
def valOf (es:List En) (k:ByteArray):Option (List UInt8):=(es.find? (fun x=>decide (x.e.key=k))).map En.value
theorem gE {es:List En} (hr:cR es) {k:ByteArray} {v:List UInt8}:valOf es k=some v↔∃ x∈es,x.e.key=k∧x.value=v:=by
 unfold valOf
 constructor
 ·intro h
  rw [Option.map_eq_some_iff] at h
  obtain⟨x,h1,h2⟩:=h
  have h3:=List.find?_some h1
  exact⟨x,List.mem_of_find?_eq_some h1,by simpa using h3,h2⟩
 ·rintro⟨x,hx,hk,hv⟩
  cases hf:es.find? (fun x=>decide (x.e.key=k)) with
  | none =>
   have:=List.find?_eq_none.1 hf x hx
   simp [hk] at this
  | some y =>
   have h3:=List.find?_some hf
   have h4:=List.mem_of_find?_eq_some hf
   have h5:y.e.key=k:=by simpa using h3
   have:y=x:=by
    obtain⟨i,hi,rfl⟩:=List.getElem_of_mem hx
    obtain⟨j,hj,rfl⟩:=List.getElem_of_mem h4
    rcases Nat.lt_trichotomy i j with h|h|h
    ·have:=List.pairwise_iff_getElem.1 hr i j hi hj h
     rw [hk,h5,bU] at this;cases this
    ·subst h;rfl
    ·have:=List.pairwise_iff_getElem.1 hr j i hj hi h
     rw [hk,h5,bU] at this;cases this
   rw [this,Option.map_some,hv]
theorem Cd {es:List En}  (he:cR es) (hr:cI cs) (k:ByteArray):valOf (bD es cs) k=match cs.find? (fun c=>decide (c.key=k)) with
  | some c=>if c.gone=true then none else some c.val.data.toList
  | none=>valOf es k:=by
 have ho:=jG he hr
 cases hf:cs.find? (fun c=>decide (c.key=k)) with
 | some c =>
  have h1:=List.mem_of_find?_eq_some hf
  have h2:c.key=k:=by simpa using List.find?_some hf
  have uniq:∀ c'∈cs,c'.key=k→c'=c:=by
   intro c' hc' e
   obtain⟨i,hi,rfl⟩:=List.getElem_of_mem hc'
   obtain⟨j,hj,rfl⟩:=List.getElem_of_mem h1
   rcases Nat.lt_trichotomy i j with h|h|h
   ·have:=List.pairwise_iff_getElem.1 hr i j hi hj h
    rw [e,h2,bU] at this;cases this
   ·subst h;rfl
   ·have:=List.pairwise_iff_getElem.1 hr j i hj hi h
    rw [e,h2,bU] at this;cases this
  simp only
  split
  ·rename_i hg
   cases hv:valOf (bD es cs) k with
   | none=>rfl
   | some v =>
    obtain⟨x,hx,hk,_⟩:=(gE ho).1 hv
    rcases (dJ he hr x).1 hx with⟨c',a1,a2,rfl⟩|⟨a1,a2⟩
    ·have:=uniq c' a1 hk
     rw [this,hg] at a2;cases a2
    ·exact absurd (h2.trans hk.symm) (a2 c h1)
  ·rename_i hg
   refine(gE ho).2 ⟨chE c,(dJ he hr _).2 (.inl ⟨c,h1,by simpa using hg,rfl⟩),h2,?_⟩
   simp [En.value,chE]
 | none =>
  have h0:∀ c∈cs,c.key≠k:=fun c hc e=>by
   have:=List.find?_eq_none.1 hf c hc
   simp [e] at this
  simp only
  cases hv:valOf es k with
  | none =>
   cases hv2:valOf (bD es cs) k with
   | none=>rfl
   | some v =>
    obtain⟨x,hx,hk,hxv⟩:=(gE ho).1 hv2
    rcases (dJ he hr x).1 hx with⟨c',a1,a2,rfl⟩|⟨a1,a2⟩
    ·exact absurd hk (h0 c' a1)
    ·rw [(gE he).2 ⟨x,a1,hk,hxv⟩] at hv;cases hv
  | some v =>
   obtain⟨x,hx,hk,hxv⟩:=(gE he).1 hv
   exact(gE ho).2 ⟨x,(dJ he hr x).2 (.inr ⟨hx,fun c hc=>by rw [hk];exact h0 c hc⟩),hk,hxv⟩
theorem Gy {n p:Nat}:¬ on (List.replicate n false) p:=by
 unfold on
 rw [List.getElem?_replicate]
 split<;>simp
theorem tP (n:Nat) (o:Option (Nat×T)):El (List.replicate n false) o:=by
 cases o with
 | none=>trivial
 | some x=>exact fun y hy h=>absurd h Gy
theorem yM {r r':Nat} {o o':Option (Nat×T)} {u:List Bool} (h:bJ fs r o) (h':bJ fs r' o') (hu:fs.safe.length≤u.length) (hs:El u o):El (marks u (bZ o')) o:=by
 cases o' with
 | none=>exact hs
 | some x' =>
  cases o with
  | none=>trivial
  | some x=>exact Shut.after h.2.2 h'.2.2 hu hs
def dF (os:List (Option (Nat×T))):List Bool:=marks (List.replicate 4096 false) (os.flatMap bZ)
theorem rY (os:List (Option (Nat×T))):(dF os).length=4096:=by unfold dF;rw [gG,List.length_replicate]
theorem Bb (os:List (Option (Nat×T))) (o:Option (Nat×T)):dF (os++[o])=marks (dF os) (bZ o):=by
 unfold dF;rw [List.flatMap_append,kH,List.flatMap_cons,List.flatMap_nil,List.append_nil]
theorem Po (hn:fs.safe.length≤4096):∀ (os:List (Option (Nat×T))),(∀ o∈os,bJ fs (rootOf o) o)→∀ o,bJ fs (rootOf o) o→El (dF os) o:=by
 intro os
 induction os using Bn with
 | h0=>intro _ o _;exact tP 4096 o
 | h1 os x ih =>
  intro h o ho
  rw [Bb]
  exact yM ho (h x (by simp)) (by rw [rY];exact hn) (ih (fun o' h'=>h o' (by simp [h'])) o ho)
theorem Ky {os:List (Option (Nat×T))} {p:Nat}:on (dF os) p↔p∈os.flatMap bZ∧p<4096:=by
 unfold dF
 rw [Cf]
 constructor
 ·rintro(h|⟨h1,h2⟩)
  ·exact absurd h Gy
  ·exact⟨h1,by rwa [List.length_replicate] at h2⟩
 ·rintro⟨h1,h2⟩
  exact .inr ⟨h1,by rwa [List.length_replicate]⟩
theorem Kz (h:Tr K fs o):∀ p∈bZ o,p<fs.safe.length:=by
 cases o with
 | none=>simp [bZ]
 | some x=>exact Ly h.rooted.2.2
theorem Ai {os:List (Option (Nat×T))} (hlen:fs.safe.length=n) (hn:n≤4096) (hos:∀ o'∈os,Tr K fs o') (ho:o∈os)
  (rise:cI cs) (good:∀ c∈cs,c.good) (keys:∀ c∈cs,c.key∈K) (k24:∀ k∈K,k.size≤24) (ksum:3+tot (fun k:ByteArray=>k.size+3) K≤250) (hroom:(os.length+1) * (1+3 * K.length)+2≤n) :
  nK K n fs o cs (eJ n (dF os))∧∀ o'∈os,∀ p∈bZ o',p ∉ eJ n (dF os):=by
 have haway:∀ o'∈os,∀ p∈bZ o',p ∉ eJ n (dF os):=fun o' h' p hp hf=>by
  have hlt:=Kz (hos o' h') p hp
  exact(xQ hf).2.2 (Ky.2 ⟨List.mem_flatMap.2 ⟨o',h',hp⟩,by omega⟩)
 refine⟨⟨hos o ho,rise,good,keys,k24,ksum,fun p hp=>⟨(xQ hp).1,(xQ hp).2.1⟩,hn,hlen,Nk _ _,haway o ho,?_⟩,haway⟩
 have h1:=Rs (n:=n) (u:=dF os) (ps:=os.flatMap bZ) (by rw [rY];exact hn) (fun p h=>(Ky.1 h).1)
 have h2:=xR bZ (1+3 * K.length) os (fun o' h'=>Qj (hos o' h').rooted (hos o' h').flat (hos o' h').keys)
 have h3:(os.length+1) * (1+3 * K.length)=(1+3 * K.length) * os.length+(1+3 * K.length):=by rw [Nat.add_mul,Nat.one_mul,Nat.mul_comm]
 omega
theorem Sz (K:List ByteArray) (fs:Fs):Tr K fs none:=⟨rfl,trivial,trivial,.inl rfl⟩
theorem Vf (K:List ByteArray) (n:Nat) (hn:2≤n):dV K n ⟨List.replicate n (eR 256),[],-1,-1,0⟩ 0 none none:=by
 have h0:∀ p,p<n→(⟨List.replicate n (eR 256),[],-1,-1,0⟩:Fs).at p=eR 256:=fun p hp=>by
  simp [Fs.at,qL,List.getElem?_replicate,hp]
 exact⟨rfl,by simp,.inl ⟨h0 _ (by omega),rfl,rfl⟩,⟨0,.inl ⟨h0 _ (by omega),rfl,rfl⟩,.inr ⟨rfl,rfl⟩⟩,Sz _ _,Sz _ _,fun s hs=>by rw [List.eq_of_mem_replicate hs];exact yA 256⟩
theorem qDw {P:Program} (w:World) (T ty E:TypeId) (zero:Value) (z bytes:Nat) (hT:P.underlying T=some (.slice E)) (hi:(P.info? E).map (fun i=>(i.zero,i.size,i.bytes))=some (some zero,z,bytes)) (hzs:zero.cells.size=z) (hsz:0<z)
  (v:Value) (n:Nat) (xs:List Value) (hv:w.ownsRow 0 E z v n xs) (xa:Option Addr) (m c:Nat) (S:Bl) (news:List Value) (hl:news.length=m * z) (hR:aH w S xa news) (h1:∀ u∈news,u.oneCell'=true)
  (h63:n+m≤140737488355328) (hb:(n+m) * bytes≤140737488355328) :
  ∃ v' w',(Builtin.append_ #[T,T] ty #[v,.slice xa m c]).run P w=.ok v' w'∧lU E z v n xs news m w v' w':=by
 rcases hR with rfl|⟨b,off,rfl,_,hc⟩
 ·have hm:m=0:=by
   rcases Nat.eq_zero_or_pos m with h|h
   ·exact h
   ·have:=Nat.mul_pos h hsz;simp at hl;omega
  subst hm
  exact⟨v,w,Ln w T ty E zero z bytes hT hi v n xs hv xa c,by simpa using hv,Fr.refl _ _,fun k hk=>.inl hk⟩
 ·refine wI w T ty E zero z bytes hT hi hzs hsz v n xs hv ⟨b,off,none⟩ m c news hl (fun j u hu=>?_) h1 h63 hb
  have:=hc j u hu
  rw [show (⟨b,off,none⟩:Addr).add j=⟨b,off+j,none⟩ by unfold Addr.add;split<;>simp_all]
  exact this
theorem Gk {P:Program} {ops:Array Oper} {o:Oper} {a:Act} {K:Act→World→Prop} {Q:Exit→Act→World→Prop} {F:Prop} (w:World) (hgd:o.guard=none) (sl x:Operand) (T E:TypeId) (zero:Value) (z bytes:Nat) (ho:o.op=.call { callee:=.builtin .append,args:=#[sl,x],argTypes:=#[T,T] }) (hT:P.underlying T=some (.slice E)) (hi:(P.info? E).map (fun i=>(i.zero,i.size,i.bytes))=some (some zero,z,bytes)) (hzs:zero.cells.size=z) (hsz:0<z)
  (v:Value) (n:Nat) (xs:List Value) (hs:a.eval sl=v) (hv:w.ownsRow 0 E z v n xs) (xa:Option Addr) (m c:Nat) (S:Bl) (news:List Value) (hx:a.eval x=.slice xa m c) (hl:news.length=m * z) (hR:aH w S xa news) (h1:∀ u∈news,u.oneCell'=true) (h63:n+m≤140737488355328) (hb:(n+m) * bytes≤140737488355328)
  (h:∀ v' w',lU E z v n xs news m w v' w'→K (a.put o.dst v') w') :
  if Region.wanted o (yielded ops a.tmps)=true then Oper.wp P o a w K Q else F:=by
 have hw:Region.wanted o (yielded ops a.tmps)=true:=by simp [Region.wanted,hgd]
 rw [if_pos hw]
 obtain⟨v',w',hr,A⟩:=qDw (P:=P) w T o.type E zero z bytes hT hi hzs hsz v n xs hv xa m c S news hl hR h1 h63 hb
 unfold Oper.wp execOp
 simp only [ho,resolve,invoke,builtin,Sem.run_bind,Sem.run_pure,Result.andThen_ok,List.map_toArray,List.map_cons,List.map_nil,hs,hx,hr]
 exact h v' w' A
