import Derived.Test.YtpifffkkgnbfpaaGreatT21
set_option linter.unusedSimpArgs false
set_option linter.unusedVariables false
set_option maxRecDepth 100000
set_option maxHeartbeats 8000000
namespace Go.Proofs.YtpifffkkgnbfpaaGreat.Tree
open Go.RowKit Pages
variable {K:List ByteArray} {cs:List Ch} {fr:List Nat} {fs:Fs} {n:Nat} {o:Option (Nat×T)}
theorem Sr {fs fs':Fs} {root:Nat}  (hro:aY fs root o) (hf:gQ o) (hk:∀ p∈bH o,∀ g,fs.has p g→fs'.has p g):aY fs' root o:=by
 rcases iL hro hf with rfl|⟨p,es,rfl,hs⟩|⟨p,ks,kids,rfl,hs⟩
 ·exact hro
 ·exact⟨hro.1,hro.2.1,Ii hs hk⟩
 ·refine⟨hro.1,hro.2.1,?_⟩
  obtain⟨g,a1,a2,a3,a4,a5,a6,a7⟩:=hs
  refine⟨g,hk p (by simp [bH,T.pages]) g a1,a2,a3,a4,a5,a6,fun x hx=>?_⟩
  have hm:x.1∈kids:=by
   have:x.1∈(parts ⟨⟨#[]⟩,⟨#[]⟩⟩ ks kids).map (·.1):=List.mem_map.2 ⟨x,hx,rfl⟩
   rwa [gG] at this
  refine Ii (a7 x hx) (fun q hq=>hk q ?_)
  simp only [bH,T.pages,List.mem_cons,List.mem_flatMap]
  exact .inr ⟨_,hm,hq⟩
structure Tr (K:List ByteArray) (fs:Fs) (o:Option (Nat×T)):Prop where
 rooted:aY fs (rootOf o) o
 flat:gQ o
 keys:qDu K o
 root:rootOf o=0∨aQ (rootOf o:Nat)=true
theorem Tr.stays {fs fs':Fs}  (h:Tr K fs o) (hk:∀ p∈bH o,∀ g,fs.has p g→fs'.has p g):Tr K fs' o:=⟨Sr h.rooted h.flat hk,h.flat,h.keys,h.root⟩
def dO (fs:Fs) (p ver root:Nat):Prop:=(fs.at p=dV 256∧ver=0∧root=0)∨Ju (fs.at p) (bM ver root)
structure gK (K:List ByteArray) (n:Nat) (fs:Fs) (v:Nat) (o ao:Option (Nat×T)):Prop where
 late:fs.late=[]
 len:fs.safe.length=n
 meta0:dO fs (v % 2) v (rootOf o)
 meta1:∃ v',dO fs ((v+1) % 2) v' (rootOf ao)∧(v'+1=v∨(v'=v∧rootOf ao=rootOf o))
 sure:Tr K fs o
 ahead:Tr K fs ao
 size:∀ s∈fs.safe,s.size=256
theorem sD:∀ (late:List (Nat×ByteArray)) (safe:List ByteArray),(∀ s∈safe,s.size=256)→(∀ x∈late,x.2.size=256)→∀ s∈laid safe late,s.size=256
 | [],_,h,_=>h
 | x :: late,safe,h,h'=>sD late (safe.set x.1 x.2) (fun s hs=>(List.mem_or_eq_of_mem_set hs).elim (h s) (fun e=>e▸h' x (by simp))) (fun y hy=>h' y (by simp [hy]))
theorem Vx {l:List (Nat×Pg)} {m:Nat} {mt:Pg} (h:∀ s∈fs.safe,s.size=256) (hl:fs.late=[]) (hE:∀ y∈l,y.2.encE=0) (hm:mt.encE=0):∀ s∈(fs.made l m mt).safe,s.size=256:=by
 refine sD _ _ (sD _ _ h (fun x hx=>?_)) (fun x hx=>?_)
 ·simp only [Fs.puts,hl,jE,List.mem_map] at hx
  obtain⟨y,hy,rfl⟩:=hx
  exact mP _ (hE y hy)
 ·simp only [Fs.put,Fs.synced,jE,List.mem_singleton] at hx
  subst hx
  exact mP _ hm
theorem Lu:∀ (k:Nat) (v:ByteArray) (fr:List Nat),∀ y∈fV k v fr,y.2.ver=0
 | 0,_,_,y,hy=>by simp [fV] at hy
 | k+1,v,fr,y,hy=>by
  by_cases h:v.size=0
  ·rw [iR _ _ _ h] at hy;simp at hy
  ·rw [iS _ _ _ h] at hy
   rcases List.mem_cons.1 hy with rfl|hy
   ·rfl
   ·exact Lu k _ fr y hy
theorem Gu:∀ (es:List En) (fr:List Nat),∀ y∈(aS es fr).2,y.2.ver=0
 | [],_,y,hy=>by simp [aS] at hy
 | x :: es,fr,y,hy=>by
  simp only [aS,List.mem_append,List.mem_reverse] at hy
  rcases hy with hy|hy
  ·unfold dH at hy
   split at hy
   ·exact Lu 2 _ fr y hy
   ·simp at hy
  ·exact Gu es _ y hy
theorem Lz (n:NT) (fr:List Nat):∀ y∈(dI n fr).2,y.2.ver=0:=by
 cases n with
 | kept=>simp [dI]
 | bran=>simp [dI]
 | leaf s es =>
  intro y hy
  simp only [dI,List.mem_append,List.mem_singleton] at hy
  rcases hy with hy|rfl
  ·exact Gu es fr y hy
  ·rfl
theorem Gs:∀ (ns:List NT) (fr:List Nat),∀ y∈(aV ns fr).2,y.2.ver=0
 | [],_,y,hy=>by simp [aV] at hy
 | n :: ns,fr,y,hy=>by
  simp only [aV,List.mem_append] at hy
  rcases hy with hy|hy
  ·exact Lz n fr y hy
  ·exact Gs ns _ y hy
theorem Qi (N:List NT) (fr:List Nat):∀ y∈(bD N fr).2,y.2.ver=0:=by
 unfold bD
 split
 ·simp
 ·exact Lz _ fr
 ·intro y hy
  simp only [fW,List.mem_append,List.mem_singleton] at hy
  rcases hy with hy|rfl
  ·exact Gs _ fr y hy
  ·rfl
def dF (o:Option (Nat×T)) (cs:List Ch) (fr:List Nat):Option (Nat×T)×List (Nat×Pg):=bD (cG o cs) fr
structure xM (K:List ByteArray) (n:Nat) (fs:Fs) (o:Option (Nat×T)) (cs:List Ch) (fr:List Nat):Prop where
 tree:Tr K fs o
 rise:cI cs
 good:∀ c∈cs,c.good
 keys:∀ c∈cs,c.key∈K
 k24:∀ k∈K,k.size≤24
 ksum:3+tot (fun k:ByteArray=>k.size+3) K≤250
 free:∀ p∈fr,2≤p∧p<n
 small:n≤4096
 len:fs.safe.length=n
 nodup:fr.Nodup
 away:∀ p∈bH o,p ∉ fr
 room:1+3 * K.length≤fr.length
theorem xM.place (h:xM K n fs o cs fr):∀ p∈fr,aQ (p:Nat)=true:=fun p hp=>by
 have:=h.free p hp
 have:=h.small
 simp only [aQ,Bool.and_eq_true,decide_eq_true_eq];omega
theorem xM.enough (h:xM K n fs o cs fr):(dF o cs fr).2.length≤1+3 * K.length:=by
 obtain⟨h1,_⟩:=mM h.tree.rooted h.tree.flat h.rise h.good
 have h2:=nG h.tree.rooted h.tree.flat h.rise h.good h.keys h.tree.keys
 have h3:=Iy (cG o cs) fr
 have h4:=h1.many h2
 have h5:=h1.count
 unfold dF;omega
theorem vW {v:Nat} {o ao:Option (Nat×T)}   (S:gK K n fs v o ao) (P:xM K n fs o cs fr) (hv:v+1<9223372036854775808) (hn:2≤n) :
  gK K n (fs.made (dF o cs fr).2 ((v+1) % 2) (bM (v+1:Nat) (rootOf (dF o cs fr).1))) (v+1) (dF o cs fr).1 o ∧
  (∀ y∈(dF o cs fr).2,y.2.encE=0)∧(dF o cs fr).2.map (·.1)=fr.take (dF o cs fr).2.length ∧
  (eY (dF o cs fr).1).map En.kv=(bI (eY o) cs).map En.kv ∧
  ∀ o',Tr K fs o'→(∀ p∈bH o',p ∉ fr)→Tr K (fs.made (dF o cs fr).2 ((v+1) % 2) (bM (v+1:Nat) (rootOf (dF o cs fr).1))) o':=by
 obtain⟨h1,h1'⟩:=mM P.tree.rooted P.tree.flat P.rise P.good
 have h2:=nG P.tree.rooted P.tree.flat P.rise P.good P.keys P.tree.keys
 obtain⟨h3,h4⟩:=yI P.tree.rooted P.tree.flat P.rise P.good
 have hen:=P.enough
 unfold dF at hen ⊢
 have hl:(bD (cG o cs) fr).2.length≤fr.length:=vJ hen P.room
 have hp:=P.place
 have hge:=lQ P.tree.rooted P.tree.flat P.tree.root
 have hm:(v+1) % 2<2:=Nat.mod_lt _ (by decide)
 have hZ:∀ (o':Option (Nat×T)),Tr K fs o'→(∀ p∈bH o',p ∉ fr)→∀ p∈bH o',p ∉ (v+1) % 2 :: fr:=fun o' t a p hpp hz=>by
  have hge:=lQ t.rooted t.flat t.root p hpp
  rcases List.mem_cons.1 hz with h|h
  ·omega
  ·exact a p hpp h
 obtain⟨k1,k2,k3,k4⟩:=Gr h1 h2 P.k24 P.ksum h4 fr hl hp ((v+1) % 2 :: fr) (fun m hm p hpp=>hZ o P.tree P.away p ((h3 m hm).1 p hpp))
 have hpl:=Ed (cG o cs) fr hl
 have hmem:∀ y∈(bD (cG o cs) fr).2,y.1∈fr:=Yn hpl
 have hfits:fs.fits:=fun x hx=>by rw [S.late] at hx;simp at hx
 obtain⟨L,m1,m2,m3,m4⟩:=Vy (fs:=fs) (l:=(bD (cG o cs) fr).2) (m:=(v+1) % 2) (mt:=bM (v+1:Nat) (rootOf (bD (cG o cs) fr).1)) (Z:=(v+1) % 2 :: fr) hfits
  (by rw [hpl];exact P.nodup.sublist (List.take_sublist _ _)) k1 (Qi _ _) (fun y hy=>by have:=P.free _ (hmem y hy);rw [P.len];omega) (by rw [P.len];omega) (fun y hy=>List.mem_cons_of_mem _ (hmem y hy)) (by simp)
 obtain⟨r1,r2⟩:=k4 _ L
 have hstay:∀ o',Tr K fs o'→(∀ p∈bH o',p ∉ fr)→Tr K (fs.made (bD (cG o cs) fr).2 ((v+1) % 2) (bM (v+1:Nat) (rootOf (bD (cG o cs) fr).1))) o':=fun o' t a=>t.stays (fun p hp g hg=>L.keep p g (hZ o' t a p hp) hg)
 have hE:=vR (v+1:Nat) (rootOf (bD (cG o cs) fr).1) (by omega) (r2.imp (fun h=>by rw [h];rfl) id)
 refine⟨⟨m2,m3.trans P.len,?_,⟨v,?_,.inl (by omega)⟩,⟨r1,k2,k3,r2⟩,hstay o P.tree P.away,Vx S.size S.late k1 hE⟩,k1,hpl,?_,hstay⟩
 ·refine .inr ?_
  show Ju (Fs.at _ _) _
  rw [m1]
  exact Dd _ (by show ((v+1:Nat):Int)<_;omega) hE
 ·have hv2:(v+1+1) % 2=v % 2:=by omega
  rw [hv2]
  have hnz:v % 2 ∉ (v+1) % 2 :: fr:=by
   intro hz
   rcases List.mem_cons.1 hz with h|h
   ·omega
   ·have:=P.free _ h;omega
  unfold dO
  rw [m4 _ hnz]
  exact S.meta0
 ·rw [← h1']
  exact Wk h1.ok fr hl hp
def cY (cs:List Ch) (c:Ch):List Ch:=if fnd cs c.key=true then cs.set (cL cs c.key) c else cs.take (cL cs c.key)++c :: cs.drop (cL cs c.key)
theorem tZ {k:ByteArray} (h:fnd cs k=true) (hr:cI cs):∃ h0:cL cs k<cs.length,(cs[cL cs k]).key=k:=by
 unfold fnd at h
 split at h
 ·rename_i c hc
  obtain⟨h0,e⟩:=List.getElem?_eq_some_iff.1 hc
  refine⟨h0,?_⟩
  have h1:lt k c.key=false:=by simpa using h
  have h2:lt (cs[cL cs k]).key k=false:=pO hr (jU _) h0
  rw [e] at h2 ⊢
  exact mL h2 h1
 ·simp at h
theorem tF (hr:cI cs) (c:Ch):cY cs c=cs.take (cL cs c.key)++c :: cs.drop (cL cs c.key+if fnd cs c.key=true then 1 else 0):=by
 unfold cY
 by_cases h:fnd cs c.key=true
 ·rw [if_pos h,if_pos h]
  obtain⟨h0,_⟩:=tZ h hr
  rw [List.set_eq_take_append_cons_drop,if_pos h0]
 ·rw [if_neg h,if_neg h];rfl
theorem Ji (hr:cI cs) (k:ByteArray):∀ c∈cs.drop (cL cs k+if fnd cs k=true then 1 else 0),lt k c.key=true:=by
 intro c hc
 by_cases h:fnd cs k=true
 ·rw [if_pos h] at hc
  obtain⟨h0,e0⟩:=tZ h hr
  obtain⟨i,hi,e⟩:=List.getElem_of_mem hc
  rw [List.getElem_drop] at e
  rw [List.length_drop] at hi
  have:=(List.pairwise_iff_getElem.1 hr) (cL cs k) (cL cs k+1+i) h0 (by omega) (by omega)
  rw [e0] at this
  rw [← e];exact this
 ·rw [if_neg h] at hc
  obtain⟨i,hi,e⟩:=List.getElem_of_mem hc
  rw [List.getElem_drop] at e
  rw [List.length_drop] at hi
  have h2:lt (cs[cL cs k+0+i]'(by omega)).key k=false:=pO hr (by omega) (by omega)
  rw [e] at h2
  rcases Ls c.key k with h3|h3
  ·exfalso
   have h4:c.key=k:=Lt h3 (Bs.1 h2)
   exact h ((Ab hr k).2 ⟨c,List.mem_of_mem_drop hc,h4⟩)
  ·exact h3
theorem Et (hr:cI cs) (c:Ch):cI (cY cs c):=by
 rw [tF hr]
 refine List.pairwise_append.2 ⟨hr.sublist (List.take_sublist _ _),List.pairwise_cons.2 ⟨Ji hr c.key,hr.sublist (List.drop_sublist _ _)⟩,?_⟩
 intro a ha b hb
 have h1:=zS ha
 rcases List.mem_cons.1 hb with rfl|hb
 ·exact h1
 ·exact fM h1 (Ji hr c.key b hb)
theorem iB (hr:cI cs) (c x:Ch):x∈cY cs c↔x=c∨(x∈cs∧x.key≠c.key):=by
 rw [tF hr]
 simp only [List.mem_append,List.mem_cons]
 constructor
 ·rintro(h|h|h)
  ·exact .inr ⟨List.mem_of_mem_take h,Te (zS h)⟩
  ·exact .inl h
  ·exact .inr ⟨List.mem_of_mem_drop h,(Te (Ji hr c.key x h)).symm⟩
 ·rintro(h|⟨h1,h2⟩)
  ·exact .inr (.inl h)
  ·rcases (wW (cL cs c.key)).1 h1 with h|h
   ·exact .inl h
   ·refine .inr (.inr ?_)
    by_cases hf:fnd cs c.key=true
    ·rw [if_pos hf]
     obtain⟨h0,e0⟩:=tZ hf hr
     rw [List.drop_eq_getElem_cons h0] at h
     rcases List.mem_cons.1 h with h|h
     ·exact absurd (by rw [h];exact e0) h2
     ·exact h
    ·rw [if_neg hf];exact h
def valOf (es:List En) (k:ByteArray):Option (List UInt8):=(es.find? (fun x=>decide (x.e.key=k))).map En.value
theorem fR {es:List En} (hr:cM es) {k:ByteArray} {v:List UInt8}:valOf es k=some v↔∃ x∈es,x.e.key=k∧x.value=v:=by
 unfold valOf
 constructor
 ·intro h
  rw [Option.map_eq_some_iff] at h
  obtain⟨x,h1,h2⟩:=h
  have h3:=List.find?_some h1
  exact⟨x,List.mem_of_find?_eq_some h1,by simpa using h3,h2⟩
 ·rintro⟨x,hx,hk,hv⟩
  cases hf:es.find? (fun x=>decide (x.e.key=k)) with
  | none =>
   have:=List.find?_eq_none.1 hf x hx
   simp [hk] at this
  | some y =>
   have h3:=List.find?_some hf
   have h4:=List.mem_of_find?_eq_some hf
   have h5:y.e.key=k:=by simpa using h3
   have:y=x:=by
    obtain⟨i,hi,rfl⟩:=List.getElem_of_mem hx
    obtain⟨j,hj,rfl⟩:=List.getElem_of_mem h4
    rcases Nat.lt_trichotomy i j with h|h|h
    ·have:=List.pairwise_iff_getElem.1 hr i j hi hj h
     rw [hk,h5,bV] at this;cases this
    ·subst h;rfl
    ·have:=List.pairwise_iff_getElem.1 hr j i hj hi h
     rw [hk,h5,bV] at this;cases this
   rw [this,Option.map_some,hv]
theorem Bo {es:List En}  (he:cM es) (hr:cI cs) (k:ByteArray):valOf (bI es cs) k=match cs.find? (fun c=>decide (c.key=k)) with
  | some c=>if c.gone=true then none else some c.val.data.toList
  | none=>valOf es k:=by
 have ho:=iP he hr
 cases hf:cs.find? (fun c=>decide (c.key=k)) with
 | some c =>
  have h1:=List.mem_of_find?_eq_some hf
  have h2:c.key=k:=by simpa using List.find?_some hf
  have uniq:∀ c'∈cs,c'.key=k→c'=c:=by
   intro c' hc' e
   obtain⟨i,hi,rfl⟩:=List.getElem_of_mem hc'
   obtain⟨j,hj,rfl⟩:=List.getElem_of_mem h1
   rcases Nat.lt_trichotomy i j with h|h|h
   ·have:=List.pairwise_iff_getElem.1 hr i j hi hj h
    rw [e,h2,bV] at this;cases this
   ·subst h;rfl
   ·have:=List.pairwise_iff_getElem.1 hr j i hj hi h
    rw [e,h2,bV] at this;cases this
  simp only
  split
  ·rename_i hg
   cases hv:valOf (bI es cs) k with
   | none=>rfl
   | some v =>
    obtain⟨x,hx,hk,_⟩:=(fR ho).1 hv
    rcases (dG he hr x).1 hx with⟨c',a1,a2,rfl⟩|⟨a1,a2⟩
    ·have:=uniq c' a1 hk
     rw [this,hg] at a2;cases a2
    ·exact absurd (h2.trans hk.symm) (a2 c h1)
  ·rename_i hg
   refine(fR ho).2 ⟨chE c,(dG he hr _).2 (.inl ⟨c,h1,by simpa using hg,rfl⟩),h2,?_⟩
   simp [En.value,chE]
 | none =>
  have h0:∀ c∈cs,c.key≠k:=fun c hc e=>by
   have:=List.find?_eq_none.1 hf c hc
   simp [e] at this
  simp only
  cases hv:valOf es k with
  | none =>
   cases hv2:valOf (bI es cs) k with
   | none=>rfl
   | some v =>
    obtain⟨x,hx,hk,hxv⟩:=(fR ho).1 hv2
    rcases (dG he hr x).1 hx with⟨c',a1,a2,rfl⟩|⟨a1,a2⟩
    ·exact absurd hk (h0 c' a1)
    ·rw [(fR he).2 ⟨x,a1,hk,hxv⟩] at hv;cases hv
  | some v =>
   obtain⟨x,hx,hk,hxv⟩:=(fR he).1 hv
   exact(fR ho).2 ⟨x,(dG he hr x).2 (.inr ⟨hx,fun c hc=>by rw [hk];exact h0 c hc⟩),hk,hxv⟩
theorem Ga {n p:Nat}:¬ on (List.replicate n false) p:=by
 unfold on
 rw [List.getElem?_replicate]
 split<;>simp
theorem mI (n:Nat) (o:Option (Nat×T)):sZ (List.replicate n false) o:=by
 cases o with
 | none=>trivial
 | some x=>exact fun y hy h=>absurd h Ga
theorem qV {r r':Nat} {o o':Option (Nat×T)} {u:List Bool} (h:aY fs r o) (h':aY fs r' o') (hu:fs.safe.length≤u.length) (hs:sZ u o):sZ (marks u (bH o')) o:=by
 cases o' with
 | none=>exact hs
 | some x' =>
  cases o with
  | none=>trivial
  | some x=>exact Shut.after h.2.2 h'.2.2 hu hs
def eW (os:List (Option (Nat×T))):List Bool:=marks (List.replicate 4096 false) (os.flatMap bH)
theorem rO (os:List (Option (Nat×T))):(eW os).length=4096:=by unfold eW;rw [eL,List.length_replicate]
theorem An (os:List (Option (Nat×T))) (o:Option (Nat×T)):eW (os++[o])=marks (eW os) (bH o):=by
 unfold eW;rw [List.flatMap_append,gR,List.flatMap_cons,List.flatMap_nil,List.append_nil]
theorem Ou (hn:fs.safe.length≤4096):∀ (os:List (Option (Nat×T))),(∀ o∈os,aY fs (rootOf o) o)→∀ o,aY fs (rootOf o) o→sZ (eW os) o:=by
 intro os
 induction os using Ax with
 | h0=>intro _ o _;exact mI 4096 o
 | h1 os x ih =>
  intro h o ho
  rw [An]
  exact qV ho (h x (by simp)) (by rw [rO];exact hn) (ih (fun o' h'=>h o' (by simp [h'])) o ho)
theorem Kc {os:List (Option (Nat×T))} {p:Nat}:on (eW os) p↔p∈os.flatMap bH∧p<4096:=by
 unfold eW
 rw [qX]
 constructor
 ·rintro(h|⟨h1,h2⟩)
  ·exact absurd h Ga
  ·exact⟨h1,by rwa [List.length_replicate] at h2⟩
 ·rintro⟨h1,h2⟩
  exact .inr ⟨h1,by rwa [List.length_replicate]⟩
theorem Kg (h:Tr K fs o):∀ p∈bH o,p<fs.safe.length:=by
 cases o with
 | none=>simp [bH]
 | some x=>exact Lg h.rooted.2.2
theorem qCs {os:List (Option (Nat×T))} (hlen:fs.safe.length=n) (hn:n≤4096) (hos:∀ o'∈os,Tr K fs o') (ho:o∈os)
  (rise:cI cs) (good:∀ c∈cs,c.good) (keys:∀ c∈cs,c.key∈K) (k24:∀ k∈K,k.size≤24) (ksum:3+tot (fun k:ByteArray=>k.size+3) K≤250) (hroom:(os.length+1) * (1+3 * K.length)+2≤n) :
  xM K n fs o cs (iT n (eW os))∧∀ o'∈os,∀ p∈bH o',p ∉ iT n (eW os):=by
 have haway:∀ o'∈os,∀ p∈bH o',p ∉ iT n (eW os):=fun o' h' p hp hf=>by
  have hlt:=Kg (hos o' h') p hp
  exact(xG hf).2.2 (Kc.2 ⟨List.mem_flatMap.2 ⟨o',h',hp⟩,by omega⟩)
 refine⟨⟨hos o ho,rise,good,keys,k24,ksum,fun p hp=>⟨(xG hp).1,(xG hp).2.1⟩,hn,hlen,Mr _ _,haway o ho,?_⟩,haway⟩
 have h1:=Rh (n:=n) (u:=eW os) (ps:=os.flatMap bH) (by rw [rO];exact hn) (fun p h=>(Kc.1 h).1)
 have h2:=xH bH (1+3 * K.length) os (fun o' h'=>Ps (hos o' h').rooted (hos o' h').flat (hos o' h').keys)
 have h3:(os.length+1) * (1+3 * K.length)=(1+3 * K.length) * os.length+(1+3 * K.length):=by rw [Nat.add_mul,Nat.one_mul,Nat.mul_comm]
 omega
theorem Sm (K:List ByteArray) (fs:Fs):Tr K fs none:=⟨rfl,trivial,trivial,.inl rfl⟩
theorem Uq (K:List ByteArray) (n:Nat) (hn:2≤n):gK K n ⟨List.replicate n (dV 256),[],-1,-1,0⟩ 0 none none:=by
 have h0:∀ p,p<n→(⟨List.replicate n (dV 256),[],-1,-1,0⟩:Fs).at p=dV 256:=fun p hp=>by
  simp [Fs.at,qF,List.getElem?_replicate,hp]
 exact⟨rfl,by simp,.inl ⟨h0 _ (by omega),rfl,rfl⟩,⟨0,.inl ⟨h0 _ (by omega),rfl,rfl⟩,.inr ⟨rfl,rfl⟩⟩,Sm _ _,Sm _ _,fun s hs=>by rw [List.eq_of_mem_replicate hs];exact xQ 256⟩
theorem qDs {P:Program} (w:World) (T ty E:TypeId) (zero:Value) (z bytes:Nat) (hT:P.underlying T=some (.slice E)) (hi:(P.info? E).map (fun i=>(i.zero,i.size,i.bytes))=some (some zero,z,bytes)) (hzs:zero.cells.size=z) (hsz:0<z)
  (v:Value) (n:Nat) (xs:List Value) (hv:w.ownsRow 0 E z v n xs) (xa:Option Addr) (m c:Nat) (S:Bl) (news:List Value) (hl:news.length=m * z) (hR:aI w S xa news) (h1:∀ u∈news,u.oneCell'=true)
  (h63:n+m≤140737488355328) (hb:(n+m) * bytes≤140737488355328) :
  ∃ v' w',(Builtin.append_ #[T,T] ty #[v,.slice xa m c]).run P w=.ok v' w'∧lN E z v n xs news m w v' w':=by
 rcases hR with rfl|⟨b,off,rfl,_,hc⟩
 ·have hm:m=0:=by
   rcases Nat.eq_zero_or_pos m with h|h
   ·exact h
   ·have:=Nat.mul_pos h hsz;simp at hl;omega
  subst hm
  exact⟨v,w,Ku w T ty E zero z bytes hT hi v n xs hv xa c,by simpa using hv,Fr.refl _ _,fun k hk=>.inl hk⟩
 ·refine wB w T ty E zero z bytes hT hi hzs hsz v n xs hv ⟨b,off,none⟩ m c news hl (fun j u hu=>?_) h1 h63 hb
  have:=hc j u hu
  rw [show (⟨b,off,none⟩:Addr).add j=⟨b,off+j,none⟩ by unfold Addr.add;split<;>simp_all]
  exact this
theorem Fh {P:Program} {ops:Array Oper} {o:Oper} {a:Act} {K:Act→World→Prop} {Q:Exit→Act→World→Prop} {F:Prop} (w:World) (hgd:o.guard=none) (sl x:Operand) (T E:TypeId) (zero:Value) (z bytes:Nat) (ho:o.op=.call { callee:=.builtin .append,args:=#[sl,x],argTypes:=#[T,T] }) (hT:P.underlying T=some (.slice E)) (hi:(P.info? E).map (fun i=>(i.zero,i.size,i.bytes))=some (some zero,z,bytes)) (hzs:zero.cells.size=z) (hsz:0<z)
  (v:Value) (n:Nat) (xs:List Value) (hs:a.eval sl=v) (hv:w.ownsRow 0 E z v n xs) (xa:Option Addr) (m c:Nat) (S:Bl) (news:List Value) (hx:a.eval x=.slice xa m c) (hl:news.length=m * z) (hR:aI w S xa news) (h1:∀ u∈news,u.oneCell'=true) (h63:n+m≤140737488355328) (hb:(n+m) * bytes≤140737488355328)
  (h:∀ v' w',lN E z v n xs news m w v' w'→K (a.put o.dst v') w') :
  if Region.wanted o (yielded ops a.tmps)=true then Oper.wp P o a w K Q else F:=by
 have hw:Region.wanted o (yielded ops a.tmps)=true:=by simp [Region.wanted,hgd]
 rw [if_pos hw]
 obtain⟨v',w',hr,A⟩:=qDs (P:=P) w T o.type E zero z bytes hT hi hzs hsz v n xs hv xa m c S news hl hR h1 h63 hb
 unfold Oper.wp execOp
 simp only [ho,resolve,invoke,builtin,Sem.run_bind,Sem.run_pure,Result.andThen_ok,List.map_toArray,List.map_cons,List.map_nil,hs,hx,hr]
 exact h v' w' A
open Go.Shelf
attribute [local go_sem] Oper.semAt_some
theorem Qm (ch:List PanicEntry) (bw bp:Nat) (s:Sp) (kind ver root next:Int) (ka ia ea:Option Addr) (kc ic en ec:Nat) (data:ByteArray) (keys:List ByteArray) (kids:List Int) (Rd:Bl) (w:World)
  (hw:w.heap[bw]?=some (.cells #[.string s.lo,.string s.hi] 135)) (hp:w.heap[bp]?=some (.cells #[.int .i64 kind,.int .i64 ver,.int .i64 root,.int .i64 next,.slice ka keys.length kc,.slice ia kids.length ic,.slice ea en ec,.string data] 85))
  (hK:aI w Rd ka (keys.map .string)) (hI:aI w Rd ia (kids.map (.int .i64))) (rw_:Rd bw) (rp:Rd bp) (hkn:keys.length≤1000) (hin:kids.length≤1000) (hkc:keys.length≤kc) (hic:kids.length≤ic) :
  Uh Tryz.prog 140 #[.pointer (some ⟨bw,0,none⟩),.pointer (some ⟨bp,0,none⟩)] kL (parts s keys kids) Rd ch False w:=by
 intro l J Jp Y W hon hRd sJ lJ sJp lJp hown hY h0
 clear hown
 refine callsIn_of_wp Tryz.func140 rfl trivial ?_ rfl
 simp only [Tryz.ntmps140,jA,jB,jN,Nat.reduceAdd,Nat.reduceSub,jR,jO,jP,jT,jE,jF]
 have hw1:=hon.heap hw rw_
 have hp1:=hon.heap hp rp
 obtain⟨a0,a1⟩:=bQ hw1
 obtain⟨e0,e1,e2,e3,e4,e5,e6,e7⟩:=bF hp1
 have lw:=(hRd bw rw_).2
 have lp:=(hRd bp rp).2
 have hF0:∀ Z v,Fr Z W (W.alloc (.cells v 135)):=fun Z v=>(Fr.refl Z W).alloc _
 have hb0:=aA W (.cells #[.string s.lo,.string s.hi] 135)
 have lY:=lJ [] Y W h0
 have HA:Hid (∀ j (hj:j<kids.length),(parts s keys kids)[j]?=some (kids[j],⟨iV s keys j,iH s keys j⟩)):=fun j hj=>fK s keys kids j hj
 have HL:Hid ((parts s keys kids).length=kids.length):=dB s keys kids
 gi_wp2
 gi_loopw [11] (fun i wr=>∃ (j:Nat) (Yr:Bl) (hi:ByteArray),j≤kids.length∧i=.int .i64 j∧J ((parts s keys kids).take j) Yr wr∧Fr Y W wr∧aH W Y Yr∧¬ Yr W.heap.size ∧
   wr.heap[W.heap.size]?=some (.cells #[.string (iV s keys j),.string hi] 135)) (fun i _=>kids.length-(intOf i).toNat)
 case atStart =>
  exact⟨0,Y,s.hi,Nat.zero_le _,rfl,by simpa using sJ _ _ _ _ h0 ((On.refl Y W).alloc lY _),hF0 _ _,aH.refl _ _,fun h=>Nat.lt_irrefl _ (lY _ h),hb0⟩
 case round =>
  obtain⟨j,Yr,hi,hj,rfl,hJ,hF,hG,hn,hbox⟩:=hrel
  have oR:On Rd W wr:=hF.on (fun k hk=>⟨(hRd k hk).2,(hRd k hk).1⟩)
  obtain⟨b0,b1⟩:=bQ (oR.heap hw1 rw_)
  obtain⟨f0,f1,f2,f3,f4,f5,f6,f7⟩:=bF (oR.heap hp1 rp)
  obtain⟨d0,d1⟩:=bQ hbox
  have dfr:=aG hbox
  have lwr:=hF.size
  clear a0 a1 e0 e1 e2 e3 e4 e5 e6 e7 hb0 hF0
  by_cases hlt:j<kids.length
  ·obtain⟨ib,io,hia,hib,hic2⟩:=((hI.on hon).on oR).at hlt
   subst hia
   have nbw:W.heap.size≠bw:=by omega
   have nbp:W.heap.size≠bp:=by omega
   have nib:W.heap.size≠ib:=by have:=(hRd ib hib).2;omega
   by_cases hk:j<keys.length
   ·obtain⟨kb,ko,hka,hkb,hkc2⟩:=((hK.on hon).on oR).at hk
    subst hka
    have nkb:W.heap.size≠kb:=by have:=(hRd kb hkb).2;omega
    obtain⟨w1,hw1d⟩:=nM ((wr.setCell ⟨W.heap.size,1,none⟩ (.string s.hi)).setCell ⟨W.heap.size,1,none⟩ (.string keys[j]))
    have hhi:iH s keys j=keys[j]:=by simp [iH,hk]
    have x1:w1.heap[W.heap.size]?=some (.cells #[.string (iV s keys j),.string (keys[j])] 135):=by
     rw [← hw1d];have:=aF (aF hbox 1 (.string s.hi)) 1 (.string keys[j]);simpa using this
    have f1r:Fr (Bl.one W.heap.size) wr w1:=by rw [← hw1d];exact((Fr.refl (Bl.one W.heap.size) wr).setCell (p:=⟨W.heap.size,1,none⟩) (.inl rfl) _).setCell (p:=⟨W.heap.size,1,none⟩) (.inl rfl) _
    have f1:Fr Y W w1:=hF.grow f1r (fun k hk=>.inr (by simp only [Bl.one] at hk;omega))
    have o1:On Yr wr w1:=f1r.on (fun k hk=>⟨lJ _ _ _ hJ k hk,fun h=>by simp only [Bl.one] at h;subst h;exact hn hk⟩)
    have pA:=HA.out j hlt
    obtain⟨fn,tmps,assign,body,hy,hR⟩:=hY _ _ _ #[.int .i64 kids[j],.agg #[.string (iV s keys j),.string (keys[j])]] Bl.none Yr w1 (oH pA) (sJ _ _ _ _ hJ o1) (by simp [kL,spV,hhi]) (fun _ h=>h.elim) f1 hG
    obtain⟨m0,m1⟩:=bQ x1
    obtain⟨p0,p1,p2,p3,p4,p5,p6,p7⟩:=bF (f1r.heap (oR.heap hp1 rp) (fun h=>nbp h.symm))
    gi_wp2
    clear hy
    refine⟨rfl,(cO hR).mono ?_⟩
    have tk:=lW pA
    have HT:Hid ((parts s keys kids).take (j+1)=(parts s keys kids).take j++[(kids[j],⟨iV s keys j,iH s keys j⟩)]):=tk
    have HHI:Hid (iH s keys j=keys[j]):=hhi
    clear tk hhi pA
    rintro e W3 (⟨rfl,Y3,hJ3,hF3,hG3⟩|⟨rfl,Y3,hJ3,hF3,hG3⟩)
    ·have x3:=hF3.heap x1 hn
     obtain⟨g0,g1⟩:=bQ x3
     have gfr:=aG x3
     have n3:¬ Y3 W.heap.size:=fun h=>by
      rcases hG3 _ h with h'|h'
      ·exact hn h'
      ·have:=(gL x1);omega
     have F3:Fr Y W W3:=f1.grow hF3 hG
     have G3:aH W Y Y3:=hG.trans f1.size hG3
     have y3:=aF x3 0 (.string (keys[j]))
     clear d0 d1 dfr b0 b1 f0 f1r f2 f3 f4 f5 f6 f7 hbox hJ hI hK
     gi_wp2
     go_roundw
     case rel =>
      refine⟨j+1,Y3,keys[j],by omega,by go_num,?_,F3.setCell (.inr (jU _)) _,G3,n3,?_⟩
      ·rw [HT.out]
       exact sJ _ _ _ _ hJ3 ((On.refl _ _).setCell n3 _)
      ·rw [sC,HHI.out]
       simpa using y3
     case measure=>simp [intOf];omega
    ·exact⟨rfl,.inr ⟨rfl,Y3,f1.grow hF3 hG,hG.trans f1.size hG3,hJ3⟩⟩
   ·skip
    obtain⟨w1,hw1d⟩:=nM (wr.setCell ⟨W.heap.size,1,none⟩ (.string s.hi))
    have hhi:iH s keys j=s.hi:=by simp [iH,hk]
    have x1:w1.heap[W.heap.size]?=some (.cells #[.string (iV s keys j),.string (s.hi)] 135):=by
     rw [← hw1d];have:=aF hbox 1 (.string s.hi);simpa using this
    have f1r:Fr (Bl.one W.heap.size) wr w1:=by rw [← hw1d];exact(Fr.refl (Bl.one W.heap.size) wr).setCell (p:=⟨W.heap.size,1,none⟩) (.inl rfl) _
    have f1:Fr Y W w1:=hF.grow f1r (fun k hk=>.inr (by simp only [Bl.one] at hk;omega))
    have o1:On Yr wr w1:=f1r.on (fun k hk=>⟨lJ _ _ _ hJ k hk,fun h=>by simp only [Bl.one] at h;subst h;exact hn hk⟩)
    have pA:=HA.out j hlt
    obtain⟨fn,tmps,assign,body,hy,hR⟩:=hY _ _ _ #[.int .i64 kids[j],.agg #[.string (iV s keys j),.string (s.hi)]] Bl.none Yr w1 (oH pA) (sJ _ _ _ _ hJ o1) (by simp [kL,spV,hhi]) (fun _ h=>h.elim) f1 hG
    obtain⟨m0,m1⟩:=bQ x1
    obtain⟨p0,p1,p2,p3,p4,p5,p6,p7⟩:=bF (f1r.heap (oR.heap hp1 rp) (fun h=>nbp h.symm))
    gi_wp2
    clear hy
    refine⟨rfl,(cO hR).mono ?_⟩
    have tk:=lW pA
    have HT:Hid ((parts s keys kids).take (j+1)=(parts s keys kids).take j++[(kids[j],⟨iV s keys j,iH s keys j⟩)]):=tk
    have HHI:Hid (iH s keys j=s.hi):=hhi
    clear tk hhi pA
    rintro e W3 (⟨rfl,Y3,hJ3,hF3,hG3⟩|⟨rfl,Y3,hJ3,hF3,hG3⟩)
    ·have x3:=hF3.heap x1 hn
     obtain⟨g0,g1⟩:=bQ x3
     have gfr:=aG x3
     have n3:¬ Y3 W.heap.size:=fun h=>by
      rcases hG3 _ h with h'|h'
      ·exact hn h'
      ·have:=(gL x1);omega
     have F3:Fr Y W W3:=f1.grow hF3 hG
     have G3:aH W Y Y3:=hG.trans f1.size hG3
     have y3:=aF x3 0 (.string (s.hi))
     clear d0 d1 dfr b0 b1 f0 f1r f2 f3 f4 f5 f6 f7 hbox hJ hI hK
     gi_wp2
     go_roundw
     case rel =>
      refine⟨j+1,Y3,s.hi,by omega,by go_num,?_,F3.setCell (.inr (jU _)) _,G3,n3,?_⟩
      ·rw [HT.out]
       exact sJ _ _ _ _ hJ3 ((On.refl _ _).setCell n3 _)
      ·rw [sC,HHI.out]
       simpa using y3
     case measure=>simp [intOf];omega
    ·exact⟨rfl,.inr ⟨rfl,Y3,f1.grow hF3 hG,hG.trans f1.size hG3,hJ3⟩⟩
  ·obtain rfl:j=kids.length:=by omega
   have HJ:Hid (J (parts s keys kids) Yr wr):=by
    have e:(parts s keys kids).take kids.length=parts s keys kids:=by rw [← HL.out];exact List.take_length
    rw [e] at hJ;exact hJ
   clear hJ
   gi_wp2
   go_end0
   exact .inl ⟨fun h=>h,⟨_,rfl⟩,Yr,hF,hG,HJ.out⟩
