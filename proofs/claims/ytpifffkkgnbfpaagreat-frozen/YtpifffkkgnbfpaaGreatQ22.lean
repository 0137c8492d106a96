import Derived.Test.YtpifffkkgnbfpaaGreatQ21
set_option linter.unusedSimpArgs false
set_option linter.unusedVariables false
namespace Go.Proofs.YtpifffkkgnbfpaaGreat.Tree
open Go.RowKit Pages
variable {K:List ByteArray} {cs:List Ch} {fr:List Nat} {g:Pg} {l:List (Nat×Pg)} {n p:Nat} {o:Option (Nat×T)}
theorem Ay {α:Type} {P:List α→Prop} (h0:P []) (h1:∀ l x,P l→P (l++[x])) (l:List α):P l:=by
 have key:∀ m:List α,P m.reverse:=by
  intro m
  induction m with
  | nil=>exact h0
  | cons x m ih=>rw [List.reverse_cons];exact h1 _ _ ih
 have:=key l.reverse
 rwa [List.reverse_reverse] at this
theorem Cs (l:List (Nat×ByteArray)) (x:Nat×ByteArray) (p:Nat):qG (l++[x]) p=if x.1=p then some x.2 else qG l p:=by
 unfold qG
 rw [List.reverse_append]
 simp only [List.reverse_singleton,List.singleton_append,List.find?_cons]
 by_cases h:x.1=p
 ·simp [h]
 ·have:(x.1==p)=false:=by simpa using h
  rw [this,if_neg h]
theorem qCk:∀ (l:List (Nat×ByteArray)) (s:List ByteArray) (p:Nat),(∀ x∈l,x.1<s.length)→(laid s l).getD p ⟨#[]⟩=(qG l p).getD (s.getD p ⟨#[]⟩):=by
 intro l
 induction l using Ay with
 | h0=>intro s p _;rfl
 | h1 l x ih =>
  intro s p h
  have e:laid s (l++[x])=(laid s l).set x.1 x.2:=by simp [laid]
  rw [e,Cs,List.getD_eq_getElem?_getD,List.getElem?_set]
  have hx:=h x (by simp)
  by_cases hp:x.1=p
  ·rw [if_pos hp,if_pos hp,if_pos (by rw [eG];omega)];rfl
  ·rw [if_neg hp,if_neg hp,← List.getD_eq_getElem?_getD]
   exact ih s p (fun y hy=>h y (by simp [hy]))
theorem rY (fs:Fs) (h:fs.fits) (p:Nat):fs.synced.at p=fs.at p:=qCk fs.late fs.safe p h
theorem pJ {fs:Fs} (h:fs.fits)  :fs.synced.has p g↔fs.has p g:=by
 unfold Fs.has
 rw [rY fs h]
 show p<(laid fs.safe fs.late).length∧_↔_
 rw [eG]
theorem It (fs:Fs) (q:Nat) (d:ByteArray) (p:Nat):(fs.put q d).at p=if q=p then d else fs.at p:=by
 unfold Fs.at Fs.put
 simp only [Cs]
 split<;>rfl
def Fs.puts (fs:Fs) (l:List (Nat×Pg)):Fs:={ fs with late:=fs.late++l.map (fun y=>(y.1,y.2.encS)) }
theorem Lc (fs:Fs):fs.puts []=fs:=by simp [Fs.puts]
theorem Up (fs:Fs) (l:List (Nat×Pg)) (y:Nat×Pg):fs.puts (l++[y])=(fs.puts l).put y.1 y.2.encS:=by simp [Fs.puts,Fs.put]
theorem Is:∀ (l:List (Nat×Pg)) (fs:Fs) (p:Nat),(p ∉ l.map (·.1)→(fs.puts l).at p=fs.at p)∧((l.map (·.1)).Nodup→∀ y∈l,y.1=p→(fs.puts l).at p=y.2.encS):=by
 intro l
 induction l using Ay with
 | h0=>intro fs p;rw [Lc];exact⟨fun _=>rfl,fun _ y hy=>by simp at hy⟩
 | h1 l x ih =>
  intro fs p
  rw [Up,It]
  obtain⟨i1,i2⟩:=ih fs p
  constructor
  ·intro h
   rw [List.map_append,List.mem_append] at h
   rw [if_neg (fun e=>h (.inr (by simp [e])))]
   exact i1 (fun h'=>h (.inl h'))
  ·intro hn y hy hyp
   rw [List.map_append] at hn
   obtain⟨n1,n2,n3⟩:=List.nodup_append.1 hn
   rcases List.mem_append.1 hy with hy|hy
   ·have:x.1≠p:=fun e=>n3 y.1 (List.mem_map.2 ⟨y,hy,rfl⟩) x.1 (by simp) (by rw [hyp,e])
    rw [if_neg this]
    exact i2 n1 y hy hyp
   ·rw [List.mem_singleton] at hy
    subst hy
    rw [if_pos hyp]
theorem Yl {fs:Fs}  (hn:(l.map (·.1)).Nodup) (hE:∀ y∈l,y.2.encE=0) (hv:∀ y∈l,y.2.ver=0) (hl:∀ y∈l,y.1<fs.safe.length):∀ y∈l,(fs.puts l).has y.1 y.2:=by
 intro y hy
 refine⟨hl y hy,?_⟩
 rw [(Is l fs y.1).2 hn y hy rfl]
 exact Nl y.2 (by rw [hv y hy];decide) (hE y hy)
theorem Uq {fs:Fs}    (hp:p ∉ l.map (·.1)) (h:fs.has p g):(fs.puts l).has p g:=by
 refine⟨h.1,?_⟩
 rw [(Is l fs p).1 hp]
 exact h.2
theorem Ld {fs:Fs} {q p:Nat} {d:ByteArray}  (hp:q≠p) (h:fs.has p g):(fs.put q d).has p g:=by
 refine⟨h.1,?_⟩
 rw [It,if_neg hp]
 exact h.2
def Fs.made (fs:Fs) (l:List (Nat×Pg)) (m:Nat) (mt:Pg):Fs:=(((fs.puts l).synced).put m mt.encS).synced
variable {fs:Fs}
theorem Vk {m:Nat} {mt:Pg} {Z:List Nat} (hf:fs.fits) (hn:(l.map (·.1)).Nodup) (hE:∀ y∈l,y.2.encE=0) (hv:∀ y∈l,y.2.ver=0) (hl:∀ y∈l,y.1<fs.safe.length∧y.1≠m) (hm:m<fs.safe.length) (hZ:∀ y∈l,y.1∈Z) (hmZ:m∈Z) :
  Laid fs (fs.made l m mt) Z l∧(fs.made l m mt).at m=mt.encS∧(fs.made l m mt).late=[]∧(fs.made l m mt).safe.length=fs.safe.length∧∀ p,p ∉ Z→(fs.made l m mt).at p=fs.at p:=by
 have f1:(fs.puts l).fits:=by
  intro x hx
  simp only [Fs.puts,List.mem_append,List.mem_map] at hx
  rcases hx with hx|⟨y,hy,rfl⟩
  ·exact hf x hx
  ·exact(hl y hy).1
 have e1:(fs.puts l).synced.safe.length=fs.safe.length:=eG _ _
 have f2:(((fs.puts l).synced).put m mt.encS).fits:=by
  intro x hx
  simp only [Fs.put,Fs.synced,jE,List.mem_singleton] at hx
  subst hx
  show m<(laid _ _).length
  rw [eG];exact hm
 refine⟨⟨fun y hy=>?_,fun p g hp h=>?_⟩,?_,rfl,?_,fun p hp=>?_⟩
 ·exact(pJ f2).2 (Ld (hl y hy).2.symm ((pJ f1).2 (Yl hn hE hv (fun y hy=>(hl y hy).1) y hy)))
 ·have h1:p ∉ l.map (·.1):=fun hm=>by
   obtain⟨y,hy,rfl⟩:=List.mem_map.1 hm
   exact hp (hZ y hy)
  exact(pJ f2).2 (Ld (fun e:m=p=>hp (e▸hmZ)) ((pJ f1).2 (Uq h1 h)))
 ·show (Fs.synced _).at m=_
  rw [rY _ f2,It,if_pos rfl]
 ·show (laid _ _).length=_
  rw [eG];exact e1
 ·show (Fs.synced _).at p=_
  have h1:p ∉ l.map (·.1):=fun hm=>by
   obtain⟨y,hy,rfl⟩:=List.mem_map.1 hm
   exact hp (hZ y hy)
  rw [rY _ f2,It,if_neg (fun e:m=p=>hp (e▸hmZ)),rY _ f1,(Is l fs p).1 h1]
theorem qBt {fs fs':Fs} {root:Nat}  (hro:bI fs root o) (hf:fW o) (hk:∀ p∈cI o,∀ g,fs.has p g→fs'.has p g):bI fs' root o:=by
 rcases iV hro hf with rfl|⟨p,es,rfl,hs⟩|⟨p,ks,kids,rfl,hs⟩
 ·exact hro
 ·exact⟨hro.1,hro.2.1,Pa hs hk⟩
 ·refine⟨hro.1,hro.2.1,?_⟩
  obtain⟨g,a1,a2,a3,a4,a5,a6,a7⟩:=hs
  refine⟨g,hk p (by simp [cI,T.pages]) g a1,a2,a3,a4,a5,a6,fun x hx=>?_⟩
  have hm:x.1∈kids:=by
   have:x.1∈(parts ⟨⟨#[]⟩,⟨#[]⟩⟩ ks kids).map (·.1):=List.mem_map.2 ⟨x,hx,rfl⟩
   rwa [gO] at this
  refine Pa (a7 x hx) (fun q hq=>hk q ?_)
  simp only [cI,T.pages,List.mem_cons,List.mem_flatMap]
  exact .inr ⟨_,hm,hq⟩
structure Tr (K:List ByteArray) (fs:Fs) (o:Option (Nat×T)):Prop where
 rooted:bI fs (rootOf o) o
 flat:fW o
 keys:qDe K o
 root:rootOf o=0∨aS (rootOf o:Nat)=true
theorem Tr.stays {fs fs':Fs}  (h:Tr K fs o) (hk:∀ p∈cI o,∀ g,fs.has p g→fs'.has p g):Tr K fs' o:=⟨qBt h.rooted h.flat hk,h.flat,h.keys,h.root⟩
def kY (fs:Fs) (p ver root:Nat):Prop:=(fs.at p=gP 256∧ver=0∧root=0)∨Oq (fs.at p) (cG ver root)
structure lH (K:List ByteArray) (n:Nat) (fs:Fs) (v:Nat) (o ao:Option (Nat×T)):Prop where
 late:fs.late=[]
 len:fs.safe.length=n
 meta0:kY fs (v % 2) v (rootOf o)
 meta1:∃ v',kY fs ((v+1) % 2) v' (rootOf ao)∧(v'+1=v∨(v'=v∧rootOf ao=rootOf o))
 sure:Tr K fs o
 ahead:Tr K fs ao
 size:∀ s∈fs.safe,s.size=256
theorem wO:∀ (late:List (Nat×ByteArray)) (safe:List ByteArray),(∀ s∈safe,s.size=256)→(∀ x∈late,x.2.size=256)→∀ s∈laid safe late,s.size=256
 | [],_,h,_=>h
 | x :: late,safe,h,h'=>wO late (safe.set x.1 x.2) (fun s hs=>(List.mem_or_eq_of_mem_set hs).elim (h s) (fun e=>e▸h' x (by simp))) (fun y hy=>h' y (by simp [hy]))
theorem Vj {m:Nat} {mt:Pg} (h:∀ s∈fs.safe,s.size=256) (hl:fs.late=[]) (hE:∀ y∈l,y.2.encE=0) (hm:mt.encE=0):∀ s∈(fs.made l m mt).safe,s.size=256:=by
 refine wO _ _ (wO _ _ h (fun x hx=>?_)) (fun x hx=>?_)
 ·simp only [Fs.puts,hl,jE,List.mem_map] at hx
  obtain⟨y,hy,rfl⟩:=hx
  exact oU _ (hE y hy)
 ·simp only [Fs.put,Fs.synced,jE,List.mem_singleton] at hx
  subst hx
  exact oU _ hm
theorem Lu:∀ (k:Nat) (v:ByteArray) (fr:List Nat),∀ y∈gC k v fr,y.2.ver=0
 | 0,_,_,y,hy=>by simp [gC] at hy
 | k+1,v,fr,y,hy=>by
  by_cases h:v.size=0
  ·rw [iY _ _ _ h] at hy;simp at hy
  ·rw [iZ _ _ _ h] at hy
   rcases List.mem_cons.1 hy with rfl|hy
   ·rfl
   ·exact Lu k _ fr y hy
theorem Gz:∀ (es:List En) (fr:List Nat),∀ y∈(aT es fr).2,y.2.ver=0
 | [],_,y,hy=>by simp [aT] at hy
 | x :: es,fr,y,hy=>by
  simp only [aT,List.mem_append,List.mem_reverse] at hy
  rcases hy with hy|hy
  ·unfold dJ at hy
   split at hy
   ·exact Lu 2 _ fr y hy
   ·simp at hy
  ·exact Gz es _ y hy
theorem Lz (n:NT) (fr:List Nat):∀ y∈(dK n fr).2,y.2.ver=0:=by
 cases n with
 | kept=>simp [dK]
 | bran=>simp [dK]
 | leaf s es =>
  intro y hy
  simp only [dK,List.mem_append,List.mem_singleton] at hy
  rcases hy with hy|rfl
  ·exact Gz es fr y hy
  ·rfl
theorem Gx:∀ (ns:List NT) (fr:List Nat),∀ y∈(aY ns fr).2,y.2.ver=0
 | [],_,y,hy=>by simp [aY] at hy
 | n :: ns,fr,y,hy=>by
  simp only [aY,List.mem_append] at hy
  rcases hy with hy|hy
  ·exact Lz n fr y hy
  ·exact Gx ns _ y hy
theorem Qf (N:List NT) (fr:List Nat):∀ y∈(bJ N fr).2,y.2.ver=0:=by
 unfold bJ
 split
 ·simp
 ·exact Lz _ fr
 ·intro y hy
  simp only [gD,List.mem_append,List.mem_singleton] at hy
  rcases hy with hy|rfl
  ·exact Gx _ fr y hy
  ·rfl
def cJ (o:Option (Nat×T)) (cs:List Ch) (fr:List Nat):Option (Nat×T)×List (Nat×Pg):=bJ (cM o cs) fr
structure rR (K:List ByteArray) (n:Nat) (fs:Fs) (o:Option (Nat×T)) (cs:List Ch) (fr:List Nat):Prop where
 tree:Tr K fs o
 rise:cH cs
 good:∀ c∈cs,c.good
 keys:∀ c∈cs,c.key∈K
 k24:∀ k∈K,k.size≤24
 ksum:3+tot (fun k:ByteArray=>k.size+3) K≤250
 free:∀ p∈fr,2≤p∧p<n
 small:n≤4096
 len:fs.safe.length=n
 nodup:fr.Nodup
 away:∀ p∈cI o,p ∉ fr
 room:1+3 * K.length≤fr.length
theorem rR.place (h:rR K n fs o cs fr):∀ p∈fr,aS (p:Nat)=true:=fun p hp=>by
 have:=h.free p hp
 have:=h.small
 simp only [aS,Bool.and_eq_true,decide_eq_true_eq];omega
theorem rR.enough (h:rR K n fs o cs fr):(cJ o cs fr).2.length≤1+3 * K.length:=by
 obtain⟨h1,_⟩:=mJ h.tree.rooted h.tree.flat h.rise h.good
 have h2:=nH h.tree.rooted h.tree.flat h.rise h.good h.keys h.tree.keys
 have h3:=Iz (cM o cs) fr
 have h4:=h1.many h2
 have h5:=h1.count
 unfold cJ;omega
theorem qA {v:Nat} {o ao:Option (Nat×T)}   (S:lH K n fs v o ao) (P:rR K n fs o cs fr) (hv:v+1<9223372036854775808) (hn:2≤n) :
  lH K n (fs.made (cJ o cs fr).2 ((v+1) % 2) (cG (v+1:Nat) (rootOf (cJ o cs fr).1))) (v+1) (cJ o cs fr).1 o ∧
  (∀ y∈(cJ o cs fr).2,y.2.encE=0)∧(cJ o cs fr).2.map (·.1)=fr.take (cJ o cs fr).2.length ∧
  (dD (cJ o cs fr).1).map En.kv=(aX (dD o) cs).map En.kv ∧
  ∀ o',Tr K fs o'→(∀ p∈cI o',p ∉ fr)→Tr K (fs.made (cJ o cs fr).2 ((v+1) % 2) (cG (v+1:Nat) (rootOf (cJ o cs fr).1))) o':=by
 obtain⟨h1,h1'⟩:=mJ P.tree.rooted P.tree.flat P.rise P.good
 have h2:=nH P.tree.rooted P.tree.flat P.rise P.good P.keys P.tree.keys
 obtain⟨h3,h4⟩:=yA P.tree.rooted P.tree.flat P.rise P.good
 have hen:=P.enough
 unfold cJ at hen ⊢
 have hl:(bJ (cM o cs) fr).2.length≤fr.length:=vJ hen P.room
 have hp:=P.place
 have hge:=sD P.tree.rooted P.tree.flat P.tree.root
 have hm:(v+1) % 2<2:=Nat.mod_lt _ (by decide)
 have hZ:∀ (o':Option (Nat×T)),Tr K fs o'→(∀ p∈cI o',p ∉ fr)→∀ p∈cI o',p ∉ (v+1) % 2 :: fr:=fun o' t a p hpp hz=>by
  have hge:=sD t.rooted t.flat t.root p hpp
  rcases List.mem_cons.1 hz with h|h
  ·omega
  ·exact a p hpp h
 obtain⟨k1,k2,k3,k4⟩:=Gw h1 h2 P.k24 P.ksum h4 fr hl hp ((v+1) % 2 :: fr) (fun m hm p hpp=>hZ o P.tree P.away p ((h3 m hm).1 p hpp))
 have hpl:=Eo (cM o cs) fr hl
 have hmem:∀ y∈(bJ (cM o cs) fr).2,y.1∈fr:=Xu hpl
 have hfits:fs.fits:=fun x hx=>by rw [S.late] at hx;simp at hx
 obtain⟨L,m1,m2,m3,m4⟩:=Vk (fs:=fs) (l:=(bJ (cM o cs) fr).2) (m:=(v+1) % 2) (mt:=cG (v+1:Nat) (rootOf (bJ (cM o cs) fr).1)) (Z:=(v+1) % 2 :: fr) hfits
  (by rw [hpl];exact P.nodup.sublist (List.take_sublist _ _)) k1 (Qf _ _) (fun y hy=>by have:=P.free _ (hmem y hy);rw [P.len];omega) (by rw [P.len];omega) (fun y hy=>List.mem_cons_of_mem _ (hmem y hy)) (by simp)
 obtain⟨r1,r2⟩:=k4 _ L
 have hstay:∀ o',Tr K fs o'→(∀ p∈cI o',p ∉ fr)→Tr K (fs.made (bJ (cM o cs) fr).2 ((v+1) % 2) (cG (v+1:Nat) (rootOf (bJ (cM o cs) fr).1))) o':=fun o' t a=>t.stays (fun p hp g hg=>L.keep p g (hZ o' t a p hp) hg)
 have hE:=Dj (v+1:Nat) (rootOf (bJ (cM o cs) fr).1) (by omega) (r2.imp (fun h=>by rw [h];rfl) id)
 refine⟨⟨m2,m3.trans P.len,?_,⟨v,?_,.inl (by omega)⟩,⟨r1,k2,k3,r2⟩,hstay o P.tree P.away,Vj S.size S.late k1 hE⟩,k1,hpl,?_,hstay⟩
 ·refine .inr ?_
  show Oq (Fs.at _ _) _
  rw [m1]
  exact Nl _ (by show ((v+1:Nat):Int)<_;omega) hE
 ·have hv2:(v+1+1) % 2=v % 2:=by omega
  rw [hv2]
  have hnz:v % 2 ∉ (v+1) % 2 :: fr:=by
   intro hz
   rcases List.mem_cons.1 hz with h|h
   ·omega
   ·have:=P.free _ h;omega
  unfold kY
  rw [m4 _ hnz]
  exact S.meta0
 ·rw [← h1']
  exact Vn h1.ok fr hl hp
def cL (cs:List Ch) (c:Ch):List Ch:=if fnd cs c.key=true then cs.set (cS cs c.key) c else cs.take (cS cs c.key)++c :: cs.drop (cS cs c.key)
theorem tS {k:ByteArray} (h:fnd cs k=true) (hr:cH cs):∃ h0:cS cs k<cs.length,(cs[cS cs k]).key=k:=by
 unfold fnd at h
 split at h
 ·rename_i c hc
  obtain⟨h0,e⟩:=List.getElem?_eq_some_iff.1 hc
  refine⟨h0,?_⟩
  have h1:lt k c.key=false:=by simpa using h
  have h2:lt (cs[cS cs k]).key k=false:=pL hr (jU _) h0
  rw [e] at h2 ⊢
  exact mI h2 h1
 ·simp at h
theorem tF (hr:cH cs) (c:Ch):cL cs c=cs.take (cS cs c.key)++c :: cs.drop (cS cs c.key+if fnd cs c.key=true then 1 else 0):=by
 unfold cL
 by_cases h:fnd cs c.key=true
 ·rw [if_pos h,if_pos h]
  obtain⟨h0,_⟩:=tS h hr
  rw [List.set_eq_take_append_cons_drop,if_pos h0]
 ·rw [if_neg h,if_neg h];rfl
theorem Ji (hr:cH cs) (k:ByteArray):∀ c∈cs.drop (cS cs k+if fnd cs k=true then 1 else 0),lt k c.key=true:=by
 intro c hc
 by_cases h:fnd cs k=true
 ·rw [if_pos h] at hc
  obtain⟨h0,e0⟩:=tS h hr
  obtain⟨i,hi,e⟩:=List.getElem_of_mem hc
  rw [List.getElem_drop] at e
  rw [List.length_drop] at hi
  have:=(List.pairwise_iff_getElem.1 hr) (cS cs k) (cS cs k+1+i) h0 (by omega) (by omega)
  rw [e0] at this
  rw [← e];exact this
 ·rw [if_neg h] at hc
  obtain⟨i,hi,e⟩:=List.getElem_of_mem hc
  rw [List.getElem_drop] at e
  rw [List.length_drop] at hi
  have h2:lt (cs[cS cs k+0+i]'(by omega)).key k=false:=pL hr (by omega) (by omega)
  rw [e] at h2
  rcases Ls c.key k with h3|h3
  ·exfalso
   have h4:c.key=k:=Lt h3 (Bu.1 h2)
   exact h ((Ab hr k).2 ⟨c,List.mem_of_mem_drop hc,h4⟩)
  ·exact h3
theorem Fg (hr:cH cs) (c:Ch):cH (cL cs c):=by
 rw [tF hr]
 refine List.pairwise_append.2 ⟨hr.sublist (List.take_sublist _ _),List.pairwise_cons.2 ⟨Ji hr c.key,hr.sublist (List.drop_sublist _ _)⟩,?_⟩
 intro a ha b hb
 have h1:=zN ha
 rcases List.mem_cons.1 hb with rfl|hb
 ·exact h1
 ·exact fS h1 (Ji hr c.key b hb)
theorem iJ (hr:cH cs) (c x:Ch):x∈cL cs c↔x=c∨(x∈cs∧x.key≠c.key):=by
 rw [tF hr]
 simp only [List.mem_append,List.mem_cons]
 constructor
 ·rintro(h|h|h)
  ·exact .inr ⟨List.mem_of_mem_take h,Sw (zN h)⟩
  ·exact .inl h
  ·exact .inr ⟨List.mem_of_mem_drop h,(Sw (Ji hr c.key x h)).symm⟩
 ·rintro(h|⟨h1,h2⟩)
  ·exact .inr (.inl h)
  ·rcases (wK (cS cs c.key)).1 h1 with h|h
   ·exact .inl h
   ·refine .inr (.inr ?_)
    by_cases hf:fnd cs c.key=true
    ·rw [if_pos hf]
     obtain⟨h0,e0⟩:=tS hf hr
     rw [List.drop_eq_getElem_cons h0] at h
     rcases List.mem_cons.1 h with h|h
     ·exact absurd (by rw [h];exact e0) h2
     ·exact h
    ·rw [if_neg hf];exact h
def valOf (es:List En) (k:ByteArray):Option (List UInt8):=(es.find? (fun x=>decide (x.e.key=k))).map En.value
theorem fJ {es:List En} (hr:cO es) {k:ByteArray} {v:List UInt8}:valOf es k=some v↔∃ x∈es,x.e.key=k∧x.value=v:=by
 unfold valOf
 constructor
 ·intro h
  rw [Option.map_eq_some_iff] at h
  obtain⟨x,h1,h2⟩:=h
  have h3:=List.find?_some h1
  exact⟨x,List.mem_of_find?_eq_some h1,by simpa using h3,h2⟩
 ·rintro⟨x,hx,hk,hv⟩
  cases hf:es.find? (fun x=>decide (x.e.key=k)) with
  | none =>
   have:=List.find?_eq_none.1 hf x hx
   simp [hk] at this
  | some y =>
   have h3:=List.find?_some hf
   have h4:=List.mem_of_find?_eq_some hf
   have h5:y.e.key=k:=by simpa using h3
   have:y=x:=by
    obtain⟨i,hi,rfl⟩:=List.getElem_of_mem hx
    obtain⟨j,hj,rfl⟩:=List.getElem_of_mem h4
    rcases Nat.lt_trichotomy i j with h|h|h
    ·have:=List.pairwise_iff_getElem.1 hr i j hi hj h
     rw [hk,h5,cC] at this;cases this
    ·subst h;rfl
    ·have:=List.pairwise_iff_getElem.1 hr j i hj hi h
     rw [hk,h5,cC] at this;cases this
   rw [this,Option.map_some,hv]
theorem Bq {es:List En}  (he:cO es) (hr:cH cs) (k:ByteArray):valOf (aX es cs) k=match cs.find? (fun c=>decide (c.key=k)) with
  | some c=>if c.gone=true then none else some c.val.data.toList
  | none=>valOf es k:=by
 have ho:=iW he hr
 cases hf:cs.find? (fun c=>decide (c.key=k)) with
 | some c =>
  have h1:=List.mem_of_find?_eq_some hf
  have h2:c.key=k:=by simpa using List.find?_some hf
  have uniq:∀ c'∈cs,c'.key=k→c'=c:=by
   intro c' hc' e
   obtain⟨i,hi,rfl⟩:=List.getElem_of_mem hc'
   obtain⟨j,hj,rfl⟩:=List.getElem_of_mem h1
   rcases Nat.lt_trichotomy i j with h|h|h
   ·have:=List.pairwise_iff_getElem.1 hr i j hi hj h
    rw [e,h2,cC] at this;cases this
   ·subst h;rfl
   ·have:=List.pairwise_iff_getElem.1 hr j i hj hi h
    rw [e,h2,cC] at this;cases this
  simp only
  split
  ·rename_i hg
   cases hv:valOf (aX es cs) k with
   | none=>rfl
   | some v =>
    obtain⟨x,hx,hk,_⟩:=(fJ ho).1 hv
    rcases (dI he hr x).1 hx with⟨c',a1,a2,rfl⟩|⟨a1,a2⟩
    ·have:=uniq c' a1 hk
     rw [this,hg] at a2;cases a2
    ·exact absurd (h2.trans hk.symm) (a2 c h1)
  ·rename_i hg
   refine(fJ ho).2 ⟨chE c,(dI he hr _).2 (.inl ⟨c,h1,by simpa using hg,rfl⟩),h2,?_⟩
   simp [En.value,chE]
 | none =>
  have h0:∀ c∈cs,c.key≠k:=fun c hc e=>by
   have:=List.find?_eq_none.1 hf c hc
   simp [e] at this
  simp only
  cases hv:valOf es k with
  | none =>
   cases hv2:valOf (aX es cs) k with
   | none=>rfl
   | some v =>
    obtain⟨x,hx,hk,hxv⟩:=(fJ ho).1 hv2
    rcases (dI he hr x).1 hx with⟨c',a1,a2,rfl⟩|⟨a1,a2⟩
    ·exact absurd hk (h0 c' a1)
    ·rw [(fJ he).2 ⟨x,a1,hk,hxv⟩] at hv;cases hv
  | some v =>
   obtain⟨x,hx,hk,hxv⟩:=(fJ he).1 hv
   exact(fJ ho).2 ⟨x,(dI he hr x).2 (.inr ⟨hx,fun c hc=>by rw [hk];exact h0 c hc⟩),hk,hxv⟩
theorem Gg:¬ on (List.replicate n false) p:=by
 unfold on
 rw [List.getElem?_replicate]
 split<;>simp
theorem tI (n:Nat) (o:Option (Nat×T)):Dz (List.replicate n false) o:=by
 cases o with
 | none=>trivial
 | some x=>exact fun y hy h=>absurd h Gg
theorem xT {r r':Nat} {o o':Option (Nat×T)} {u:List Bool} (h:bI fs r o) (h':bI fs r' o') (hu:fs.safe.length≤u.length) (hs:Dz u o):Dz (marks u (cI o')) o:=by
 cases o' with
 | none=>exact hs
 | some x' =>
  cases o with
  | none=>trivial
  | some x=>exact Shut.after h.2.2 h'.2.2 hu hs
def dZ (os:List (Option (Nat×T))):List Bool:=marks (List.replicate 4096 false) (os.flatMap cI)
theorem rU (os:List (Option (Nat×T))):(dZ os).length=4096:=by unfold dZ;rw [gA,List.length_replicate]
theorem An (os:List (Option (Nat×T))) (o:Option (Nat×T)):dZ (os++[o])=marks (dZ os) (cI o):=by
 unfold dZ;rw [List.flatMap_append,kA,List.flatMap_cons,List.flatMap_nil,List.append_nil]
theorem Oy (hn:fs.safe.length≤4096):∀ (os:List (Option (Nat×T))),(∀ o∈os,bI fs (rootOf o) o)→∀ o,bI fs (rootOf o) o→Dz (dZ os) o:=by
 intro os
 induction os using Ay with
 | h0=>intro _ o _;exact tI 4096 o
 | h1 os x ih =>
  intro h o ho
  rw [An]
  exact xT ho (h x (by simp)) (by rw [rU];exact hn) (ih (fun o' h'=>h o' (by simp [h'])) o ho)
theorem Kd {os:List (Option (Nat×T))} :on (dZ os) p↔p∈os.flatMap cI∧p<4096:=by
 unfold dZ
 rw [Bs]
 constructor
 ·rintro(h|⟨h1,h2⟩)
  ·exact absurd h Gg
  ·exact⟨h1,by rwa [List.length_replicate] at h2⟩
 ·rintro⟨h1,h2⟩
  exact .inr ⟨h1,by rwa [List.length_replicate]⟩
theorem Ke (h:Tr K fs o):∀ p∈cI o,p<fs.safe.length:=by
 cases o with
 | none=>simp [cI]
 | some x=>exact Lj h.rooted.2.2
theorem So {os:List (Option (Nat×T))} (hlen:fs.safe.length=n) (hn:n≤4096) (hos:∀ o'∈os,Tr K fs o') (ho:o∈os)
  (rise:cH cs) (good:∀ c∈cs,c.good) (keys:∀ c∈cs,c.key∈K) (k24:∀ k∈K,k.size≤24) (ksum:3+tot (fun k:ByteArray=>k.size+3) K≤250) (hroom:(os.length+1) * (1+3 * K.length)+2≤n) :
  rR K n fs o cs (fU n (dZ os))∧∀ o'∈os,∀ p∈cI o',p ∉ fU n (dZ os):=by
 have haway:∀ o'∈os,∀ p∈cI o',p ∉ fU n (dZ os):=fun o' h' p hp hf=>by
  have hlt:=Ke (hos o' h') p hp
  exact(wW hf).2.2 (Kd.2 ⟨List.mem_flatMap.2 ⟨o',h',hp⟩,by omega⟩)
 refine⟨⟨hos o ho,rise,good,keys,k24,ksum,fun p hp=>⟨(wW hp).1,(wW hp).2.1⟩,hn,hlen,Mt _ _,haway o ho,?_⟩,haway⟩
 have h1:=Qw (n:=n) (u:=dZ os) (ps:=os.flatMap cI) (by rw [rU];exact hn) (fun p h=>(Kd.1 h).1)
 have h2:=wY cI (1+3 * K.length) os (fun o' h'=>Ps (hos o' h').rooted (hos o' h').flat (hos o' h').keys)
 have h3:(os.length+1) * (1+3 * K.length)=(1+3 * K.length) * os.length+(1+3 * K.length):=by rw [Nat.add_mul,Nat.one_mul,Nat.mul_comm]
 omega
theorem Sc (K:List ByteArray) (fs:Fs):Tr K fs none:=⟨rfl,trivial,trivial,.inl rfl⟩
theorem Ue (K:List ByteArray) (n:Nat) (hn:2≤n):lH K n ⟨List.replicate n (gP 256),[],-1,-1,0⟩ 0 none none:=by
 have h0:∀ p,p<n→(⟨List.replicate n (gP 256),[],-1,-1,0⟩:Fs).at p=gP 256:=fun p hp=>by
  simp [Fs.at,qG,List.getElem?_replicate,hp]
 exact⟨rfl,by simp,.inl ⟨h0 _ (by omega),rfl,rfl⟩,⟨0,.inl ⟨h0 _ (by omega),rfl,rfl⟩,.inr ⟨rfl,rfl⟩⟩,Sc _ _,Sc _ _,fun s hs=>by rw [List.eq_of_mem_replicate hs];exact xK 256⟩
theorem qDb {P:Program} (w:World) (T ty E:TypeId) (zero:Value) (z bytes:Nat) (hT:P.underlying T=some (.slice E)) (hi:(P.info? E).map (fun i=>(i.zero,i.size,i.bytes))=some (some zero,z,bytes)) (hzs:zero.cells.size=z) (hsz:0<z)
  (v:Value) (n:Nat) (xs:List Value) (hv:w.ownsRow 0 E z v n xs) (xa:Option Addr) (m c:Nat) (S:Bl) (news:List Value) (hl:news.length=m * z) (hR:aH w S xa news) (h1:∀ u∈news,u.oneCell'=true)
  (h63:n+m≤140737488355328) (hb:(n+m) * bytes≤140737488355328) :
  ∃ v' w',(Builtin.append_ #[T,T] ty #[v,.slice xa m c]).run P w=.ok v' w'∧lQ E z v n xs news m w v' w':=by
 rcases hR with rfl|⟨b,off,rfl,_,hc⟩
 ·have hm:m=0:=by
   rcases Nat.eq_zero_or_pos m with h|h
   ·exact h
   ·have:=Nat.mul_pos h hsz;simp at hl;omega
  subst hm
  exact⟨v,w,Kx w T ty E zero z bytes hT hi v n xs hv xa c,by simpa using hv,Fr.refl _ _,fun k hk=>.inl hk⟩
 ·refine vR w T ty E zero z bytes hT hi hzs hsz v n xs hv ⟨b,off,none⟩ m c news hl (fun j u hu=>?_) h1 h63 hb
  have:=hc j u hu
  rw [show (⟨b,off,none⟩:Addr).add j=⟨b,off+j,none⟩ by unfold Addr.add;split<;>simp_all]
  exact this
theorem Fu {P:Program} {ops:Array Oper} {o:Oper} {a:Act} {K:Act→World→Prop} {Q:Exit→Act→World→Prop} {F:Prop} (w:World) (hgd:o.guard=none) (sl x:Operand) (T E:TypeId) (zero:Value) (z bytes:Nat) (ho:o.op=.call { callee:=.builtin .append,args:=#[sl,x],argTypes:=#[T,T] }) (hT:P.underlying T=some (.slice E)) (hi:(P.info? E).map (fun i=>(i.zero,i.size,i.bytes))=some (some zero,z,bytes)) (hzs:zero.cells.size=z) (hsz:0<z)
  (v:Value) (n:Nat) (xs:List Value) (hs:a.eval sl=v) (hv:w.ownsRow 0 E z v n xs) (xa:Option Addr) (m c:Nat) (S:Bl) (news:List Value) (hx:a.eval x=.slice xa m c) (hl:news.length=m * z) (hR:aH w S xa news) (h1:∀ u∈news,u.oneCell'=true) (h63:n+m≤140737488355328) (hb:(n+m) * bytes≤140737488355328)
  (h:∀ v' w',lQ E z v n xs news m w v' w'→K (a.put o.dst v') w') :
  if Region.wanted o (yielded ops a.tmps)=true then Oper.wp P o a w K Q else F:=by
 have hw:Region.wanted o (yielded ops a.tmps)=true:=by simp [Region.wanted,hgd]
 rw [if_pos hw]
 obtain⟨v',w',hr,A⟩:=qDb (P:=P) w T o.type E zero z bytes hT hi hzs hsz v n xs hv xa m c S news hl hR h1 h63 hb
 unfold Oper.wp execOp
 simp only [ho,resolve,invoke,builtin,Sem.run_bind,Sem.run_pure,Result.andThen_ok,List.map_toArray,List.map_cons,List.map_nil,hs,hx,hr]
 exact h v' w' A
