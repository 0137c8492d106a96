/-
  Joined: PKids, PIn, PLay, PLay2, PLay3, PLev, PTop, PGe, PFs, PStore, PWith, PUsed, AppX.
-/
import Derived.Test.YtfnhmpcpeahfkaaGreatU33
set_option linter.unusedSimpArgs false
set_option linter.unusedVariables false
namespace Go.Proofs.YtfnhmpcpeahfkaaGreat.Tree
open Go.RowKit Pages
variable {B acc ns:List NT} {K:List ByteArray} {P Z fr:List Nat} {Q:T→Prop} {cs:List Ch} {es:List En} {fs fs':Fs} {g:Pg} {l:List (Nat×Pg)} {n:NT} {o:Option (Nat×T)} {p root:Nat} {s:Sp} {t:T} {u:List Bool} {x:En} {α:Type}
def eT (x:T×Sp) (cs:List Ch):List NT:=match x.1 with
 | .leaf _ es=>if (eF cs x.2).length=0 then [.kept x.1 x.2] else cQ (bK es (eF cs x.2))
 | .branch _ _ _=>[.kept x.1 x.2]
def qQm (s:Sp) (ks:List ByteArray) (kids:List T) (cs:List Ch):List NT:=kD eB ((parts s ks kids).flatMap (fun x=>eT x cs))
def Ch.good (c:Ch):Prop:=lt ⟨#[]⟩ c.key=true∧c.key.size≤24∧c.val.size≤400
theorem qLs {c:Ch} (h:c.good):(chE c).good fs:=⟨h.1,h.2.1,.inl ⟨rfl,rfl,rfl,h.2.2⟩⟩
theorem dI (he:cM es) (hr:cI cs) (y:En):y∈bK es cs↔(∃ c∈cs,c.gone=false∧y=chE c)∨(y∈es∧∀ c∈cs,c.key≠y.e.key):=by
 rw [qEj];exact qGz es cs he hr y
theorem iQ (he:cM es) (hr:cI cs):cM (bK es cs):=by
 rw [qEj];exact qIu es cs he hr
theorem eW (he:cM es) (hr:cI cs) (hg:∀ x∈es,x.good fs) (hc:∀ c∈cs,c.good):∀ y∈bK es cs,y.good fs:=by
 intro y hy
 rcases (dI he hr y).1 hy with⟨c,h1,_,rfl⟩|⟨h1,_⟩
 ·exact qLs (hc c h1)
 ·exact hg y h1
theorem rG (he:cM es):bK es []=es:=by
 apply qAi (iQ he .nil) he
 intro y
 rw [dI he .nil]
 simp
theorem jF {q:Sp} {c:Ch}:c∈eF cs q↔c∈cs∧q.has c.key=true:=by simp [eF]
structure qPm (fs:Fs) (x:Sp) (ns:List NT):Prop where
 lst:Lst fs ns
 keys:∀ y∈cP ns,x.has y.e.key=true
 los:∀ n∈ns,le x.lo n.sp.lo=true
theorem qYy {x:Sp}  (hr:cM es) (hg:∀ y∈es,y.good fs) (hk:∀ y∈es,x.has y.e.key=true):qPm fs x (cQ es):=by
 refine⟨mQ hr hg,?_,?_⟩
 ·rw [fW hg];exact hk
 ·intro n hn
  obtain⟨y,hy,e⟩:=sZ hg n hn
  rw [e]
  have:=hk y hy
  simp only [Sp.has,Bool.and_eq_true] at this
  exact this.1
theorem yT {x:Sp}  (ht:aX fs 0 t x) (hr:cI cs) (hc:∀ c∈cs,c.good):qPm fs x (eT (t,x) cs)∧cP (eT (t,x) cs)=bK (T.ents 0 t) (eF cs x):=by
 cases t with
 | branch=>exact ht.elim
 | leaf p es =>
  have hre:cM es:=dF (h:=0) ht
  have hin:∀ y∈es,x.has y.e.key=true:=rO (h:=0) ht
  have hgd:=eZ ht
  by_cases h0:(eF cs x).length=0
  ·have e:eT (.leaf p es,x) cs=[.kept (.leaf p es) x]:=by simp [eT,h0]
   rw [e]
   refine⟨⟨⟨?_,?_,by simp⟩,?_,?_⟩,?_⟩
   ·intro n hn;rw [List.mem_singleton] at hn;subst hn;exact ht
   ·intro n hn y hy;rw [List.mem_singleton] at hn;subst hn
    have:=hin y hy
    simp only [Sp.has,Bool.and_eq_true] at this
    exact this.1
   ·intro y hy;simp only [cP,List.flatMap_cons,List.flatMap_nil,List.append_nil] at hy;exact hin y hy
   ·intro n hn;rw [List.mem_singleton] at hn;subst hn;exact aD _
   ·rw [List.eq_nil_of_length_eq_zero h0]
    simp [cP,T.ents,rG hre,NT.ents0]
  ·have e:eT (.leaf p es,x) cs=cQ (bK es (eF cs x)):=by simp [eT,h0]
   rw [e]
   have hro:=iD hr x
   have hg:=eW (fs:=fs) hre hro hgd (fun c h=>hc c (jF.1 h).1)
   refine⟨qYy (iQ hre hro) hg ?_,fW hg⟩
   intro y hy
   rcases (dI hre hro y).1 hy with⟨c,h1,_,rfl⟩|⟨h1,_⟩
   ·exact(jF.1 h1).2
   ·exact hin y h1
theorem qP (f:T×Sp→List NT):∀ (l:List (T×Sp)),(∀ x∈l,qPm fs x.2 (f x))→l.Pairwise (fun x y=>x.2.hi≠⟨#[]⟩∧le x.2.hi y.2.lo=true)→Lst fs (l.flatMap f)∧cP (l.flatMap f)=l.flatMap (fun x=>cP (f x))
 | [],_,_=>⟨⟨by simp,by simp,by simp⟩,rfl⟩
 | x :: l,h,hp=>by
  obtain⟨p1,p2⟩:=List.pairwise_cons.1 hp
  obtain⟨i1,i2⟩:=qP f l (fun y hy=>h y (by simp [hy])) p2
  have hx:=h x (by simp)
  rw [List.flatMap_cons,List.flatMap_cons]
  refine⟨⟨?_,?_,?_⟩,by rw [kS,i2]⟩
  ·intro n hn;rcases List.mem_append.1 hn with hn|hn
   ·exact hx.lst.ok n hn
   ·exact i1.ok n hn
  ·intro n hn;rcases List.mem_append.1 hn with hn|hn
   ·exact hx.lst.lo n hn
   ·exact i1.lo n hn
  ·refine List.pairwise_append.2 ⟨hx.lst.sep,i1.sep,fun a ha b hb y hy=>?_⟩
   obtain⟨z,hz,hb⟩:=List.mem_flatMap.1 hb
   have h1:=hx.keys y (List.mem_flatMap.2 ⟨a,ha,hy⟩)
   obtain⟨q1,q2⟩:=p1 z hz
   simp only [Sp.has,Bool.and_eq_true] at h1
   have h2:=eX.1 h1.2
   have h3:lt y.e.key x.2.hi=true:=h2.elim (fun h=>absurd h q1) id
   exact aA (aA h3 q2) ((h z (by simp [hz])).los b hb)
theorem xC:∀ (s:Sp) (ks:List ByteArray) (kids:List α),kids.length=ks.length+1→∀ k,s.has k=true→∃ x∈parts s ks kids,x.2.has k=true
 | s,_,[],hl,_,_=>by simp at hl
 | s,[],a :: kids,hl,k,hk=>⟨(a,s),by simp [parts],hk⟩
 | s,q :: ks,a :: kids,hl,k,hk=>by
  rcases qJl k q with h|h
  ·refine⟨(a,⟨s.lo,q⟩),by simp [parts],?_⟩
   simp only [Sp.has,Bool.and_eq_true] at hk ⊢
   exact⟨hk.1,eX.2 (.inr h)⟩
  ·obtain⟨x,hx,hx2⟩:=xC ⟨q,s.hi⟩ ks kids (by simpa using hl) k (by
    simp only [Sp.has,Bool.and_eq_true] at hk ⊢
    exact⟨h,hk.2⟩)
   exact⟨x,by simp [parts,hx],hx2⟩
theorem qGq (k:ByteArray):(⟨⟨#[]⟩,⟨#[]⟩⟩:Sp).has k=true:=by
 simp only [Sp.has,Bool.and_eq_true]
 exact⟨qAy k,eX.2 (.inl rfl)⟩
theorem qTb {ks:List ByteArray} {kids:List T}  (ht:aX fs 1 (.branch p ks kids) ⟨⟨#[]⟩,⟨#[]⟩⟩) (hr:cI cs) (hc:∀ c∈cs,c.good) :
  Lst fs (qQm ⟨⟨#[]⟩,⟨#[]⟩⟩ ks kids cs)∧cP (qQm ⟨⟨#[]⟩,⟨#[]⟩⟩ ks kids cs)=bK (T.ents 1 (.branch p ks kids)) cs:=by
 have hrt:=dF ht
 obtain⟨hl,hp,hb,_,hall⟩:=fC ht
 have hpp:=jQ _ ks kids hl hp hb
 have hk:=fun x hx=>yT (x:=x.2) (t:=x.1) (hall x hx) hr hc
 obtain⟨f1,f2⟩:=qP (fun x=>eT x cs) (parts ⟨⟨#[]⟩,⟨#[]⟩⟩ ks kids) (fun x hx=>(hk x hx).1) hpp
 obtain⟨j1,j2⟩:=qFk f1
 refine⟨j1,?_⟩
 show cP (kD eB _)=_
 apply qAi j1.rise (iQ hrt hr)
 intro y
 rw [j2,f2,dI hrt hr]
 simp only [List.mem_flatMap,T.ents]
 constructor
 ·rintro⟨x,hx,hy⟩
  rw [(hk x hx).2] at hy
  have hxs:cM (T.ents 0 x.1):=dF (hall x hx)
  have hmem:x.1∈kids:=by
   have:x.1∈(parts ⟨⟨#[]⟩,⟨#[]⟩⟩ ks kids).map (·.1):=List.mem_map.2 ⟨x,hx,rfl⟩
   rwa [gJ] at this
  rcases (dI hxs (iD hr x.2) y).1 hy with⟨c,h1,h2,rfl⟩|⟨h1,h2⟩
  ·exact .inl ⟨c,(jF.1 h1).1,h2,rfl⟩
  ·refine .inr ⟨⟨x.1,hmem,h1⟩,fun c hc e=>h2 c (jF.2 ⟨hc,?_⟩) e⟩
   rw [e];exact rO (hall x hx) y h1
 ·rintro(⟨c,h1,h2,rfl⟩|⟨⟨k,hk1,hy⟩,h2⟩)
  ·obtain⟨x,hx,hx2⟩:=xC ⟨⟨#[]⟩,⟨#[]⟩⟩ ks kids hl c.key (qGq _)
   refine⟨x,hx,?_⟩
   rw [(hk x hx).2]
   exact(dI (dF (hall x hx)) (iD hr x.2) _).2 (.inl ⟨c,jF.2 ⟨h1,hx2⟩,h2,rfl⟩)
  ·obtain⟨s',hs'⟩:=jA (s:=⟨⟨#[]⟩,⟨#[]⟩⟩) (ks:=ks) hk1
   refine⟨(k,s'),hs',?_⟩
   rw [(hk _ hs').2]
   exact(dI (dF (hall _ hs')) (iD hr s') _).2 (.inr ⟨hy,fun c hc=>h2 c (jF.1 hc).1⟩)
def yN (K:List ByteArray) (n:NT):Prop:=(n.sp.lo=⟨#[]⟩∨n.sp.lo∈K)∧∀ x∈n.ents0,x.e.key∈K
theorem kQ (hg:∀ x∈es,x.good fs) (hK:∀ x∈es,x.e.key∈K):∀ n∈cQ es,yN K n:=by
 intro n hn
 obtain⟨y,hy,e⟩:=sZ hg n hn
 exact⟨.inr (by rw [e];exact hK y hy),fun x hx=>hK x (tC hg n hn x hx)⟩
theorem qOa (h:Lst fs (acc++n :: B)) (hK:∀ m∈acc++n :: B,yN K m):∀ m∈gF eB acc n++B,yN K m:=by
 unfold gF
 rcases List.eq_nil_or_concat acc with rfl|⟨A,l,rfl⟩
 ·simpa using hK
 ·simp only [List.concat_eq_append] at h hK ⊢
  rw [List.getLast?_append]
  simp only [List.getLast?_singleton,Option.some_or]
  split
  ·rw [List.dropLast_concat,List.append_assoc]
   intro m hm
   simp only [List.mem_append] at hm
   rcases hm with hm|hm|hm
   ·exact hK m (by simp [hm])
   ·refine kQ (fs:=fs) (fun x hx=>?_) (fun x hx=>?_) m hm
    ·rcases List.mem_append.1 hx with hx|hx
     ·exact(eR (h.ok l (by simp))).2.2 x hx
     ·exact(eR (h.ok n (by simp))).2.2 x hx
    ·rcases List.mem_append.1 hx with hx|hx
     ·exact(hK l (by simp)).2 x hx
     ·exact(hK n (by simp)).2 x hx
   ·exact hK m (by simp [hm])
  ·simpa using hK
theorem qFh:∀ {ns acc:List NT},Lst fs (acc++ns)→(∀ m∈acc++ns,yN K m)→∀ m∈ns.foldl (gF eB) acc,yN K m
 | [],acc,_,hK=>by simpa using hK
 | n :: ns,acc,h,hK=>qFh (ns:=ns) (acc:=gF eB acc n) (nV h).1 (qOa h hK)
def TIn (K:List ByteArray):Nat→T→Prop
 | _,.leaf _ es=>∀ x∈es,x.e.key∈K
 | 0,.branch _ _ _=>False
 | h+1,.branch _ ks kids=>(∀ k∈ks,k∈K)∧∀ t∈kids,TIn K h t
theorem qJd:∀ (s:Sp) (ks:List ByteArray) (kids:List α),kids.length=ks.length+1→∀ x∈parts s ks kids,x.2.lo=s.lo∨x.2.lo∈ks
 | s,_,[],hl=>by simp at hl
 | s,[],a :: kids,hl=>by
  have:kids=[]:=List.eq_nil_of_length_eq_zero (by simpa using hl)
  subst this
  simp [parts]
 | s,q :: ks,a :: kids,hl=>by
  intro x hx
  simp only [parts,List.mem_cons] at hx
  rcases hx with rfl|hx
  ·exact .inl rfl
  ·rcases qJd ⟨q,s.hi⟩ ks kids (by simpa using hl) x hx with h|h
   ·exact .inr (by rw [h];simp)
   ·exact .inr (by simp [h])
theorem qTc {x:Sp}  (ht:aX fs 0 t x) (hr:cI cs) (hc:∀ c∈cs,c.good) (hcK:∀ c∈cs,c.key∈K) (htK:TIn K 0 t) (hx:x.lo=⟨#[]⟩∨x.lo∈K):∀ n∈eT (t,x) cs,yN K n:=by
 cases t with
 | branch=>exact ht.elim
 | leaf p es =>
  have hre:cM es:=dF (h:=0) ht
  have hgd:=eZ ht
  by_cases h0:(eF cs x).length=0
  ·have e:eT (.leaf p es,x) cs=[.kept (.leaf p es) x]:=by simp [eT,h0]
   rw [e]
   intro n hn
   rw [List.mem_singleton] at hn;subst hn
   exact⟨hx,htK⟩
  ·have e:eT (.leaf p es,x) cs=cQ (bK es (eF cs x)):=by simp [eT,h0]
   rw [e]
   have hro:=iD hr x
   refine kQ (eW (fs:=fs) hre hro hgd (fun c h=>hc c (jF.1 h).1)) ?_
   intro y hy
   rcases (dI hre hro y).1 hy with⟨c,h1,_,rfl⟩|⟨h1,_⟩
   ·exact hcK c (jF.1 h1).1
   ·exact htK y h1
theorem qNx {ks:List ByteArray} {kids:List T}  (ht:aX fs 1 (.branch p ks kids) ⟨⟨#[]⟩,⟨#[]⟩⟩) (hr:cI cs) (hc:∀ c∈cs,c.good) (hcK:∀ c∈cs,c.key∈K) (htK:TIn K 1 (.branch p ks kids)) :
  ∀ n∈qQm ⟨⟨#[]⟩,⟨#[]⟩⟩ ks kids cs,yN K n:=by
 obtain⟨hl,hp,hb,_,hall⟩:=fC ht
 have hpp:=jQ _ ks kids hl hp hb
 have hk:=fun x hx=>yT (x:=x.2) (t:=x.1) (hall x hx) hr hc
 obtain⟨f1,f2⟩:=qP (fun x=>eT x cs) (parts ⟨⟨#[]⟩,⟨#[]⟩⟩ ks kids) (fun x hx=>(hk x hx).1) hpp
 refine qFh (acc:=[]) f1 ?_
 intro m hm
 obtain⟨x,hx,hm⟩:=List.mem_flatMap.1 hm
 have hmem:x.1∈kids:=by
  have:x.1∈(parts ⟨⟨#[]⟩,⟨#[]⟩⟩ ks kids).map (·.1):=List.mem_map.2 ⟨x,hx,rfl⟩
  rwa [gJ] at this
 refine qTc (hall x hx) hr hc hcK (htK.2 _ hmem) ?_ m hm
 rcases qJd _ ks kids hl x hx with h|h
 ·exact .inl h
 ·exact .inr (htK.1 _ h)
theorem qGo [DecidableEq α] (f:α→Nat):∀ {l m:List α},l.Nodup→(∀ x∈l,x∈m)→tot f l≤tot f m
 | [],m,_,_=>Nat.zero_le _
 | x :: l,m,hn,hs=>by
  obtain⟨h1,h2⟩:=List.nodup_cons.1 hn
  have hm:=hs x (by simp)
  have hp:m.Perm (x :: m.erase x):=List.perm_cons_erase hm
  have e:tot f m=f x+tot f (m.erase x):=by
   have:=(hp.map f).sum_nat
   simpa [tot] using this
  have ih:=qGo f (l:=l) (m:=m.erase x) h2 (fun y hy=>by
   have hne:y≠x:=fun e=>h1 (e▸hy)
   exact(List.mem_erase_of_ne hne).2 (hs y (by simp [hy])))
  rw [gD,e];omega
theorem qPq (l:List α):tot (fun _=>1) l=l.length:=by
 induction l with
 | nil=>rfl
 | cons x l ih=>rw [gD,ih,List.length_cons];omega
theorem uQ [DecidableEq α] {l m:List α} (hn:l.Nodup) (hs:∀ x∈l,x∈m):l.length≤m.length:=by
 have:=qGo (fun _=>1) hn hs
 rwa [qPq,qPq] at this
theorem Lst.los (h:Lst fs ns):(ns.map (fun n=>n.sp.lo)).Pairwise (fun a b=>lt a b=true):=by
 rw [List.pairwise_map]
 refine List.Pairwise.imp_of_mem ?_ h.sep
 intro a b ha hb hab
 obtain⟨x,hx⟩:=List.exists_mem_of_ne_nil _ (eR (h.ok a ha)).1
 exact jG (h.lo a ha x hx) (hab x hx)
theorem lN {l:List ByteArray} (h:l.Pairwise (fun a b=>lt a b=true)):l.Nodup:=List.Pairwise.imp (fun h=>qQh h) h
theorem Lst.size (h:Lst fs ns) (hK:∀ n∈ns,yN K n):tot yK ns≤3+tot (fun k:ByteArray=>k.size+3) K:=by
 have e:tot yK ns=tot (fun k:ByteArray=>k.size+3) (ns.map (fun n=>n.sp.lo)):=by rw [tot,tot,List.map_map];rfl
 rw [e]
 have:=qGo (fun k:ByteArray=>k.size+3) (l:=ns.map (fun n=>n.sp.lo)) (m:=⟨#[]⟩ :: K) (lN h.los) (fun x hx=>by
  obtain⟨n,hn,rfl⟩:=List.mem_map.1 hx
  rcases (hK n hn).1 with h|h
  ·simp [h]
  ·simp [h])
 rw [gD] at this
 exact this
theorem Lst.keys (h:Lst fs ns):((cP ns).map (fun x=>x.e.key)).Pairwise (fun a b=>lt a b=true):=by
 rw [List.pairwise_map];exact h.rise
theorem Lst.many (h:Lst fs ns) (hK:∀ n∈ns,yN K n):(cP ns).length≤K.length:=by
 have:=uQ (l:=(cP ns).map (fun x=>x.e.key)) (m:=K) (lN h.keys) (fun x hx=>by
  obtain⟨y,hy,rfl⟩:=List.mem_map.1 hx
  obtain⟨n,hn,hy⟩:=List.mem_flatMap.1 hy
  exact(hK n hn).2 y hy)
 simpa using this
theorem xR {α β:Type} (f:α→List β):∀ (l:List α),(∀ x∈l,f x≠[])→l.length≤(l.flatMap f).length
 | [],_=>by simp
 | x :: l,h=>by
  have h1:=List.length_pos_iff.2 (h x (by simp))
  have:=xR f l (fun y hy=>h y (by simp [hy]))
  rw [List.flatMap_cons,List.length_append,List.length_cons];omega
theorem Lst.count (h:Lst fs ns):ns.length≤(cP ns).length:=xR _ _ (fun n hn=>(eR (h.ok n hn)).1)
def eV:List (Nat×Pg)→Nat
 | []=>0
 | x :: _=>x.1
def fY:Nat→ByteArray→List Nat→List (Nat×Pg)
 | 0,_,_=>[]
 | k+1,v,fr=>if v.size=0 then [] else
   (fr.getD (fY k (v.extract (min v.size 240) v.size) fr).length 0,fQ (eV (fY k (v.extract (min v.size 240) v.size) fr)) (v.extract 0 (min v.size 240))) :: fY k (v.extract (min v.size 240) v.size) fr
theorem iS (k:Nat) (v:ByteArray) (fr:List Nat) (h:v.size=0):fY k v fr=[]:=by
 cases k with
 | zero=>rfl
 | succ k=>simp [fY,h]
theorem iT (k:Nat) (v:ByteArray) (fr:List Nat) (h:v.size≠0):fY (k+1) v fr=(fr.getD (fY k (v.extract (min v.size 240) v.size) fr).length 0,fQ (eV (fY k (v.extract (min v.size 240) v.size) fr)) (v.extract 0 (min v.size 240))) :: fY k (v.extract (min v.size 240) v.size) fr:=by
 rw [fY,if_neg h]
theorem qBh:∀ (k:Nat) (v:ByteArray) (fr:List Nat),(fY k v fr).length≤k
 | 0,_,_=>Nat.le_refl _
 | k+1,v,fr=>by
  by_cases h:v.size=0
  ·rw [iS _ _ _ h];simp
  ·rw [iT _ _ _ h,List.length_cons]
   have:=qBh k (v.extract (min v.size 240) v.size) fr
   omega
theorem qH:∀ (k:Nat) (v:ByteArray) (fr:List Nat),(fY k v fr).length≤fr.length→(fY k v fr).reverse.map (·.1)=fr.take (fY k v fr).length
 | 0,_,_,_=>by simp [fY]
 | k+1,v,fr,hl=>by
  by_cases h:v.size=0
  ·rw [iS _ _ _ h];simp
  ·rw [iT _ _ _ h] at hl ⊢
   rw [List.length_cons] at hl ⊢
   have ih:=qH k (v.extract (min v.size 240) v.size) fr (by omega)
   rw [List.reverse_cons,List.map_append,ih,List.take_succ_eq_append_getElem (by omega)]
   simp [List.getElem?_eq_getElem (show (fY k (v.extract (min v.size 240) v.size) fr).length<fr.length by omega)]
theorem qI {k:Nat} {v:ByteArray}  (hl:(fY k v fr).length≤fr.length):∀ x∈fY k v fr,x.1∈fr:=by
 intro x hx
 have h1:x.1∈(fY k v fr).reverse.map (·.1):=List.mem_map.2 ⟨x,by simpa using hx,rfl⟩
 rw [qH k v fr hl] at h1
 exact List.mem_of_mem_take h1
theorem dU (v:ByteArray) (a b:Nat) (hb:b≤v.size):(v.extract a b).size=b-a:=by
 simp only [ByteArray.size_extract];omega
theorem qBi:∀ (k:Nat) (v:ByteArray) (fr:List Nat),v.size≤240 * k→(∀ x∈fY k v fr,fs.has x.1 x.2∧x.1≠0)→dL fs (eV (fY k v fr)) v.size (fY k v fr)
 | 0,v,fr,hv,_=>by
  have:v.size=0:=by omega
  simp [fY,dL,this]
 | k+1,v,fr,hv,hx=>by
  by_cases h:v.size=0
  ·rw [iS _ _ _ h];exact h
  ·rw [iT _ _ _ h] at hx ⊢
   have hs1:(v.extract (min v.size 240) v.size).size=v.size-min v.size 240:=dU _ _ _ (Nat.le_refl _)
   have hs0:(v.extract 0 (min v.size 240)).size=min v.size 240:=by rw [dU _ _ _ (by omega)];omega
   have ih:=qBi k (v.extract (min v.size 240) v.size) fr (by omega) (fun x hx'=>hx x (by simp [hx']))
   refine⟨rfl,by omega,(hx _ (by simp)).1,rfl,hs0,_,rfl,?_,?_⟩
   ·show _↔v.size-(v.extract 0 (min v.size 240)).size=0
    rw [hs0]
    constructor
    ·intro h0
     cases hc:fY k (v.extract (min v.size 240) v.size) fr with
     | nil =>
      rw [hc] at ih
      have:(v.extract (min v.size 240) v.size).size=0:=ih
      omega
     | cons y l =>
      rw [hc] at h0
      exact absurd h0 (hx y (by rw [hc];simp)).2
    ·intro h0
     rw [iS _ _ _ (by omega)];rfl
   ·show dL fs _ (v.size-(v.extract 0 (min v.size 240)).size) _
    rw [hs0,← hs1]
    exact ih
theorem qJt:∀ (k:Nat) (v:ByteArray) (fr:List Nat),(fY k v fr).length≤fr.length→(∀ p∈fr,aU (p:Nat)=true)→∀ x∈fY k v fr,x.2.encE=0
 | 0,_,_,_,_,x,hx=>by simp [fY] at hx
 | k+1,v,fr,hl,hp,x,hx=>by
  by_cases h:v.size=0
  ·rw [iS _ _ _ h] at hx;simp at hx
  ·rw [iT _ _ _ h] at hl hx
   rw [List.length_cons] at hl
   rcases List.mem_cons.1 hx with rfl|hx
   ·have hs0:(v.extract 0 (min v.size 240)).size=min v.size 240:=by rw [dU _ _ _ (by omega)];omega
    refine qLd _ _ ?_ (by rw [hs0];omega) (by rw [hs0];omega)
    cases hc:fY k (v.extract (min v.size 240) v.size) fr with
    | nil=>exact .inl rfl
    | cons y l =>
     refine .inr (hp _ (qI (k:=k) (v:=v.extract (min v.size 240) v.size) (by omega) y (by rw [hc];simp)))
   ·exact qJt k _ fr (by omega) hp x hx
def eJ (ch:List (Nat×Pg)):List UInt8:=ch.flatMap (fun x=>x.2.data.data.toList)
theorem qEx:∀ (k:Nat) (v:ByteArray) (fr:List Nat),v.size≤240 * k→eJ (fY k v fr)=v.data.toList
 | 0,v,fr,hv=>by
  have h0:v.size=0:=by omega
  rw [nP h0];rfl
 | k+1,v,fr,hv=>by
  by_cases h:v.size=0
  ·rw [iS _ _ _ h,nP h];rfl
  ·rw [iT _ _ _ h]
   have hs1:(v.extract (min v.size 240) v.size).size=v.size-min v.size 240:=dU _ _ _ (Nat.le_refl _)
   have ih:=qEx k (v.extract (min v.size 240) v.size) fr (by omega)
   rw [eJ,List.flatMap_cons]
   rw [eJ] at ih
   rw [ih]
   show (v.extract 0 (min v.size 240)).data.toList++(v.extract (min v.size 240) v.size).data.toList=_
   rw [ByteArray.data_extract,ByteArray.data_extract,← Array.toList_append,Array.extract_append_extract]
   congr 1
   have h1:min 0 (min v.size 240)=0:=by omega
   have h2:max (min v.size 240) v.size=v.size:=by omega
   rw [h1,h2]
   exact Array.extract_eq_self_of_le (Nat.le_refl _)
def En.value (x:En):List UInt8:=if x.e.over=0 then x.e.val.data.toList else eJ x.ch
def En.newB (x:En):Bool:=x.e.over==0&&decide (60<x.e.size)
def dJ (x:En) (fr:List Nat):List (Nat×Pg):=if x.newB=true then fY 2 x.e.val fr else []
def mI (x:En) (fr:List Nat):En:=if x.newB=true then ⟨⟨x.e.key,⟨#[]⟩,x.e.size,eV (dJ x fr)⟩,dJ x fr⟩ else x
def aV:List En→List Nat→List En×List (Nat×Pg)
 | [],_=>([],[])
 | x :: es,fr=>(mI x fr :: (aV es (fr.drop (dJ x fr).length)).1,(dJ x fr).reverse++(aV es (fr.drop (dJ x fr).length)).2)
theorem uR (x:En) (fr:List Nat):(mI x fr).e.key=x.e.key:=by unfold mI;split<;>rfl
theorem lZ:∀ (es:List En) (fr:List Nat),(aV es fr).1.map (fun x=>x.e.key)=es.map (fun x=>x.e.key)
 | [],_=>rfl
 | x :: es,fr=>by simp only [aV,List.map_cons,uR,lZ es]
theorem pD (es:List En) (fr:List Nat):(aV es fr).1.length=es.length:=by
 have:=congrArg List.length (lZ es fr);simpa using this
theorem uU:∀ (es:List En) (fr:List Nat),(aV es fr).2.length≤fr.length→(aV es fr).2.map (·.1)=fr.take (aV es fr).2.length
 | [],_,_=>by simp [aV]
 | x :: es,fr,hl=>by
  simp only [aV,List.length_append,List.length_reverse] at hl ⊢
  have hn:(dJ x fr).reverse.map (·.1)=fr.take (dJ x fr).length:=by
   unfold dJ at hl ⊢
   split
   ·rename_i h;rw [if_pos h] at hl;exact qH 2 _ fr (by omega)
   ·simp
  have ih:=uU es (fr.drop (dJ x fr).length) (by rw [List.length_drop];omega)
  rw [List.map_append,hn,ih,List.take_add]
theorem qUo (h:l.map (·.1)=fr.take l.length):∀ x∈l,x.1∈fr:=by
 intro x hx
 have h1:x.1∈l.map (·.1):=List.mem_map.2 ⟨x,hx,rfl⟩
 rw [h] at h1
 exact List.mem_of_mem_take h1
theorem pE {P:En→List Nat→Prop}:∀ (es:List En) (fr:List Nat),(aV es fr).2.length≤fr.length→∀ y∈(aV es fr).1,∃ x∈es,∃ f,(∀ p∈f,p∈fr)∧(dJ x f).length≤f.length∧y=mI x f∧∀ z∈dJ x f,z∈(aV es fr).2
 | [],_,_,y,hy=>by simp [aV] at hy
 | x :: es,fr,hl,y,hy=>by
  simp only [aV,List.length_append,List.length_reverse,List.mem_cons] at hl hy
  rcases hy with rfl|hy
  ·exact⟨x,by simp,fr,fun p hp=>hp,by omega,rfl,fun z hz=>by simp [aV,hz]⟩
  ·obtain⟨x',h1,f,h2,h3,h4,h5⟩:=pE (P:=P) es (fr.drop (dJ x fr).length) (by rw [List.length_drop];omega) y hy
   exact⟨x',by simp [h1],f,fun p hp=>List.mem_of_mem_drop (h2 p hp),h3,h4,fun z hz=>by simp [aV,h5 z hz]⟩
theorem qFd:∀ (es:List En) (fr:List Nat),(aV es fr).2.length≤fr.length→(∀ p∈fr,aU (p:Nat)=true)→∀ x∈(aV es fr).2,x.2.encE=0
 | [],_,_,_,x,hx=>by simp [aV] at hx
 | x :: es,fr,hl,hp,y,hy=>by
  simp only [aV,List.length_append,List.length_reverse,List.mem_append,List.mem_reverse] at hl hy
  rcases hy with hy|hy
  ·unfold dJ at hy hl
   split at hy
   ·rename_i h;rw [if_pos h] at hl;exact qJt 2 _ fr (by omega) hp y hy
   ·simp at hy
  ·exact qFd es (fr.drop (dJ x fr).length) (by rw [List.length_drop];omega) (fun p h=>hp p (List.mem_of_mem_drop h)) y hy
theorem nY (h:x.good fs) (hn:x.newB=true):x.e.size=(x.e.val.size:Int)∧x.e.val.size≤400∧60<x.e.val.size∧x.ch=[]:=by
 simp only [En.newB,Bool.and_eq_true,beq_iff_eq,decide_eq_true_eq] at hn
 obtain⟨_,_,h|⟨_,h1,sz,ov,_,h2,_⟩⟩:=h
 ·exact⟨h.2.2.1,h.2.2.2,by omega,h.2.1⟩
 ·rw [hn.1] at h1;simp [aU] at h1
theorem qWh (x:En) (fr:List Nat):esz (mI x fr)=esz x:=by
 unfold mI
 split
 ·rename_i h
  simp only [En.newB,Bool.and_eq_true,beq_iff_eq,decide_eq_true_eq] at h
  unfold esz
  simp only
  rw [if_pos h.2,if_pos h.2]
 ·rfl
theorem qBa (h:x.good fs) (hn:x.newB=true) (fr:List Nat):dJ x fr≠[]:=by
 obtain⟨_,_,h3,_⟩:=nY h hn
 rw [dJ,if_pos hn,iT _ _ _ (by omega)]
 simp
theorem tF {ch:List (Nat×Pg)} (h:ch≠[]):∃ y∈ch,eV ch=y.1:=by
 cases ch with
 | nil=>exact absurd rfl h
 | cons y l=>exact⟨y,by simp,rfl⟩
theorem eQ (h:aU (p:Nat)=true):2≤p∧p<4096:=by
 simp only [aU,Bool.and_eq_true,decide_eq_true_eq] at h;omega
theorem qNq (h:x.good fs) (fr:List Nat) (hl:(dJ x fr).length≤fr.length) (hp:∀ p∈fr,aU (p:Nat)=true):nI (mI x fr).e.val (mI x fr).e.size (mI x fr).e.over=true:=by
 unfold mI
 by_cases hn:x.newB=true
 ·rw [if_pos hn]
  obtain⟨h1,h2,h3,_⟩:=nY h hn
  obtain⟨y,hy,e⟩:=tF (qBa h hn fr)
  have hm:y.1∈fr:=by
   rw [dJ,if_pos hn] at hy hl
   exact qI hl y hy
  simp only [nI,Bool.or_eq_true,Bool.and_eq_true,beq_iff_eq,decide_eq_true_eq]
  refine .inr ⟨⟨⟨?_,lC.2 rfl⟩,by omega⟩,by omega⟩
  rw [e];exact hp _ hm
 ·rw [if_neg hn]
  simp only [En.newB,Bool.and_eq_true,beq_iff_eq,decide_eq_true_eq,not_and,Int.not_lt] at hn
  simp only [nI,Bool.or_eq_true,Bool.and_eq_true,beq_iff_eq,decide_eq_true_eq]
  obtain⟨_,_,⟨h1,h2,h3,h4⟩|⟨h1,h2,sz,ov,h3,h4,h5,h6,_⟩⟩:=h
  ·exact .inl ⟨⟨h1,by have:=hn h1;omega⟩,h3⟩
  ·exact .inr ⟨⟨⟨h2,lC.2 h1⟩,by omega⟩,by omega⟩
theorem mU:∀ {l:List (Nat×Pg)} {p r:Nat},dL fs p r l→(∀ x∈l,∀ g,fs.has x.1 g→fs'.has x.1 g)→dL fs' p r l
 | [],_,_,h,_=>h
 | x :: l,p,r,h,hs=>by
  obtain⟨a1,a2,a3,a4,a5,nx,a6,a7,a8⟩:=h
  refine⟨a1,a2,?_,a4,a5,nx,a6,a7,mU a8 (fun y hy=>hs y (by simp [hy]))⟩
  rw [← a1] at a3 ⊢
  exact hs x (by simp) _ a3
theorem qYz (h:x.good fs) (fr:List Nat) (hl:(dJ x fr).length≤fr.length) (hp:∀ p∈fr,aU (p:Nat)=true) (hw:∀ y∈dJ x fr,fs'.has y.1 y.2) (hs:∀ p∈x.pages,∀ g,fs.has p g→fs'.has p g):(mI x fr).ok fs':=by
 unfold mI
 by_cases hn:x.newB=true
 ·rw [if_pos hn]
  obtain⟨h1,h2,h3,_⟩:=nY h hn
  have hpl:∀ y∈dJ x fr,y.1≠0:=fun y hy=>by
   rw [dJ,if_pos hn] at hy hl
   have:=eQ (hp _ (qI hl y hy));omega
  obtain⟨y,hy,e⟩:=tF (qBa h hn fr)
  refine⟨x.e.val.size,eV (dJ x fr),h1,rfl,h2,.inr ⟨by rw [e];have:=hpl y hy;omega,?_⟩⟩
  rw [dJ,if_pos hn] at hw hpl ⊢
  exact qBi 2 x.e.val fr (by omega) (fun y hy=>⟨hw y hy,hpl y hy⟩)
 ·rw [if_neg hn]
  obtain⟨_,_,⟨h1,h2,h3,h4⟩|⟨h1,h2,sz,ov,h3,h4,h5,h6,h7⟩⟩:=h
  ·exact⟨x.e.val.size,0,h3,h1,h4,.inl ⟨rfl,h2⟩⟩
  ·refine⟨sz,ov,h3,h4,h6,.inr ⟨?_,mU h7 (fun y hy=>hs y.1 (List.mem_map.2 ⟨y,hy,rfl⟩))⟩⟩
   rw [h4] at h2
   have:=eQ h2;omega
theorem qNp (h:x.good fs) (fr:List Nat) (hl:(dJ x fr).length≤fr.length) (hp:∀ p∈fr,aU (p:Nat)=true):(mI x fr).value=x.value:=by
 unfold mI
 by_cases hn:x.newB=true
 ·rw [if_pos hn]
  obtain⟨h1,h2,h3,_⟩:=nY h hn
  obtain⟨y,hy,e⟩:=tF (qBa h hn fr)
  have hm:2≤y.1:=by
   rw [dJ,if_pos hn] at hy hl
   exact(eQ (hp _ (qI hl y hy))).1
  have h0:x.e.over=0:=by
   simp only [En.newB,Bool.and_eq_true,beq_iff_eq] at hn;exact hn.1
  unfold En.value
  rw [if_pos h0]
  simp only
  rw [if_neg (by rw [e];omega),dJ,if_pos hn]
  exact qEx 2 _ fr (by omega)
 ·rw [if_neg hn]
def dK:NT→List Nat→T×List (Nat×Pg)
 | .kept t _,_=>(t,[])
 | .leaf _ es,fr=>(.leaf (fr.getD (aV es fr).2.length 0) (aV es fr).1,(aV es fr).2++[(fr.getD (aV es fr).2.length 0,eH (aV es fr).1)])
 | .bran _ _,_=>(.leaf 0 [],[])
def aZ:List NT→List Nat→List T×List (Nat×Pg)
 | [],_=>([],[])
 | n :: ns,fr=>((dK n fr).1 :: (aZ ns (fr.drop (dK n fr).2.length)).1,(dK n fr).2++(aZ ns (fr.drop (dK n fr).2.length)).2)
def fZ (ns:List NT) (fr:List Nat):T×List (Nat×Pg) :=
 (.branch (fr.getD (aZ ns fr).2.length 0) (ns.tail.map (fun n=>n.sp.lo)) (aZ ns fr).1,
  (aZ ns fr).2++[(fr.getD (aZ ns fr).2.length 0,eK (ns.tail.map (fun n=>n.sp.lo)) ((aZ ns fr).1.map T.place))])
theorem xO (n:NT) (fr:List Nat) (hl:(dK n fr).2.length≤fr.length):(dK n fr).2.map (·.1)=fr.take (dK n fr).2.length:=by
 cases n with
 | kept=>simp [dK]
 | bran=>simp [dK]
 | leaf s es =>
  simp only [dK,List.length_append,List.length_singleton] at hl ⊢
  rw [List.map_append,uU es fr (by omega),List.take_succ_eq_append_getElem (by omega)]
  simp [List.getElem?_eq_getElem (show (aV es fr).2.length<fr.length by omega)]
theorem uS:∀ (ns:List NT) (fr:List Nat),(aZ ns fr).2.length≤fr.length→(aZ ns fr).2.map (·.1)=fr.take (aZ ns fr).2.length
 | [],_,_=>by simp [aZ]
 | n :: ns,fr,hl=>by
  simp only [aZ,List.length_append] at hl ⊢
  rw [List.map_append,xO n fr (by omega),uS ns (fr.drop (dK n fr).2.length) (by rw [List.length_drop];omega),List.take_add]
theorem qKc (ns:List NT) (fr:List Nat) (hl:(fZ ns fr).2.length≤fr.length):(fZ ns fr).2.map (·.1)=fr.take (fZ ns fr).2.length:=by
 simp only [fZ,List.length_append,List.length_singleton] at hl ⊢
 rw [List.map_append,uS ns fr (by omega),List.take_succ_eq_append_getElem (by omega)]
 simp [List.getElem?_eq_getElem (show (aZ ns fr).2.length<fr.length by omega)]
theorem dP:∀ (ns:List NT) (fr:List Nat),(aZ ns fr).1.length=ns.length
 | [],_=>rfl
 | n :: ns,fr=>by simp [aZ,dP ns]
theorem uT:∀ (ns:List NT) (fr:List Nat) (j:Nat) (hj:j<ns.length),(aZ ns fr).2.length≤fr.length→∃ f,(∀ p∈f,p∈fr)∧(dK ns[j] f).2.length≤f.length∧(aZ ns fr).1[j]?=some (dK ns[j] f).1∧∀ y∈(dK ns[j] f).2,y∈(aZ ns fr).2
 | [],_,j,hj,_=>by simp at hj
 | n :: ns,fr,j,hj,hl=>by
  simp only [aZ,List.length_append] at hl ⊢
  cases j with
  | zero=>exact⟨fr,fun p hp=>hp,by simp;omega,by simp,fun y hy=>by simp at hy;simp [hy]⟩
  | succ j =>
   obtain⟨f,h1,h2,h3,h4⟩:=uT ns (fr.drop (dK n fr).2.length) j (by simpa using hj) (by rw [List.length_drop];omega)
   exact⟨f,fun p hp=>List.mem_of_mem_drop (h1 p hp),by simpa using h2,by simpa using h3,fun y hy=>by simp at hy;simp [h4 y hy]⟩
structure Laid (fs fs':Fs) (Z:List Nat) (ws:List (Nat×Pg)):Prop where
 has:∀ y∈ws,fs'.has y.1 y.2
 keep:∀ p g,p ∉ Z→fs.has p g→fs'.has p g
theorem qRw {l m:List En} (h:l.map (fun x=>x.e.key)=m.map (fun x=>x.e.key)) (hm:cM m):cM l:=by
 have h1:(m.map (fun x=>x.e.key)).Pairwise (fun a b=>lt a b=true):=by rw [List.pairwise_map];exact hm
 rw [← h,List.pairwise_map] at h1
 exact h1
theorem qKe {l m:List En} (h:l.map (fun x=>x.e.key)=m.map (fun x=>x.e.key)) {y:En} (hy:y∈l):∃ x∈m,x.e.key=y.e.key:=by
 have:y.e.key∈m.map (fun x=>x.e.key):=by rw [← h];exact List.mem_map.2 ⟨y,hy,rfl⟩
 obtain⟨x,hx,e⟩:=List.mem_map.1 this
 exact⟨x,hx,e⟩
theorem qFc:∀ (es:List En) (fr:List Nat),tot esz (aV es fr).1=tot esz es
 | [],_=>rfl
 | x :: es,fr=>by simp only [aV,gD,qWh,qFc es]
theorem qBl (h:Ok0 fs n) (fr:List Nat) (hl:(dK n fr).2.length≤fr.length) (hp:∀ p∈fr,aU (p:Nat)=true):∀ y∈(dK n fr).2,y.2.encE=0:=by
 cases n with
 | kept=>simp [dK]
 | bran=>exact h.elim
 | leaf s es =>
  obtain⟨h1,h2,h3,h4,h5⟩:=h
  simp only [dK,List.length_append,List.length_singleton] at hl ⊢
  intro y hy
  rcases List.mem_append.1 hy with hy|hy
  ·exact qFd es fr (by omega) hp y hy
  ·rw [List.mem_singleton] at hy
   subst hy
   have hk:=lZ es fr
   refine qXd _ ?_ (qRw hk h3) ?_ (by rw [qFc];exact h4)
   ·intro e
    have:=congrArg List.length hk
    rw [e] at this
    simp at this
    exact h1 (List.eq_nil_of_length_eq_zero this.symm)
   ·intro y hy
    obtain⟨x,hx,f,hf,hfl,rfl,_⟩:=pE (P:=fun _ _=>True) es fr (by omega) y hy
    have hg:=h5 x hx
    rw [uR]
    exact⟨hg.1,hg.2.1,qNq hg f hfl (fun p h=>hp p (hf p h))⟩
theorem aX.in0 {s s':Sp} (h:aX fs 0 t s) (hs:∀ x∈T.ents 0 t,s'.has x.e.key=true):aX fs 0 t s':=by
 cases t with
 | branch=>exact h.elim
 | leaf p es =>
  obtain⟨g,a1,a2,a3,a4,_,a6⟩:=h
  exact⟨g,a1,a2,a3,a4,hs,a6⟩
theorem qGp (h:aX fs 0 t s) (hk:∀ p∈T.pages 0 t,∀ g,fs.has p g→fs'.has p g):aX fs' 0 t s:=by
 cases t with
 | branch=>exact h.elim
 | leaf p es =>
  obtain⟨g,a1,a2,a3,a4,a5,a6⟩:=h
  refine⟨g,hk p (by simp [T.pages]) g a1,a2,a3,a4,a5,fun x hx=>?_⟩
  obtain⟨sz,ov,b1,b2,b3,b4⟩:=a6 x hx
  refine⟨sz,ov,b1,b2,b3,b4.imp id (fun ⟨c1,c2⟩=>⟨c1,mU c2 (fun y hy=>hk y.1 ?_)⟩)⟩
  simp only [T.pages,List.mem_cons,List.mem_flatMap]
  exact .inr ⟨x,hx,List.mem_map.2 ⟨y,hy,rfl⟩⟩
def NT.pages0:NT→List Nat
 | .kept t _=>T.pages 0 t
 | .leaf _ es=>es.flatMap En.pages
 | .bran _ _=>[]
theorem xN {Z fr f:List Nat} {ws:List (Nat×Pg)} (L:Laid fs fs' Z ws) (h:Ok0 fs n) (hf:∀ p∈f,p∈fr) (hl:(dK n f).2.length≤f.length) (hp:∀ p∈fr,aU (p:Nat)=true) (hw:∀ y∈(dK n f).2,y∈ws) (ha:∀ p∈n.pages0,p ∉ Z) (s:Sp) (hs:∀ x∈n.ents0,s.has x.e.key=true) :
  aX fs' 0 (dK n f).1 s∧aU ((dK n f).1.place:Nat)=true∨aX fs' 0 (dK n f).1 s∧∃ t sp,n=.kept t sp:=by
 cases n with
 | bran=>exact h.elim
 | kept t sp =>
  refine .inr ⟨?_,t,sp,rfl⟩
  cases t with
  | branch=>exact h.elim
  | leaf p es =>
   have h0:aX fs 0 (.leaf p es) sp:=h
   exact(qGp h0 (fun q hq g hg=>L.keep q g (ha q hq) hg)).in0 hs
 | leaf sp es =>
  obtain⟨h1,h2,h3,h4,h5⟩:=h
  simp only [dK,List.length_append,List.length_singleton] at hl hw ⊢
  have hm:f.getD (aV es f).2.length 0∈f:=by
   rw [List.getD_eq_getElem?_getD,List.getElem?_eq_getElem (by omega)]
   exact List.getElem_mem _
  refine .inl ⟨⟨eH (aV es f).1,L.has (f.getD (aV es f).2.length 0,eH (aV es f).1) (hw _ (List.mem_append_right _ (List.mem_singleton.2 rfl))),rfl,rfl,?_,?_,?_⟩,hp _ (hf _ hm)⟩
  ·intro e
   have:=pD es f
   rw [e] at this
   exact h1 (List.eq_nil_of_length_eq_zero this.symm)
  ·intro y hy
   obtain⟨x,hx,e⟩:=qKe (lZ es f) hy
   rw [← e];exact hs x hx
  ·intro y hy
   obtain⟨x,hx,f',hf',hfl,rfl,hz⟩:=pE (P:=fun _ _=>True) es f (by omega) y hy
   refine qYz (h5 x hx) f' hfl (fun p h=>hp p (hf p (hf' p h))) (fun z hzz=>L.has _ (hw _ (by simp [hz z hzz]))) ?_
   intro p hpp g hg
   exact L.keep p g (ha p (List.mem_flatMap.2 ⟨x,hx,hpp⟩)) hg
theorem qBk (h:Ok0 fs n) (hkp:∀ t sp,n=.kept t sp→aU (t.place:Nat)=true) (f:List Nat) (hl:(dK n f).2.length≤f.length) (hp:∀ p∈f,aU (p:Nat)=true):aU ((dK n f).1.place:Nat)=true:=by
 cases n with
 | bran=>exact h.elim
 | kept t sp=>exact hkp t sp rfl
 | leaf sp es =>
  simp only [dK,List.length_append,List.length_singleton] at hl ⊢
  have hm:f.getD (aV es f).2.length 0∈f:=by
   rw [List.getD_eq_getElem?_getD,List.getElem?_eq_getElem (by omega)]
   exact List.getElem_mem _
  exact hp _ hm
theorem qFa:∀ (ns:List NT) (fr:List Nat),(∀ n∈ns,Ok0 fs n)→(aZ ns fr).2.length≤fr.length→(∀ p∈fr,aU (p:Nat)=true)→∀ y∈(aZ ns fr).2,y.2.encE=0
 | [],_,_,_,_=>by simp [aZ]
 | n :: ns,fr,ho,hl,hp=>by
  simp only [aZ,List.length_append] at hl ⊢
  intro y hy
  rcases List.mem_append.1 hy with hy|hy
  ·exact qBl (ho n (by simp)) fr (by omega) hp y hy
  ·exact qFa ns (fr.drop (dK n fr).2.length) (fun m hm=>ho m (by simp [hm])) (by rw [List.length_drop];omega) (fun p h=>hp p (List.mem_of_mem_drop h)) y hy
theorem qJv (ho:∀ n∈ns,Ok0 fs n) (hkp:∀ n∈ns,∀ t sp,n=.kept t sp→aU (t.place:Nat)=true) (hl:(aZ ns fr).2.length≤fr.length) (hp:∀ p∈fr,aU (p:Nat)=true):∀ t∈(aZ ns fr).1,aU (t.place:Nat)=true:=by
 intro t ht
 obtain⟨j,hj,rfl⟩:=List.getElem_of_mem ht
 rw [dP] at hj
 obtain⟨f,h1,h2,h3,_⟩:=uT ns fr j hj hl
 have h4:=List.getElem?_eq_some_iff.1 h3
 obtain⟨h5,h6⟩:=h4
 rw [h6]
 exact qBk (ho _ (List.getElem_mem _)) (hkp _ (List.getElem_mem _)) f h2 (fun p h=>hp p (h1 p h))
theorem Lst.tail_los (h:Lst fs (n :: ns)):(ns.map (fun n=>n.sp.lo)).Pairwise (fun a b=>lt a b=true)∧∀ k∈ns.map (fun n=>n.sp.lo),lt ⟨#[]⟩ k=true:=by
 have h0:=h.los
 rw [List.map_cons] at h0
 obtain⟨h1,h2⟩:=List.pairwise_cons.1 h0
 exact⟨h2,fun k hk=>jG (qAy _) (h1 k hk)⟩
theorem qYi (ns:List NT):2 * ns.length+tot (fun k:ByteArray=>k.size+1) (ns.map (fun n=>n.sp.lo))=tot yK ns:=by
 induction ns with
 | nil=>rfl
 | cons n ns ih=>rw [List.map_cons,gD,gD,List.length_cons];unfold yK at *;omega
theorem qWi (h:Lst fs (n :: ns)) (hne:ns≠[]) (h24:∀ m∈n :: ns,m.sp.lo.size≤24) (hkp:∀ m∈n :: ns,∀ t sp,m=.kept t sp→aU (t.place:Nat)=true) (hs:tot yK (n :: ns)≤250) (fr:List Nat) (hl:(fZ (n :: ns) fr).2.length≤fr.length) (hp:∀ p∈fr,aU (p:Nat)=true):∀ y∈(fZ (n :: ns) fr).2,y.2.encE=0:=by
 simp only [fZ,List.length_append,List.length_singleton] at hl ⊢
 intro y hy
 rcases List.mem_append.1 hy with hy|hy
 ·exact qFa _ fr h.ok (by omega) hp y hy
 ·rw [List.mem_singleton] at hy
  subst hy
  obtain⟨t1,t2⟩:=h.tail_los
  refine qXe _ _ ?_ ?_ t1 ?_ ?_ ?_
  ·simpa using hne
  ·simp [dP]
  ·intro k hk
   refine⟨t2 k hk,?_⟩
   simp only [List.tail_cons] at hk
   obtain⟨m,hm,rfl⟩:=List.mem_map.1 hk
   exact h24 m (by simp [hm])
  ·intro p hpp
   obtain⟨t,ht,rfl⟩:=List.mem_map.1 hpp
   exact qJv h.ok hkp (by omega) hp t ht
  ·rw [List.length_map,dP,List.tail_cons,List.length_cons]
   have e1:=qYi ns
   rw [gD] at hs
   unfold yK at hs e1
   omega
theorem Lst.has (h:Lst fs ns) (j:Nat) (hj:j<ns.length):∀ x∈(ns[j]).ents0,(⟨iW ⟨⟨#[]⟩,⟨#[]⟩⟩ (ns.tail.map (fun n=>n.sp.lo)) j,iI ⟨⟨#[]⟩,⟨#[]⟩⟩ (ns.tail.map (fun n=>n.sp.lo)) j⟩:Sp).has x.e.key=true:=by
 intro x hx
 simp only [Sp.has,Bool.and_eq_true]
 have hlo:=h.lo ns[j] (List.getElem_mem _) x hx
 constructor
 ·unfold iW
  split
  ·exact qAy _
  ·rename_i h0
   have e:(ns.tail.map (fun n=>n.sp.lo))[j-1]?=some (ns[j]).sp.lo:=by
    rw [List.getElem?_map,List.getElem?_tail,show j-1+1=j by omega,List.getElem?_eq_getElem hj];rfl
   rw [e];exact hlo
 ·unfold iI
  rw [List.getElem?_map,List.getElem?_tail]
  by_cases h1:j+1<ns.length
  ·rw [List.getElem?_eq_getElem h1]
   refine eX.2 (.inr ?_)
   exact(List.pairwise_iff_getElem.1 h.sep j (j+1) hj h1 (by omega)) x hx
  ·rw [List.getElem?_eq_none (by omega)]
   exact eX.2 (.inl rfl)
theorem qKb (h:Lst fs (n :: ns)) (hne:ns≠[]) (L:Laid fs fs' Z (fZ (n :: ns) fr).2) (hl:(fZ (n :: ns) fr).2.length≤fr.length) (hp:∀ p∈fr,aU (p:Nat)=true) (ha:∀ m∈n :: ns,∀ p∈m.pages0,p ∉ Z) :
  aX fs' 1 (fZ (n :: ns) fr).1 ⟨⟨#[]⟩,⟨#[]⟩⟩∧aU ((fZ (n :: ns) fr).1.place:Nat)=true:=by
 simp only [fZ,List.length_append,List.length_singleton] at hl L ⊢
 have hm:fr.getD (aZ (n :: ns) fr).2.length 0∈fr:=by
  rw [List.getD_eq_getElem?_getD,List.getElem?_eq_getElem (by omega)]
  exact List.getElem_mem _
 obtain⟨t1,t2⟩:=h.tail_los
 have hlen:0<ns.length:=List.length_pos_iff.2 hne
 refine⟨⟨eK (ns.map (fun n=>n.sp.lo)) ((aZ (n :: ns) fr).1.map T.place),L.has (fr.getD (aZ (n :: ns) fr).2.length 0,eK (ns.map (fun n=>n.sp.lo)) ((aZ (n :: ns) fr).1.map T.place)) (List.mem_append_right _ (List.mem_singleton.2 rfl)),rfl,rfl,?_,?_,⟨by simpa using hlen,?_,qGq _⟩,?_⟩,hp _ hm⟩
 ·simp [eK]
 ·simp [dP]
 ·exact t2 _ (List.getElem_mem _)
 ·intro x hx
  obtain⟨j,hj,e⟩:=List.getElem_of_mem hx
  rw [dD,dP] at hj
  have hat:=fO ⟨⟨#[]⟩,⟨#[]⟩⟩ ((n :: ns).tail.map (fun n=>n.sp.lo)) (aZ (n :: ns) fr).1 j (by rw [dP];exact hj)
  have e2:x=((aZ (n :: ns) fr).1[j]'(by rw [dP];exact hj),⟨iW ⟨⟨#[]⟩,⟨#[]⟩⟩ ((n :: ns).tail.map (fun n=>n.sp.lo)) j,iI ⟨⟨#[]⟩,⟨#[]⟩⟩ ((n :: ns).tail.map (fun n=>n.sp.lo)) j⟩):=by
   have h1:=List.getElem?_eq_some_iff.1 hat
   obtain⟨_,h2⟩:=h1
   rw [← e,← h2]
  obtain⟨f,h1,h2,h3,h4⟩:=uT (n :: ns) fr j hj (by omega)
  obtain⟨h5,h6⟩:=List.getElem?_eq_some_iff.1 h3
  rw [e2,h6]
  rcases xN L (h.ok _ (List.getElem_mem hj)) h1 h2 hp (fun y hy=>List.mem_append_left _ (h4 y hy)) (ha _ (List.getElem_mem hj)) _ (h.has j hj) with h|h
  ·exact h.1
  ·exact h.1
def cG (o:Option (Nat×T)) (cs:List Ch):List NT:=match o with
 | none=>cQ (bK [] cs)
 | some (_,.leaf _ es)=>cQ (bK es cs)
 | some (_,.branch _ ks kids)=>qQm ⟨⟨#[]⟩,⟨#[]⟩⟩ ks kids cs
def gR:Option (Nat×T)→Prop
 | none=>True
 | some (h,_)=>h≤1
def qZs (K:List ByteArray):Option (Nat×T)→Prop
 | none=>True
 | some (h,t)=>TIn K h t
theorem iM (hro:bF fs root o) (hf:gR o):o=none∨(∃ p es,o=some (0,.leaf p es)∧aX fs 0 (.leaf p es) ⟨⟨#[]⟩,⟨#[]⟩⟩)∨∃ p ks kids,o=some (1,.branch p ks kids)∧aX fs 1 (.branch p ks kids) ⟨⟨#[]⟩,⟨#[]⟩⟩:=by
 cases o with
 | none=>exact .inl rfl
 | some x =>
  obtain⟨h,t⟩:=x
  obtain⟨_,_,hs⟩:=hro
  have hf':h≤1:=hf
  rcases Nat.lt_or_ge h 1 with h0|h0
  ·have:h=0:=by omega
   subst this
   cases t with
   | leaf p es=>exact .inr (.inl ⟨p,es,rfl,hs⟩)
   | branch=>exact hs.elim
  ·have:h=1:=by omega
   subst this
   cases t with
   | leaf=>exact hs.elim
   | branch p ks kids=>exact .inr (.inr ⟨p,ks,kids,rfl,hs⟩)
theorem lW (hro:bF fs root o) (hf:gR o) (hr:cI cs) (hc:∀ c∈cs,c.good):Lst fs (cG o cs)∧cP (cG o cs)=bK (fA o) cs:=by
 rcases iM hro hf with rfl|⟨p,es,rfl,hs⟩|⟨p,ks,kids,rfl,hs⟩
 ·have hg:=eW (fs:=fs) (es:=[]) .nil hr (by simp) hc
  exact⟨mQ (iQ .nil hr) hg,fW hg⟩
 ·have hre:cM es:=dF (h:=0) hs
  have hg:=eW hre hr (eZ hs) hc
  exact⟨mQ (iQ hre hr) hg,fW hg⟩
 ·exact qTb hs hr hc
theorem mO (hro:bF fs root o) (hf:gR o) (hr:cI cs) (hc:∀ c∈cs,c.good) (hcK:∀ c∈cs,c.key∈K) (hoK:qZs K o):∀ n∈cG o cs,yN K n:=by
 rcases iM hro hf with rfl|⟨p,es,rfl,hs⟩|⟨p,ks,kids,rfl,hs⟩
 ·have hg:=eW (fs:=fs) (es:=[]) .nil hr (by simp) hc
  refine kQ hg (fun x hx=>?_)
  rcases (dI .nil hr x).1 hx with⟨c,h1,_,rfl⟩|⟨h1,_⟩
  ·exact hcK c h1
  ·simp at h1
 ·have hre:cM es:=dF (h:=0) hs
  have hg:=eW hre hr (eZ hs) hc
  refine kQ hg (fun x hx=>?_)
  rcases (dI hre hr x).1 hx with⟨c,h1,_,rfl⟩|⟨h1,_⟩
  ·exact hcK c h1
  ·exact hoK x h1
 ·exact qNx hs hr hc hcK hoK
def qGh (P:List Nat) (n:NT):Prop:=(∀ p∈n.pages0,p∈P)∧∀ x∈n.ents0,∀ p∈x.pages,p∈P
theorem kR (hg:∀ x∈es,x.good fs) (hP:∀ x∈es,∀ p∈x.pages,p∈P):∀ n∈cQ es,qGh P n:=by
 intro n hn
 have hin:=tC hg n hn
 obtain⟨q,hq,rfl⟩:=List.mem_map.1 hn
 refine⟨?_,fun x hx=>hP x (hin x hx)⟩
 intro p hp
 obtain⟨x,hx,hp⟩:=List.mem_flatMap.1 hp
 exact hP x (hin x hx) p hp
theorem sS (he:cM es) (hr:cI cs) (hP:∀ x∈es,∀ p∈x.pages,p∈P):∀ x∈bK es cs,∀ p∈x.pages,p∈P:=by
 intro x hx p hp
 rcases (dI he hr x).1 hx with⟨c,h1,_,rfl⟩|⟨h1,_⟩
 ·simp [En.pages,chE] at hp
 ·exact hP x h1 p hp
theorem qOb (h:Lst fs (acc++n :: B)) (hK:∀ m∈acc++n :: B,qGh P m):∀ m∈gF eB acc n++B,qGh P m:=by
 unfold gF
 rcases List.eq_nil_or_concat acc with rfl|⟨A,l,rfl⟩
 ·simpa using hK
 ·simp only [List.concat_eq_append] at h hK ⊢
  rw [List.getLast?_append]
  simp only [List.getLast?_singleton,Option.some_or]
  split
  ·rw [List.dropLast_concat,List.append_assoc]
   intro m hm
   simp only [List.mem_append] at hm
   rcases hm with hm|hm|hm
   ·exact hK m (by simp [hm])
   ·refine kR (fs:=fs) (fun x hx=>?_) (fun x hx=>?_) m hm
    ·rcases List.mem_append.1 hx with hx|hx
     ·exact(eR (h.ok l (by simp))).2.2 x hx
     ·exact(eR (h.ok n (by simp))).2.2 x hx
    ·rcases List.mem_append.1 hx with hx|hx
     ·exact(hK l (by simp)).2 x hx
     ·exact(hK n (by simp)).2 x hx
   ·exact hK m (by simp [hm])
  ·simpa using hK
theorem qFj:∀ {ns acc:List NT},Lst fs (acc++ns)→(∀ m∈acc++ns,qGh P m)→∀ m∈ns.foldl (gF eB) acc,qGh P m
 | [],acc,_,hK=>by simpa using hK
 | n :: ns,acc,h,hK=>qFj (ns:=ns) (acc:=gF eB acc n) (nV h).1 (qOb h hK)
theorem qBp (h:Lst fs (acc++n :: B)) (hK:∀ m∈acc++n :: B,∀ t sp,m=.kept t sp→Q t):∀ m∈gF eB acc n++B,∀ t sp,m=.kept t sp→Q t:=by
 unfold gF
 rcases List.eq_nil_or_concat acc with rfl|⟨A,l,rfl⟩
 ·simpa using hK
 ·simp only [List.concat_eq_append] at h hK ⊢
  rw [List.getLast?_append]
  simp only [List.getLast?_singleton,Option.some_or]
  split
  ·rw [List.dropLast_concat,List.append_assoc]
   intro m hm
   simp only [List.mem_append] at hm
   rcases hm with hm|hm|hm
   ·exact hK m (by simp [hm])
   ·intro t sp e
    obtain⟨q,_,rfl⟩:=List.mem_map.1 hm
    simp [qEv] at e
   ·exact hK m (by simp [hm])
  ·simpa using hK
theorem qFi:∀ {ns acc:List NT},Lst fs (acc++ns)→(∀ m∈acc++ns,∀ t sp,m=.kept t sp→Q t)→∀ m∈ns.foldl (gF eB) acc,∀ t sp,m=.kept t sp→Q t
 | [],acc,_,hK=>by simpa using hK
 | n :: ns,acc,h,hK=>qFi (ns:=ns) (acc:=gF eB acc n) (nV h).1 (qBp h hK)
theorem mP:∀ m∈cQ es,∀ t sp,m=.kept t sp→Q t:=by
 intro m hm t sp e
 obtain⟨q,_,rfl⟩:=List.mem_map.1 hm
 simp [qEv] at e
theorem xK (hro:bF fs root o) (hf:gR o) (hr:cI cs) (hc:∀ c∈cs,c.good):(∀ n∈cG o cs,qGh (bJ o) n)∧∀ n∈cG o cs,∀ t sp,n=.kept t sp→aU (t.place:Nat)=true:=by
 rcases iM hro hf with rfl|⟨p,es,rfl,hs⟩|⟨p,ks,kids,rfl,hs⟩
 ·have hg:=eW (fs:=fs) (es:=[]) .nil hr (by simp) hc
  exact⟨kR hg (sS .nil hr (by simp)),mP⟩
 ·have hre:cM es:=dF (h:=0) hs
  have hg:=eW hre hr (eZ hs) hc
  refine⟨kR hg (sS hre hr (fun x hx p hp=>?_)),mP⟩
  simp only [bJ,T.pages,List.mem_cons,List.mem_flatMap]
  exact .inr ⟨x,hx,hp⟩
 ·obtain⟨hl,hp,hb,_,hall⟩:=fC hs
  have hpp:=jQ _ ks kids hl hp hb
  have hk:=fun x hx=>yT (x:=x.2) (t:=x.1) (hall x hx) hr hc
  obtain⟨f1,f2⟩:=qP (fun x=>eT x cs) (parts ⟨⟨#[]⟩,⟨#[]⟩⟩ ks kids) (fun x hx=>(hk x hx).1) hpp
  have hmem:∀ x∈parts ⟨⟨#[]⟩,⟨#[]⟩⟩ ks kids,x.1∈kids:=fun x hx=>by
   have:x.1∈(parts ⟨⟨#[]⟩,⟨#[]⟩⟩ ks kids).map (·.1):=List.mem_map.2 ⟨x,hx,rfl⟩
   rwa [gJ] at this
  constructor
  ·refine qFj (acc:=[]) f1 ?_
   intro m hm
   obtain⟨x,hx,hm⟩:=List.mem_flatMap.1 hm
   have hst:=hall x hx
   obtain⟨t,sp⟩:=x
   cases t with
   | branch=>exact hst.elim
   | leaf q es =>
    have hre:cM es:=dF (h:=0) hst
    have hpg:∀ z∈T.pages 0 (.leaf q es),z∈bJ (some (1,.branch p ks kids)):=fun z hz=>by
     simp only [bJ,T.pages,List.mem_cons,List.mem_flatMap]
     exact .inr ⟨_,hmem _ hx,by simpa [T.pages] using hz⟩
    have hep:∀ x∈es,∀ z∈x.pages,z∈bJ (some (1,.branch p ks kids)):=fun x hx z hz=>hpg z (by
     simp only [T.pages,List.mem_cons,List.mem_flatMap];exact .inr ⟨x,hx,hz⟩)
    by_cases h0:(eF cs sp).length=0
    ·have e:eT (.leaf q es,sp) cs=[.kept (.leaf q es) sp]:=by simp [eT,h0]
     rw [e,List.mem_singleton] at hm
     subst hm
     exact⟨hpg,hep⟩
    ·have e:eT (.leaf q es,sp) cs=cQ (bK es (eF cs sp)):=by simp [eT,h0]
     rw [e] at hm
     have hro:=iD hr sp
     exact kR (eW (fs:=fs) hre hro (eZ hst) (fun c h=>hc c (jF.1 h).1)) (sS hre hro hep) m hm
  ·refine qFi (acc:=[]) f1 ?_
   intro m hm t' sp' e'
   obtain⟨x,hx,hm⟩:=List.mem_flatMap.1 hm
   have hx1:=hmem x hx
   obtain⟨t,sp⟩:=x
   have hpl:aU (t.place:Nat)=true:=by
    obtain⟨g,hg,hk2,_,hkd,_⟩:=hs
    refine qKo hg hk2 _ ?_
    rw [hkd]
    exact List.mem_map.2 ⟨t,hx1,rfl⟩
   cases t with
   | branch =>
    simp only [eT,List.mem_singleton] at hm
    rw [hm] at e'
    injection e' with e1 e2
    rw [← e1];exact hpl
   | leaf q es =>
    by_cases h0:(eF cs sp).length=0
    ·have e:eT (.leaf q es,sp) cs=[.kept (.leaf q es) sp]:=by simp [eT,h0]
     rw [e,List.mem_singleton] at hm
     rw [hm] at e'
     injection e' with e1 e2
     rw [← e1];exact hpl
    ·have e:eT (.leaf q es,sp) cs=cQ (bK es (eF cs sp)):=by simp [eT,h0]
     rw [e] at hm
     exact mP (Q:=fun t=>aU (t.place:Nat)=true) m hm t' sp' e'
def bG (N:List NT) (fr:List Nat):Option (Nat×T)×List (Nat×Pg):=match N with
 | []=>(none,[])
 | [n]=>(some (0,(dK n fr).1),(dK n fr).2)
 | n :: m :: r=>(some (1,(fZ (n :: m :: r) fr).1),(fZ (n :: m :: r) fr).2)
def rootOf:Option (Nat×T)→Nat
 | none=>0
 | some (_,t)=>t.place
theorem qSo (x:En) (fr:List Nat):(dJ x fr).length≤2:=by
 unfold dJ
 split
 ·exact qBh 2 _ _
 ·simp
theorem qJ:∀ (es:List En) (fr:List Nat),(aV es fr).2.length≤2 * es.length
 | [],_=>by simp [aV]
 | x :: es,fr=>by
  have h1:=qSo x fr
  have h2:=qJ es (fr.drop (dJ x fr).length)
  simp only [aV,List.length_append,List.length_reverse,List.length_cons];omega
theorem qBm (n:NT) (fr:List Nat):(dK n fr).2.length≤1+2 * n.ents0.length:=by
 cases n with
 | kept=>simp [dK]
 | bran=>simp [dK]
 | leaf s es =>
  have:=qJ es fr
  simp only [dK,List.length_append,List.length_singleton,NT.ents0];omega
theorem xM:∀ (ns:List NT) (fr:List Nat),(aZ ns fr).2.length≤ns.length+2 * (cP ns).length
 | [],_=>by simp [aZ]
 | n :: ns,fr=>by
  have h1:=qBm n fr
  have h2:=xM ns (fr.drop (dK n fr).2.length)
  simp only [aZ,cP,List.flatMap_cons,List.length_append,List.length_cons] at *;omega
theorem qHb (N:List NT) (fr:List Nat):(bG N fr).2.length≤1+N.length+2 * (cP N).length:=by
 unfold bG
 split
 ·simp
 ·rename_i n
  have:=qBm n fr
  simp only [cP,List.flatMap_cons,List.flatMap_nil,List.append_nil,List.length_cons,List.length_nil];omega
 ·rename_i n m r
  have:=xM (n :: m :: r) fr
  simp only [fZ,List.length_append,List.length_singleton];omega
theorem qDb (N:List NT) (fr:List Nat) (hl:(bG N fr).2.length≤fr.length):(bG N fr).2.map (·.1)=fr.take (bG N fr).2.length:=by
 unfold bG at hl ⊢
 split
 ·simp
 ·exact xO _ fr hl
 ·exact qKc _ fr hl
def En.kv (x:En):ByteArray×List UInt8:=(x.e.key,x.value)
theorem qKa:∀ (es:List En) (fr:List Nat),(∀ x∈es,x.good fs)→(aV es fr).2.length≤fr.length→(∀ p∈fr,aU (p:Nat)=true)→(aV es fr).1.map En.kv=es.map En.kv
 | [],_,_,_,_=>rfl
 | x :: es,fr,hg,hl,hp=>by
  simp only [aV,List.length_append,List.length_reverse] at hl
  have h1:=qNp (hg x (by simp)) fr (by omega) hp
  have h2:=qKa es (fr.drop (dJ x fr).length) (fun y hy=>hg y (by simp [hy])) (by rw [List.length_drop];omega) (fun p h=>hp p (List.mem_of_mem_drop h))
  simp only [aV,List.map_cons,h2,List.cons.injEq,and_true,En.kv,h1,uR]
theorem qQk (h:Ok0 fs n) (fr:List Nat) (hl:(dK n fr).2.length≤fr.length) (hp:∀ p∈fr,aU (p:Nat)=true):(T.ents 0 (dK n fr).1).map En.kv=n.ents0.map En.kv:=by
 cases n with
 | bran=>exact h.elim
 | kept t s=>cases t with
  | leaf=>rfl
  | branch=>exact h.elim
 | leaf s es =>
  simp only [dK,List.length_append,List.length_singleton] at hl
  exact qKa es fr h.2.2.2.2 (by omega) hp
theorem qJw:∀ (ns:List NT) (fr:List Nat),(∀ n∈ns,Ok0 fs n)→(aZ ns fr).2.length≤fr.length→(∀ p∈fr,aU (p:Nat)=true)→((aZ ns fr).1.flatMap (T.ents 0)).map En.kv=(cP ns).map En.kv
 | [],_,_,_,_=>rfl
 | n :: ns,fr,ho,hl,hp=>by
  simp only [aZ,List.length_append] at hl
  have h1:=qQk (ho n (by simp)) fr (by omega) hp
  have h2:=qJw ns (fr.drop (dK n fr).2.length) (fun y hy=>ho y (by simp [hy])) (by rw [List.length_drop];omega) (fun p h=>hp p (List.mem_of_mem_drop h))
  simp only [aZ,List.flatMap_cons,List.map_append,cP] at h1 h2 ⊢
  rw [h1,h2]
theorem qSy {N:List NT} (h:∀ n∈N,Ok0 fs n) (fr:List Nat) (hl:(bG N fr).2.length≤fr.length) (hp:∀ p∈fr,aU (p:Nat)=true):(fA (bG N fr).1).map En.kv=(cP N).map En.kv:=by
 unfold bG at hl ⊢
 split
 ·rfl
 ·rename_i n
  have:=qQk (h n (by simp)) fr hl hp
  simp only [fA,cP,List.flatMap_cons,List.flatMap_nil,List.append_nil]
  exact this
 ·rename_i n m r
  simp only [fZ,List.length_append,List.length_singleton] at hl
  exact qJw (n :: m :: r) fr h (by omega) hp
theorem qJy (h:Ok0 fs n) (hK:yN K n) (fr:List Nat):TIn K 0 (dK n fr).1:=by
 cases n with
 | bran=>exact h.elim
 | kept t s=>cases t with
  | leaf=>exact hK.2
  | branch=>exact h.elim
 | leaf s es =>
  intro y hy
  obtain⟨x,hx,e⟩:=qKe (lZ es fr) hy
  rw [← e];exact hK.2 x hx
theorem qEy {N:List NT} (h:Lst fs N) (hK:∀ n∈N,yN K n) (hK24:∀ k∈K,k.size≤24) (hKs:3+tot (fun k:ByteArray=>k.size+3) K≤250) (hkp:∀ n∈N,∀ t sp,n=.kept t sp→aU (t.place:Nat)=true) (fr:List Nat) (hl:(bG N fr).2.length≤fr.length) (hp:∀ p∈fr,aU (p:Nat)=true) (Z:List Nat) (ha:∀ n∈N,∀ p∈n.pages0,p ∉ Z) :
  (∀ y∈(bG N fr).2,y.2.encE=0)∧gR (bG N fr).1∧qZs K (bG N fr).1∧∀ fs',Laid fs fs' Z (bG N fr).2→bF fs' (rootOf (bG N fr).1) (bG N fr).1∧(rootOf (bG N fr).1=0∨aU (rootOf (bG N fr).1:Nat)=true):=by
 have h24:∀ m∈N,m.sp.lo.size≤24:=fun m hm=>by
  rcases (hK m hm).1 with h|h
  ·rw [h];decide
  ·exact hK24 _ h
 have hsz:=h.size hK
 unfold bG at hl ⊢
 split
 ·exact⟨by simp,trivial,trivial,fun fs' L=>⟨rfl,.inl rfl⟩⟩
 ·rename_i n
  refine⟨qBl (h.ok n (by simp)) fr hl hp,Nat.zero_le _,qJy (h.ok n (by simp)) (hK n (by simp)) fr,fun fs' L=>?_⟩
  have hpl:=qBk (h.ok n (by simp)) (hkp n (by simp)) fr hl hp
  have hst:aX fs' 0 (dK n fr).1 ⟨⟨#[]⟩,⟨#[]⟩⟩:=by
   rcases xN L (h.ok n (by simp)) (fun p h=>h) hl hp (fun y h=>h) (ha n (by simp)) ⟨⟨#[]⟩,⟨#[]⟩⟩ (fun x _=>qGq _) with h|h
   ·exact h.1
   ·exact h.1
  exact⟨⟨by have:=eQ hpl;show 0<(dK n fr).1.place;omega,rfl,hst⟩,.inr hpl⟩
 ·rename_i n m r
  refine⟨qWi h (by simp) h24 hkp (by omega) fr hl hp,Nat.le_refl _,⟨?_,?_⟩,fun fs' L=>?_⟩
  ·intro k hk
   simp only [List.tail_cons] at hk
   obtain⟨q,hq,rfl⟩:=List.mem_map.1 hk
   rcases (hK q (by simp only [List.mem_cons] at hq ⊢;exact .inr hq)).1 with h0|h0
   ·have:=h.tail_los.2 _ (List.mem_map.2 ⟨q,hq,rfl⟩)
    simp only [h0,bZ] at this
    cases this
   ·exact h0
  ·intro t ht
   simp only [fZ,List.length_append,List.length_singleton] at hl
   obtain⟨j,hj,rfl⟩:=List.getElem_of_mem ht
   rw [dP] at hj
   obtain⟨f,h1,h2,h3,_⟩:=uT _ fr j hj (by omega)
   obtain⟨h5,h6⟩:=List.getElem?_eq_some_iff.1 h3
   rw [h6]
   exact qJy (h.ok _ (List.getElem_mem _)) (hK _ (List.getElem_mem _)) f
  ·obtain⟨h1,h2⟩:=qKb h (by simp) L hl hp ha
   exact⟨⟨by have:=eQ h2;show 0<(fZ (n :: m :: r) fr).1.place;omega,rfl,h1⟩,.inr h2⟩
theorem qGa:∀ {l:List (Nat×Pg)} {p r k:Nat},dL fs p r l→r≤240 * k→l.length≤k
 | [],_,_,_,_,_=>Nat.zero_le _
 | x :: l,p,r,k,h,hk=>by
  obtain⟨a1,a2,a3,a4,a5,nx,a6,a7,a8⟩:=h
  cases k with
  | zero=>omega
  | succ k =>
   have:=qGa (k:=k) a8 (by rw [a5];omega)
   rw [List.length_cons];omega
theorem qHk (h:x.ok fs):x.pages.length≤2:=by
 obtain⟨sz,ov,_,_,h3,h|⟨_,h⟩⟩:=h
 ·simp [En.pages,h.2]
 ·simp only [En.pages,List.length_map];exact qGa h (by omega)
theorem wG (f:α→List Nat) (b:Nat):∀ (l:List α),(∀ x∈l,(f x).length≤b)→(l.flatMap f).length≤b * l.length
 | [],_=>by simp
 | x :: l,h=>by
  have h1:=h x (by simp)
  have h2:=wG f b l (fun y hy=>h y (by simp [hy]))
  rw [List.flatMap_cons,List.length_append,List.length_cons,Nat.mul_succ];omega
theorem qG (h:aX fs 0 (.leaf p es) s):(T.pages 0 (.leaf p es)).length≤1+2 * es.length:=by
 obtain⟨g,_,_,_,_,_,h6⟩:=h
 have:=wG En.pages 2 es (fun x hx=>qHk (h6 x hx))
 simp only [T.pages,List.length_cons];omega
theorem qNe (hro:bF fs root o) (hf:gR o) (hK:qZs K o):(bJ o).length≤1+3 * K.length:=by
 rcases iM hro hf with rfl|⟨p,es,rfl,hs⟩|⟨p,ks,kids,rfl,hs⟩
 ·simp [bJ]
 ·have h1:=qG hs
  have hre:cM es:=dF (h:=0) hs
  have h2:=uQ (l:=es.map (fun x=>x.e.key)) (m:=K) (lN (by rw [List.pairwise_map];exact hre)) (fun x hx=>by
   obtain⟨y,hy,rfl⟩:=List.mem_map.1 hx
   exact hK y hy)
  rw [List.length_map] at h2
  show (T.pages 0 _).length≤_
  omega
 ·have hre:=dF hs
  obtain⟨hl,hp,hb,_,hall⟩:=fC hs
  have hst:∀ t∈kids,∃ s',aX fs 0 t s':=fun t ht=>by
   obtain⟨s',hs'⟩:=jA (s:=⟨⟨#[]⟩,⟨#[]⟩⟩) (ks:=ks) ht
   exact⟨s',hall _ hs'⟩
  have h2:=uQ (l:=(kids.flatMap (T.ents 0)).map (fun x=>x.e.key)) (m:=K) (lN (by rw [List.pairwise_map];exact hre)) (fun x hx=>by
   obtain⟨y,hy,rfl⟩:=List.mem_map.1 hx
   obtain⟨t,ht,hy⟩:=List.mem_flatMap.1 hy
   have h3:=hK.2 t ht
   cases t with
   | leaf=>exact h3 y hy
   | branch=>exact h3.elim)
  rw [List.length_map] at h2
  have key:∀ (l:List T),(∀ t∈l,∃ s',aX fs 0 t s')→(l.flatMap (T.pages 0)).length≤3 * (l.flatMap (T.ents 0)).length:=by
   intro l
   induction l with
   | nil=>simp
   | cons t l ih =>
    intro h
    have h1:=ih (fun t ht=>h t (by simp [ht]))
    obtain⟨s',hs'⟩:=h t (by simp)
    cases t with
    | branch=>exact hs'.elim
    | leaf q es =>
     have h4:=qG hs'
     obtain⟨g,_,_,_,hne,_⟩:=hs'
     have h5:0<es.length:=List.length_pos_iff.2 hne
     rw [List.flatMap_cons,List.flatMap_cons,List.length_append,List.length_append]
     have e:(T.ents 0 (.leaf q es)).length=es.length:=rfl
     omega
  have h3:=key kids hst
  simp only [bJ,T.pages,List.length_cons]
  omega
theorem qLq:∀ {l:List (Nat×Pg)} {p r:Nat},dL fs p r l→2≤p→∀ x∈l,2≤x.1
 | [],_,_,_,_,x,hx=>by simp at hx
 | y :: l,p,r,h,hp,x,hx=>by
  obtain⟨a1,a2,a3,a4,a5,nx,a6,a7,a8⟩:=h
  rcases List.mem_cons.1 hx with rfl|hx
  ·omega
  ·rcases qWo a3 a4 with h0|h0
   ·have:nx=0:=by omega
    subst this
    have h1:=a7.1 rfl
    rw [h1] at a8
    cases l with
    | nil=>simp at hx
    | cons z l=>obtain⟨_,b2,_⟩:=a8;omega
   ·rw [a6] at h0
    exact qLq a8 (eQ h0).1 x hx
theorem qQj (h:aX fs 0 (.leaf p es) s) (hp:2≤p):∀ q∈T.pages 0 (.leaf p es),2≤q:=by
 intro q hq
 simp only [T.pages,List.mem_cons,List.mem_flatMap] at hq
 rcases hq with rfl|⟨x,hx,hq⟩
 ·exact hp
 ·obtain⟨y,hy,rfl⟩:=List.mem_map.1 hq
  obtain⟨_,_,⟨_,h2,_⟩|⟨h1,h2,sz,ov,h3,h4,h5,h6,h7⟩⟩:=eZ h x hx
  ·rw [h2] at hy;simp at hy
  ·rw [h4] at h2
   exact qLq h7 (eQ h2).1 y hy
theorem kY (hro:bF fs root o) (hf:gR o) (hr:root=0∨aU (root:Nat)=true):∀ q∈bJ o,2≤q:=by
 rcases iM hro hf with rfl|⟨p,es,rfl,hs⟩|⟨p,ks,kids,rfl,hs⟩
 ·simp [bJ]
 ·obtain⟨h1,h2,_⟩:=hro
  have h2':p=root:=h2
  exact qQj hs (by rcases hr with h|h;omega;have:=eQ h;omega)
 ·obtain⟨h1,h2,_⟩:=hro
  have h2':p=root:=h2
  intro q hq
  simp only [bJ,T.pages,List.mem_cons,List.mem_flatMap] at hq
  rcases hq with rfl|⟨t,ht,hq⟩
  ·rcases hr with h|h
   ·omega
   ·have:=eQ h;omega
  ·obtain⟨hl,hp,hb,_,hall⟩:=fC hs
   obtain⟨s',hs'⟩:=jA (s:=⟨⟨#[]⟩,⟨#[]⟩⟩) (ks:=ks) ht
   have hst:=hall _ hs'
   have hpl:aU (t.place:Nat)=true:=by
    obtain⟨g,hg,hk2,_,hkd,_⟩:=hs
    refine qKo hg hk2 _ ?_
    rw [hkd]
    exact List.mem_map.2 ⟨t,ht,rfl⟩
   cases t with
   | branch=>exact hst.elim
   | leaf r es=>exact qQj hst (eQ hpl).1 q hq
def iU (n:Nat) (u:List Bool):List Nat:=(List.range' 2 (n-2)).filter (fun p=>!(u.getD p true))
theorem wF {n:Nat}   (h:p∈iU n u):2≤p∧p<n∧¬ on u p:=by
 simp only [iU,List.mem_filter,List.mem_range'_1] at h
 obtain⟨h1,h2⟩:=h
 refine⟨by omega,by omega,fun h3=>?_⟩
 unfold on at h3
 rw [List.getD_eq_getElem?_getD,h3] at h2
 simp at h2
theorem qKp (n:Nat) (u:List Bool):(iU n u).Nodup:=List.Pairwise.filter _ (List.nodup_range' (s:=2) (n:=n-2))
theorem qOm {n:Nat}  {ps:List Nat} (hu:n≤u.length) (hps:∀ p,on u p→p∈ps):n-2≤(iU n u).length+ps.length:=by
 have h:=uQ (l:=List.range' 2 (n-2)) (m:=iU n u++ps) (List.nodup_range') (fun p hp=>by
  rw [List.mem_range'_1] at hp
  simp only [List.mem_append]
  by_cases h:on u p
  ·exact .inr (hps p h)
  ·refine .inl ?_
   simp only [iU,List.mem_filter,List.mem_range'_1]
   refine⟨hp,?_⟩
   have hl:p<u.length:=by omega
   rw [List.getD_eq_getElem?_getD,List.getElem?_eq_getElem hl]
   unfold on at h
   rw [List.getElem?_eq_getElem hl] at h
   cases hv:u[p] with
   | false=>rfl
   | true=>rw [hv] at h;exact absurd rfl h)
 rw [List.length_range',List.length_append] at h
 exact h
theorem qAc {P:List α→Prop} (h0:P []) (h1:∀ l x,P l→P (l++[x])) (l:List α):P l:=by
 have key:∀ m:List α,P m.reverse:=by
  intro m
  induction m with
  | nil=>exact h0
  | cons x m ih=>rw [List.reverse_cons];exact h1 _ _ ih
 have:=key l.reverse
 rwa [List.reverse_reverse] at this
theorem qBo (l:List (Nat×ByteArray)) (x:Nat×ByteArray) (p:Nat):pN (l++[x]) p=if x.1=p then some x.2 else pN l p:=by
 unfold pN
 rw [List.reverse_append]
 simp only [List.reverse_singleton,List.singleton_append,List.find?_cons]
 by_cases h:x.1=p
 ·simp [h]
 ·have:(x.1==p)=false:=by simpa using h
  rw [this,if_neg h]
theorem qZa:∀ (l:List (Nat×ByteArray)) (s:List ByteArray) (p:Nat),(∀ x∈l,x.1<s.length)→(laid s l).getD p ⟨#[]⟩=(pN l p).getD (s.getD p ⟨#[]⟩):=by
 intro l
 induction l using qAc with
 | h0=>intro s p _;rfl
 | h1 l x ih =>
  intro s p h
  have e:laid s (l++[x])=(laid s l).set x.1 x.2:=by simp [laid]
  rw [e,qBo,List.getD_eq_getElem?_getD,List.getElem?_set]
  have hx:=h x (by simp)
  by_cases hp:x.1=p
  ·rw [if_pos hp,if_pos hp,if_pos (by rw [dS];omega)];rfl
  ·rw [if_neg hp,if_neg hp,← List.getD_eq_getElem?_getD]
   exact ih s p (fun y hy=>h y (by simp [hy]))
theorem nL (fs:Fs) (h:fs.fits) (p:Nat):fs.synced.at p=fs.at p:=qZa fs.late fs.safe p h
theorem oM (h:fs.fits)  :fs.synced.has p g↔fs.has p g:=by
 unfold Fs.has
 rw [nL fs h]
 show p<(laid fs.safe fs.late).length∧_↔_
 rw [dS]
theorem qAk (fs:Fs) (q:Nat) (d:ByteArray) (p:Nat):(fs.put q d).at p=if q=p then d else fs.at p:=by
 unfold Fs.at Fs.put
 simp only [qBo]
 split<;>rfl
def Fs.puts (fs:Fs) (l:List (Nat×Pg)):Fs:={ fs with late:=fs.late++l.map (fun y=>(y.1,y.2.encS)) }
theorem qIx (fs:Fs):fs.puts []=fs:=by simp [Fs.puts]
theorem qSc (fs:Fs) (l:List (Nat×Pg)) (y:Nat×Pg):fs.puts (l++[y])=(fs.puts l).put y.1 y.2.encS:=by simp [Fs.puts,Fs.put]
theorem qGu:∀ (l:List (Nat×Pg)) (fs:Fs) (p:Nat),(p ∉ l.map (·.1)→(fs.puts l).at p=fs.at p)∧((l.map (·.1)).Nodup→∀ y∈l,y.1=p→(fs.puts l).at p=y.2.encS):=by
 intro l
 induction l using qAc with
 | h0=>intro fs p;rw [qIx];exact⟨fun _=>rfl,fun _ y hy=>by simp at hy⟩
 | h1 l x ih =>
  intro fs p
  rw [qSc,qAk]
  obtain⟨i1,i2⟩:=ih fs p
  constructor
  ·intro h
   rw [List.map_append,List.mem_append] at h
   rw [if_neg (fun e=>h (.inr (by simp [e])))]
   exact i1 (fun h'=>h (.inl h'))
  ·intro hn y hy hyp
   rw [List.map_append] at hn
   obtain⟨n1,n2,n3⟩:=List.nodup_append.1 hn
   rcases List.mem_append.1 hy with hy|hy
   ·have:x.1≠p:=fun e=>n3 y.1 (List.mem_map.2 ⟨y,hy,rfl⟩) x.1 (by simp) (by rw [hyp,e])
    rw [if_neg this]
    exact i2 n1 y hy hyp
   ·rw [List.mem_singleton] at hy
    subst hy
    rw [if_pos hyp]
theorem qVe (hn:(l.map (·.1)).Nodup) (hE:∀ y∈l,y.2.encE=0) (hv:∀ y∈l,y.2.ver=0) (hl:∀ y∈l,y.1<fs.safe.length):∀ y∈l,(fs.puts l).has y.1 y.2:=by
 intro y hy
 refine⟨hl y hy,?_⟩
 rw [(qGu l fs y.1).2 hn y hy rfl]
 exact qCc y.2 (by rw [hv y hy];decide) (hE y hy)
theorem qSd (hp:p ∉ l.map (·.1)) (h:fs.has p g):(fs.puts l).has p g:=by
 refine⟨h.1,?_⟩
 rw [(qGu l fs p).1 hp]
 exact h.2
theorem qIy {q p:Nat} {d:ByteArray}  (hp:q≠p) (h:fs.has p g):(fs.put q d).has p g:=by
 refine⟨h.1,?_⟩
 rw [qAk,if_neg hp]
 exact h.2
def Fs.made (fs:Fs) (l:List (Nat×Pg)) (m:Nat) (mt:Pg):Fs:=(((fs.puts l).synced).put m mt.encS).synced
theorem qSv {m:Nat} {mt:Pg}  (hf:fs.fits) (hn:(l.map (·.1)).Nodup) (hE:∀ y∈l,y.2.encE=0) (hv:∀ y∈l,y.2.ver=0) (hl:∀ y∈l,y.1<fs.safe.length∧y.1≠m) (hm:m<fs.safe.length) (hZ:∀ y∈l,y.1∈Z) (hmZ:m∈Z) :
  Laid fs (fs.made l m mt) Z l∧(fs.made l m mt).at m=mt.encS∧(fs.made l m mt).late=[]∧(fs.made l m mt).safe.length=fs.safe.length∧∀ p,p ∉ Z→(fs.made l m mt).at p=fs.at p:=by
 have f1:(fs.puts l).fits:=by
  intro x hx
  simp only [Fs.puts,List.mem_append,List.mem_map] at hx
  rcases hx with hx|⟨y,hy,rfl⟩
  ·exact hf x hx
  ·exact(hl y hy).1
 have e1:(fs.puts l).synced.safe.length=fs.safe.length:=dS _ _
 have f2:(((fs.puts l).synced).put m mt.encS).fits:=by
  intro x hx
  simp only [Fs.put,Fs.synced,List.nil_append,List.mem_singleton] at hx
  subst hx
  show m<(laid _ _).length
  rw [dS];exact hm
 refine⟨⟨fun y hy=>?_,fun p g hp h=>?_⟩,?_,rfl,?_,fun p hp=>?_⟩
 ·exact(oM f2).2 (qIy (hl y hy).2.symm ((oM f1).2 (qVe hn hE hv (fun y hy=>(hl y hy).1) y hy)))
 ·have h1:p ∉ l.map (·.1):=fun hm=>by
   obtain⟨y,hy,rfl⟩:=List.mem_map.1 hm
   exact hp (hZ y hy)
  exact(oM f2).2 (qIy (fun e:m=p=>hp (e▸hmZ)) ((oM f1).2 (qSd h1 h)))
 ·show (Fs.synced _).at m=_
  rw [nL _ f2,qAk,if_pos rfl]
 ·show (laid _ _).length=_
  rw [dS];exact e1
 ·show (Fs.synced _).at p=_
  have h1:p ∉ l.map (·.1):=fun hm=>by
   obtain⟨y,hy,rfl⟩:=List.mem_map.1 hm
   exact hp (hZ y hy)
  rw [nL _ f2,qAk,if_neg (fun e:m=p=>hp (e▸hmZ)),nL _ f1,(qGu l fs p).1 h1]
theorem qPu (hro:bF fs root o) (hf:gR o) (hk:∀ p∈bJ o,∀ g,fs.has p g→fs'.has p g):bF fs' root o:=by
 rcases iM hro hf with rfl|⟨p,es,rfl,hs⟩|⟨p,ks,kids,rfl,hs⟩
 ·exact hro
 ·exact⟨hro.1,hro.2.1,qGp hs hk⟩
 ·refine⟨hro.1,hro.2.1,?_⟩
  obtain⟨g,a1,a2,a3,a4,a5,a6,a7⟩:=hs
  refine⟨g,hk p (by simp [bJ,T.pages]) g a1,a2,a3,a4,a5,a6,fun x hx=>?_⟩
  have hm:x.1∈kids:=by
   have:x.1∈(parts ⟨⟨#[]⟩,⟨#[]⟩⟩ ks kids).map (·.1):=List.mem_map.2 ⟨x,hx,rfl⟩
   rwa [gJ] at this
  refine qGp (a7 x hx) (fun q hq=>hk q ?_)
  simp only [bJ,T.pages,List.mem_cons,List.mem_flatMap]
  exact .inr ⟨_,hm,hq⟩
structure Tr (K:List ByteArray) (fs:Fs) (o:Option (Nat×T)):Prop where
 rooted:bF fs (rootOf o) o
 flat:gR o
 keys:qZs K o
 root:rootOf o=0∨aU (rootOf o:Nat)=true
theorem Tr.stays (h:Tr K fs o) (hk:∀ p∈bJ o,∀ g,fs.has p g→fs'.has p g):Tr K fs' o:=⟨qPu h.rooted h.flat hk,h.flat,h.keys,h.root⟩
def dR (fs:Fs) (p ver root:Nat):Prop:=(fs.at p=dX 256∧ver=0∧root=0)∨qHw (fs.at p) (bO ver root)
structure gN (K:List ByteArray) (n:Nat) (fs:Fs) (v:Nat) (o ao:Option (Nat×T)):Prop where
 late:fs.late=[]
 len:fs.safe.length=n
 meta0:dR fs (v % 2) v (rootOf o)
 meta1:∃ v',dR fs ((v+1) % 2) v' (rootOf ao)∧(v'+1=v∨(v'=v∧rootOf ao=rootOf o))
 sure:Tr K fs o
 ahead:Tr K fs ao
 size:∀ s∈fs.safe,s.size=256
theorem rJ:∀ (late:List (Nat×ByteArray)) (safe:List ByteArray),(∀ s∈safe,s.size=256)→(∀ x∈late,x.2.size=256)→∀ s∈laid safe late,s.size=256
 | [],_,h,_=>h
 | x :: late,safe,h,h'=>rJ late (safe.set x.1 x.2) (fun s hs=>(List.mem_or_eq_of_mem_set hs).elim (h s) (fun e=>e▸h' x (by simp))) (fun y hy=>h' y (by simp [hy]))
theorem qSu {m:Nat} {mt:Pg} (h:∀ s∈fs.safe,s.size=256) (hl:fs.late=[]) (hE:∀ y∈l,y.2.encE=0) (hm:mt.encE=0):∀ s∈(fs.made l m mt).safe,s.size=256:=by
 refine rJ _ _ (rJ _ _ h (fun x hx=>?_)) (fun x hx=>?_)
 ·simp only [Fs.puts,hl,List.nil_append,List.mem_map] at hx
  obtain⟨y,hy,rfl⟩:=hx
  exact mB _ (hE y hy)
 ·simp only [Fs.put,Fs.synced,List.nil_append,List.mem_singleton] at hx
  subst hx
  exact mB _ hm
theorem qJs:∀ (k:Nat) (v:ByteArray) (fr:List Nat),∀ y∈fY k v fr,y.2.ver=0
 | 0,_,_,y,hy=>by simp [fY] at hy
 | k+1,v,fr,y,hy=>by
  by_cases h:v.size=0
  ·rw [iS _ _ _ h] at hy;simp at hy
  ·rw [iT _ _ _ h] at hy
   rcases List.mem_cons.1 hy with rfl|hy
   ·rfl
   ·exact qJs k _ fr y hy
theorem qFb:∀ (es:List En) (fr:List Nat),∀ y∈(aV es fr).2,y.2.ver=0
 | [],_,y,hy=>by simp [aV] at hy
 | x :: es,fr,y,hy=>by
  simp only [aV,List.mem_append,List.mem_reverse] at hy
  rcases hy with hy|hy
  ·unfold dJ at hy
   split at hy
   ·exact qJs 2 _ fr y hy
   ·simp at hy
  ·exact qFb es _ y hy
theorem qJx (n:NT) (fr:List Nat):∀ y∈(dK n fr).2,y.2.ver=0:=by
 cases n with
 | kept=>simp [dK]
 | bran=>simp [dK]
 | leaf s es =>
  intro y hy
  simp only [dK,List.mem_append,List.mem_singleton] at hy
  rcases hy with hy|rfl
  ·exact qFb es fr y hy
  ·rfl
theorem qEz:∀ (ns:List NT) (fr:List Nat),∀ y∈(aZ ns fr).2,y.2.ver=0
 | [],_,y,hy=>by simp [aZ] at hy
 | n :: ns,fr,y,hy=>by
  simp only [aZ,List.mem_append] at hy
  rcases hy with hy|hy
  ·exact qJx n fr y hy
  ·exact qEz ns _ y hy
theorem qNr (N:List NT) (fr:List Nat):∀ y∈(bG N fr).2,y.2.ver=0:=by
 unfold bG
 split
 ·simp
 ·exact qJx _ fr
 ·intro y hy
  simp only [fZ,List.mem_append,List.mem_singleton] at hy
  rcases hy with hy|rfl
  ·exact qEz _ fr y hy
  ·rfl
def dH (o:Option (Nat×T)) (cs:List Ch) (fr:List Nat):Option (Nat×T)×List (Nat×Pg):=bG (cG o cs) fr
structure wM (K:List ByteArray) (n:Nat) (fs:Fs) (o:Option (Nat×T)) (cs:List Ch) (fr:List Nat):Prop where
 tree:Tr K fs o
 rise:cI cs
 good:∀ c∈cs,c.good
 keys:∀ c∈cs,c.key∈K
 k24:∀ k∈K,k.size≤24
 ksum:3+tot (fun k:ByteArray=>k.size+3) K≤250
 free:∀ p∈fr,2≤p∧p<n
 small:n≤4096
 len:fs.safe.length=n
 nodup:fr.Nodup
 away:∀ p∈bJ o,p ∉ fr
 room:1+3 * K.length≤fr.length
theorem wM.place {n:Nat}     (h:wM K n fs o cs fr):∀ p∈fr,aU (p:Nat)=true:=fun p hp=>by
 have:=h.free p hp
 have:=h.small
 simp only [aU,Bool.and_eq_true,decide_eq_true_eq];omega
theorem wM.enough {n:Nat}     (h:wM K n fs o cs fr):(dH o cs fr).2.length≤1+3 * K.length:=by
 obtain⟨h1,_⟩:=lW h.tree.rooted h.tree.flat h.rise h.good
 have h2:=mO h.tree.rooted h.tree.flat h.rise h.good h.keys h.tree.keys
 have h3:=qHb (cG o cs) fr
 have h4:=h1.many h2
 have h5:=h1.count
 unfold dH;omega
theorem vB {n:Nat}  {v:Nat} {o ao:Option (Nat×T)}   (S:gN K n fs v o ao) (P:wM K n fs o cs fr) (hv:v+1<9223372036854775808) (hn:2≤n) :
  gN K n (fs.made (dH o cs fr).2 ((v+1) % 2) (bO (v+1:Nat) (rootOf (dH o cs fr).1))) (v+1) (dH o cs fr).1 o ∧
  (∀ y∈(dH o cs fr).2,y.2.encE=0)∧(dH o cs fr).2.map (·.1)=fr.take (dH o cs fr).2.length ∧
  (fA (dH o cs fr).1).map En.kv=(bK (fA o) cs).map En.kv ∧
  ∀ o',Tr K fs o'→(∀ p∈bJ o',p ∉ fr)→Tr K (fs.made (dH o cs fr).2 ((v+1) % 2) (bO (v+1:Nat) (rootOf (dH o cs fr).1))) o':=by
 obtain⟨h1,h1'⟩:=lW P.tree.rooted P.tree.flat P.rise P.good
 have h2:=mO P.tree.rooted P.tree.flat P.rise P.good P.keys P.tree.keys
 obtain⟨h3,h4⟩:=xK P.tree.rooted P.tree.flat P.rise P.good
 have hen:=P.enough
 unfold dH at hen ⊢
 have hl:(bG (cG o cs) fr).2.length≤fr.length:=Nat.le_trans hen P.room
 have hp:=P.place
 have hge:=kY P.tree.rooted P.tree.flat P.tree.root
 have hm:(v+1) % 2<2:=Nat.mod_lt _ (by decide)
 have hZ:∀ (o':Option (Nat×T)),Tr K fs o'→(∀ p∈bJ o',p ∉ fr)→∀ p∈bJ o',p ∉ (v+1) % 2 :: fr:=fun o' t a p hpp hz=>by
  have hge:=kY t.rooted t.flat t.root p hpp
  rcases List.mem_cons.1 hz with h|h
  ·omega
  ·exact a p hpp h
 obtain⟨k1,k2,k3,k4⟩:=qEy h1 h2 P.k24 P.ksum h4 fr hl hp ((v+1) % 2 :: fr) (fun m hm p hpp=>hZ o P.tree P.away p ((h3 m hm).1 p hpp))
 have hpl:=qDb (cG o cs) fr hl
 have hmem:∀ y∈(bG (cG o cs) fr).2,y.1∈fr:=qUo hpl
 have hfits:fs.fits:=fun x hx=>by rw [S.late] at hx;simp at hx
 obtain⟨L,m1,m2,m3,m4⟩:=qSv (fs:=fs) (l:=(bG (cG o cs) fr).2) (m:=(v+1) % 2) (mt:=bO (v+1:Nat) (rootOf (bG (cG o cs) fr).1)) (Z:=(v+1) % 2 :: fr) hfits
  (by rw [hpl];exact P.nodup.sublist (List.take_sublist _ _)) k1 (qNr _ _) (fun y hy=>by have:=P.free _ (hmem y hy);rw [P.len];omega) (by rw [P.len];omega) (fun y hy=>List.mem_cons_of_mem _ (hmem y hy)) (by simp)
 obtain⟨r1,r2⟩:=k4 _ L
 have hstay:∀ o',Tr K fs o'→(∀ p∈bJ o',p ∉ fr)→Tr K (fs.made (bG (cG o cs) fr).2 ((v+1) % 2) (bO (v+1:Nat) (rootOf (bG (cG o cs) fr).1))) o':=fun o' t a=>t.stays (fun p hp g hg=>L.keep p g (hZ o' t a p hp) hg)
 have hE:=uY (v+1:Nat) (rootOf (bG (cG o cs) fr).1) (by omega) (r2.imp (fun h=>by rw [h];rfl) id)
 refine⟨⟨m2,m3.trans P.len,?_,⟨v,?_,.inl (by omega)⟩,⟨r1,k2,k3,r2⟩,hstay o P.tree P.away,qSu S.size S.late k1 hE⟩,k1,hpl,?_,hstay⟩
 ·refine .inr ?_
  show qHw (Fs.at _ _) _
  rw [m1]
  exact qCc _ (by show ((v+1:Nat):Int)<_;omega) hE
 ·have hv2:(v+1+1) % 2=v % 2:=by omega
  rw [hv2]
  have hnz:v % 2 ∉ (v+1) % 2 :: fr:=by
   intro hz
   rcases List.mem_cons.1 hz with h|h
   ·omega
   ·have:=P.free _ h;omega
  unfold dR
  rw [m4 _ hnz]
  exact S.meta0
 ·rw [← h1']
  exact qSy h1.ok fr hl hp
def cZ (cs:List Ch) (c:Ch):List Ch:=if fnd cs c.key=true then cs.set (cL cs c.key) c else cs.take (cL cs c.key)++c :: cs.drop (cL cs c.key)
theorem tG {k:ByteArray} (h:fnd cs k=true) (hr:cI cs):∃ h0:cL cs k<cs.length,(cs[cL cs k]).key=k:=by
 unfold fnd at h
 split at h
 ·rename_i c hc
  obtain⟨h0,e⟩:=List.getElem?_eq_some_iff.1 hc
  refine⟨h0,?_⟩
  have h1:lt k c.key=false:=by simpa using h
  have h2:lt (cs[cL cs k]).key k=false:=oP hr (Nat.le_refl _) h0
  rw [e] at h2 ⊢
  exact lV h2 h1
 ·simp at h
theorem sM (hr:cI cs) (c:Ch):cZ cs c=cs.take (cL cs c.key)++c :: cs.drop (cL cs c.key+if fnd cs c.key=true then 1 else 0):=by
 unfold cZ
 by_cases h:fnd cs c.key=true
 ·rw [if_pos h,if_pos h]
  obtain⟨h0,_⟩:=tG h hr
  rw [List.set_eq_take_append_cons_drop,if_pos h0]
 ·rw [if_neg h,if_neg h];rfl
theorem qHl (hr:cI cs) (k:ByteArray):∀ c∈cs.drop (cL cs k+if fnd cs k=true then 1 else 0),lt k c.key=true:=by
 intro c hc
 by_cases h:fnd cs k=true
 ·rw [if_pos h] at hc
  obtain⟨h0,e0⟩:=tG h hr
  obtain⟨i,hi,e⟩:=List.getElem_of_mem hc
  rw [List.getElem_drop] at e
  rw [List.length_drop] at hi
  have:=(List.pairwise_iff_getElem.1 hr) (cL cs k) (cL cs k+1+i) h0 (by omega) (by omega)
  rw [e0] at this
  rw [← e];exact this
 ·rw [if_neg h] at hc
  obtain⟨i,hi,e⟩:=List.getElem_of_mem hc
  rw [List.getElem_drop] at e
  rw [List.length_drop] at hi
  have h2:lt (cs[cL cs k+0+i]'(by omega)).key k=false:=oP hr (by omega) (by omega)
  rw [e] at h2
  rcases qJq c.key k with h3|h3
  ·exfalso
   have h4:c.key=k:=qJr h3 (qAv.1 h2)
   exact h ((yZ hr k).2 ⟨c,List.mem_of_mem_drop hc,h4⟩)
  ·exact h3
theorem qDo (hr:cI cs) (c:Ch):cI (cZ cs c):=by
 rw [sM hr]
 refine List.pairwise_append.2 ⟨hr.sublist (List.take_sublist _ _),List.pairwise_cons.2 ⟨qHl hr c.key,hr.sublist (List.drop_sublist _ _)⟩,?_⟩
 intro a ha b hb
 have h1:=yP ha
 rcases List.mem_cons.1 hb with rfl|hb
 ·exact h1
 ·exact fR h1 (qHl hr c.key b hb)
theorem iC (hr:cI cs) (c x:Ch):x∈cZ cs c↔x=c∨(x∈cs∧x.key≠c.key):=by
 rw [sM hr]
 simp only [List.mem_append,List.mem_cons]
 constructor
 ·rintro(h|h|h)
  ·exact .inr ⟨List.mem_of_mem_take h,qQh (yP h)⟩
  ·exact .inl h
  ·exact .inr ⟨List.mem_of_mem_drop h,(qQh (qHl hr c.key x h)).symm⟩
 ·rintro(h|⟨h1,h2⟩)
  ·exact .inr (.inl h)
  ·rcases (vX (cL cs c.key)).1 h1 with h|h
   ·exact .inl h
   ·refine .inr (.inr ?_)
    by_cases hf:fnd cs c.key=true
    ·rw [if_pos hf]
     obtain⟨h0,e0⟩:=tG hf hr
     rw [List.drop_eq_getElem_cons h0] at h
     rcases List.mem_cons.1 h with h|h
     ·exact absurd (by rw [h];exact e0) h2
     ·exact h
    ·rw [if_neg hf];exact h
def valOf (es:List En) (k:ByteArray):Option (List UInt8):=(es.find? (fun x=>decide (x.e.key=k))).map En.value
theorem fT (hr:cM es) {k:ByteArray} {v:List UInt8}:valOf es k=some v↔∃ x∈es,x.e.key=k∧x.value=v:=by
 unfold valOf
 constructor
 ·intro h
  rw [Option.map_eq_some_iff] at h
  obtain⟨x,h1,h2⟩:=h
  have h3:=List.find?_some h1
  exact⟨x,List.mem_of_find?_eq_some h1,by simpa using h3,h2⟩
 ·rintro⟨x,hx,hk,hv⟩
  cases hf:es.find? (fun x=>decide (x.e.key=k)) with
  | none =>
   have:=List.find?_eq_none.1 hf x hx
   simp [hk] at this
  | some y =>
   have h3:=List.find?_some hf
   have h4:=List.mem_of_find?_eq_some hf
   have h5:y.e.key=k:=by simpa using h3
   have:y=x:=by
    obtain⟨i,hi,rfl⟩:=List.getElem_of_mem hx
    obtain⟨j,hj,rfl⟩:=List.getElem_of_mem h4
    rcases Nat.lt_trichotomy i j with h|h|h
    ·have:=List.pairwise_iff_getElem.1 hr i j hi hj h
     rw [hk,h5,bZ] at this;cases this
    ·subst h;rfl
    ·have:=List.pairwise_iff_getElem.1 hr j i hj hi h
     rw [hk,h5,bZ] at this;cases this
   rw [this,Option.map_some,hv]
theorem qAr (he:cM es) (hr:cI cs) (k:ByteArray):valOf (bK es cs) k=match cs.find? (fun c=>decide (c.key=k)) with
  | some c=>if c.gone=true then none else some c.val.data.toList
  | none=>valOf es k:=by
 have ho:=iQ he hr
 cases hf:cs.find? (fun c=>decide (c.key=k)) with
 | some c =>
  have h1:=List.mem_of_find?_eq_some hf
  have h2:c.key=k:=by simpa using List.find?_some hf
  have uniq:∀ c'∈cs,c'.key=k→c'=c:=by
   intro c' hc' e
   obtain⟨i,hi,rfl⟩:=List.getElem_of_mem hc'
   obtain⟨j,hj,rfl⟩:=List.getElem_of_mem h1
   rcases Nat.lt_trichotomy i j with h|h|h
   ·have:=List.pairwise_iff_getElem.1 hr i j hi hj h
    rw [e,h2,bZ] at this;cases this
   ·subst h;rfl
   ·have:=List.pairwise_iff_getElem.1 hr j i hj hi h
    rw [e,h2,bZ] at this;cases this
  simp only
  split
  ·rename_i hg
   cases hv:valOf (bK es cs) k with
   | none=>rfl
   | some v =>
    obtain⟨x,hx,hk,_⟩:=(fT ho).1 hv
    rcases (dI he hr x).1 hx with⟨c',a1,a2,rfl⟩|⟨a1,a2⟩
    ·have:=uniq c' a1 hk
     rw [this,hg] at a2;cases a2
    ·exact absurd (h2.trans hk.symm) (a2 c h1)
  ·rename_i hg
   refine(fT ho).2 ⟨chE c,(dI he hr _).2 (.inl ⟨c,h1,by simpa using hg,rfl⟩),h2,?_⟩
   simp [En.value,chE]
 | none =>
  have h0:∀ c∈cs,c.key≠k:=fun c hc e=>by
   have:=List.find?_eq_none.1 hf c hc
   simp [e] at this
  simp only
  cases hv:valOf es k with
  | none =>
   cases hv2:valOf (bK es cs) k with
   | none=>rfl
   | some v =>
    obtain⟨x,hx,hk,hxv⟩:=(fT ho).1 hv2
    rcases (dI he hr x).1 hx with⟨c',a1,a2,rfl⟩|⟨a1,a2⟩
    ·exact absurd hk (h0 c' a1)
    ·rw [(fT he).2 ⟨x,a1,hk,hxv⟩] at hv;cases hv
  | some v =>
   obtain⟨x,hx,hk,hxv⟩:=(fT he).1 hv
   exact(fT ho).2 ⟨x,(dI he hr x).2 (.inr ⟨hx,fun c hc=>by rw [hk];exact h0 c hc⟩),hk,hxv⟩
theorem qEl {n p:Nat}:¬ on (List.replicate n false) p:=by
 unfold on
 rw [List.getElem?_replicate]
 split<;>simp
theorem lT (n:Nat) (o:Option (Nat×T)):sH (List.replicate n false) o:=by
 cases o with
 | none=>trivial
 | some x=>exact fun y hy h=>absurd h qEl
theorem qD {r r':Nat} {o o':Option (Nat×T)}  (h:bF fs r o) (h':bF fs r' o') (hu:fs.safe.length≤u.length) (hs:sH u o):sH (marks u (bJ o')) o:=by
 cases o' with
 | none=>exact hs
 | some x' =>
  cases o with
  | none=>trivial
  | some x=>exact Shut.after h.2.2 h'.2.2 hu hs
def eY (os:List (Option (Nat×T))):List Bool:=marks (List.replicate 4096 false) (os.flatMap bJ)
theorem qZ (os:List (Option (Nat×T))):(eY os).length=4096:=by unfold eY;rw [eN,List.length_replicate]
theorem zQ (os:List (Option (Nat×T))) (o:Option (Nat×T)):eY (os++[o])=marks (eY os) (bJ o):=by
 unfold eY;rw [List.flatMap_append,gS,List.flatMap_cons,List.flatMap_nil,List.append_nil]
theorem qMj (hn:fs.safe.length≤4096):∀ (os:List (Option (Nat×T))),(∀ o∈os,bF fs (rootOf o) o)→∀ o,bF fs (rootOf o) o→sH (eY os) o:=by
 intro os
 induction os using qAc with
 | h0=>intro _ o _;exact lT 4096 o
 | h1 os x ih =>
  intro h o ho
  rw [zQ]
  exact qD ho (h x (by simp)) (by rw [qZ];exact hn) (ih (fun o' h'=>h o' (by simp [h'])) o ho)
theorem qId {os:List (Option (Nat×T))} :on (eY os) p↔p∈os.flatMap bJ∧p<4096:=by
 unfold eY
 rw [qE]
 constructor
 ·rintro(h|⟨h1,h2⟩)
  ·exact absurd h qEl
  ·exact⟨h1,by rwa [List.length_replicate] at h2⟩
 ·rintro⟨h1,h2⟩
  exact .inr ⟨h1,by rwa [List.length_replicate]⟩
theorem qIh (h:Tr K fs o):∀ p∈bJ o,p<fs.safe.length:=by
 cases o with
 | none=>simp [bJ]
 | some x=>exact qJe h.rooted.2.2
theorem qYs {n:Nat}    {os:List (Option (Nat×T))} (hlen:fs.safe.length=n) (hn:n≤4096) (hos:∀ o'∈os,Tr K fs o') (ho:o∈os)
  (rise:cI cs) (good:∀ c∈cs,c.good) (keys:∀ c∈cs,c.key∈K) (k24:∀ k∈K,k.size≤24) (ksum:3+tot (fun k:ByteArray=>k.size+3) K≤250) (hroom:(os.length+1) * (1+3 * K.length)+2≤n) :
  wM K n fs o cs (iU n (eY os))∧∀ o'∈os,∀ p∈bJ o',p ∉ iU n (eY os):=by
 have haway:∀ o'∈os,∀ p∈bJ o',p ∉ iU n (eY os):=fun o' h' p hp hf=>by
  have hlt:=qIh (hos o' h') p hp
  exact(wF hf).2.2 (qId.2 ⟨List.mem_flatMap.2 ⟨o',h',hp⟩,by omega⟩)
 refine⟨⟨hos o ho,rise,good,keys,k24,ksum,fun p hp=>⟨(wF hp).1,(wF hp).2.1⟩,hn,hlen,qKp _ _,haway o ho,?_⟩,haway⟩
 have h1:=qOm (n:=n) (u:=eY os) (ps:=os.flatMap bJ) (by rw [qZ];exact hn) (fun p h=>(qId.1 h).1)
 have h2:=wG bJ (1+3 * K.length) os (fun o' h'=>qNe (hos o' h').rooted (hos o' h').flat (hos o' h').keys)
 have h3:(os.length+1) * (1+3 * K.length)=(1+3 * K.length) * os.length+(1+3 * K.length):=by rw [Nat.add_mul,Nat.one_mul,Nat.mul_comm]
 omega
theorem qPp (K:List ByteArray) (fs:Fs):Tr K fs none:=⟨rfl,trivial,trivial,.inl rfl⟩
theorem qRo (K:List ByteArray) (n:Nat) (hn:2≤n):gN K n ⟨List.replicate n (dX 256),[],-1,-1,0⟩ 0 none none:=by
 have h0:∀ p,p<n→(⟨List.replicate n (dX 256),[],-1,-1,0⟩:Fs).at p=dX 256:=fun p hp=>by
  simp [Fs.at,pN,List.getElem?_replicate,hp]
 exact⟨rfl,by simp,.inl ⟨h0 _ (by omega),rfl,rfl⟩,⟨0,.inl ⟨h0 _ (by omega),rfl,rfl⟩,.inr ⟨rfl,rfl⟩⟩,qPp _ _,qPp _ _,fun s hs=>by rw [List.eq_of_mem_replicate hs];exact wO 256⟩
theorem qZq {P:Program} (w:World) (T ty E:TypeId) (zero:Value) (z bytes:Nat) (hT:P.underlying T=some (.slice E)) (hi:(P.info? E).map (fun i=>(i.zero,i.size,i.bytes))=some (some zero,z,bytes)) (hzs:zero.cells.size=z) (hsz:0<z)
  (v:Value) (n:Nat) (xs:List Value) (hv:w.ownsRow 0 E z v n xs) (xa:Option Addr) (m c:Nat) (S:Bl) (news:List Value) (hl:news.length=m * z) (hR:aL w S xa news) (h1:∀ u∈news,u.oneCell'=true)
  (h63:n+m≤140737488355328) (hb:(n+m) * bytes≤140737488355328) :
  ∃ v' w',(Builtin.append_ #[T,T] ty #[v,.slice xa m c]).run P w=.ok v' w'∧kV E z v n xs news m w v' w':=by
 rcases hR with rfl|⟨b,off,rfl,_,hc⟩
 ·have hm:m=0:=by
   rcases Nat.eq_zero_or_pos m with h|h
   ·exact h
   ·have:=Nat.mul_pos h hsz;simp at hl;omega
  subst hm
  exact⟨v,w,qIt w T ty E zero z bytes hT hi v n xs hv xa c,by simpa using hv,Fr.refl _ _,fun k hk=>.inl hk⟩
 ·refine rU w T ty E zero z bytes hT hi hzs hsz v n xs hv ⟨b,off,none⟩ m c news hl (fun j u hu=>?_) h1 h63 hb
  have:=hc j u hu
  rw [show (⟨b,off,none⟩:Addr).add j=⟨b,off+j,none⟩ by unfold Addr.add;split<;>simp_all]
  exact this
theorem qDy {P:Program} {ops:Array Oper} {o:Oper} {a:Act} {K:Act→World→Prop} {Q:Exit→Act→World→Prop} {F:Prop} (w:World) (hgd:o.guard=none) (sl x:Operand) (T E:TypeId) (zero:Value) (z bytes:Nat) (ho:o.op=.call { callee:=.builtin .append,args:=#[sl,x],argTypes:=#[T,T] }) (hT:P.underlying T=some (.slice E)) (hi:(P.info? E).map (fun i=>(i.zero,i.size,i.bytes))=some (some zero,z,bytes)) (hzs:zero.cells.size=z) (hsz:0<z)
  (v:Value) (n:Nat) (xs:List Value) (hs:a.eval sl=v) (hv:w.ownsRow 0 E z v n xs) (xa:Option Addr) (m c:Nat) (S:Bl) (news:List Value) (hx:a.eval x=.slice xa m c) (hl:news.length=m * z) (hR:aL w S xa news) (h1:∀ u∈news,u.oneCell'=true) (h63:n+m≤140737488355328) (hb:(n+m) * bytes≤140737488355328)
  (h:∀ v' w',kV E z v n xs news m w v' w'→K (a.put o.dst v') w') :
  if Region.wanted o (yielded ops a.tmps)=true then Oper.wp P o a w K Q else F:=by
 have hw:Region.wanted o (yielded ops a.tmps)=true:=by simp [Region.wanted,hgd]
 rw [if_pos hw]
 obtain⟨v',w',hr,A⟩:=qZq (P:=P) w T o.type E zero z bytes hT hi hzs hsz v n xs hv xa m c S news hl hR h1 h63 hb
 unfold Oper.wp execOp
 simp only [ho,resolve,invoke,builtin,Sem.run_bind,Sem.run_pure,Result.andThen_ok,List.map_toArray,List.map_cons,List.map_nil,hs,hx,hr]
 exact h v' w' A
end Go.Proofs.YtfnhmpcpeahfkaaGreat.Tree
