/-
  Joined: PKids, PIn, PLay, PLay2, PLay3, PLev, PTop, PGe, PFs, PStore, PWith, PUsed, AppX.
-/
import Derived.Test.YtfnhmpcpeahfkaaGreatW33
set_option linter.unusedSimpArgs false
set_option linter.unusedVariables false
namespace Go.Proofs.YtfnhmpcpeahfkaaGreat.Tree
open Go.RowKit Pages
def kidP (x:T×Sp) (cs:List Ch):List NT:=match x.1 with
 | .leaf _ es=>if (ownC cs x.2).length=0 then [.kept x.1 x.2] else leavesP (overE es (ownC cs x.2))
 | .branch _ _ _=>[.kept x.1 x.2]
def kidsP (s:Sp) (ks:List ByteArray) (kids:List T) (cs:List Ch):List NT:=joinP tog0 ((parts s ks kids).flatMap (fun x=>kidP x cs))
def Ch.good (c:Ch):Prop:=lt ⟨#[]⟩ c.key=true∧c.key.size≤24∧c.val.size≤400
theorem chE_good {fs:Fs} {c:Ch} (h:c.good):(chE c).good fs:=⟨h.1,h.2.1,.inl ⟨rfl,rfl,rfl,h.2.2⟩⟩
theorem over_mem {es:List En} {cs:List Ch} (he:RiseE es) (hr:Rise cs) (y:En):y∈overE es cs↔(∃ c∈cs,c.gone=false∧y=chE c)∨(y∈es∧∀ c∈cs,c.key≠y.e.key):=by
 rw [overE_ovr];exact mem_ovr es cs he hr y
theorem over_rise {es:List En} {cs:List Ch} (he:RiseE es) (hr:Rise cs):RiseE (overE es cs):=by
 rw [overE_ovr];exact rise_ovr es cs he hr
theorem over_good {fs:Fs} {es:List En} {cs:List Ch} (he:RiseE es) (hr:Rise cs) (hg:∀ x∈es,x.good fs) (hc:∀ c∈cs,c.good):∀ y∈overE es cs,y.good fs:=by
 intro y hy
 rcases (over_mem he hr y).1 hy with⟨c,h1,_,rfl⟩|⟨h1,_⟩
 ·exact chE_good (hc c h1)
 ·exact hg y h1
theorem over_none {es:List En} (he:RiseE es):overE es []=es:=by
 apply rise_ext (over_rise he .nil) he
 intro y
 rw [over_mem he .nil]
 simp
theorem mem_own {cs:List Ch} {q:Sp} {c:Ch}:c∈ownC cs q↔c∈cs∧q.has c.key=true:=by simp [ownC]
structure InPart (fs:Fs) (x:Sp) (ns:List NT):Prop where
 lst:Lst fs ns
 keys:∀ y∈entsL ns,x.has y.e.key=true
 los:∀ n∈ns,le x.lo n.sp.lo=true
theorem leaf_in {fs:Fs} {x:Sp} {es:List En} (hr:RiseE es) (hg:∀ y∈es,y.good fs) (hk:∀ y∈es,x.has y.e.key=true):InPart fs x (leavesP es):=by
 refine⟨leavesP_lst hr hg,?_,?_⟩
 ·rw [leavesP_ents hg];exact hk
 ·intro n hn
  obtain⟨y,hy,e⟩:=leavesP_lo hg n hn
  rw [e]
  have:=hk y hy
  simp only [Sp.has,Bool.and_eq_true] at this
  exact this.1
theorem kidP_in {fs:Fs} {t:T} {x:Sp} {cs:List Ch} (ht:Stands fs 0 t x) (hr:Rise cs) (hc:∀ c∈cs,c.good):InPart fs x (kidP (t,x) cs)∧entsL (kidP (t,x) cs)=overE (T.ents 0 t) (ownC cs x):=by
 cases t with
 | branch=>exact ht.elim
 | leaf p es =>
  have hre:RiseE es:=rise_ents (h:=0) ht
  have hin:∀ y∈es,x.has y.e.key=true:=ents_in (h:=0) ht
  have hgd:=stands_good ht
  by_cases h0:(ownC cs x).length=0
  ·have e:kidP (.leaf p es,x) cs=[.kept (.leaf p es) x]:=by simp [kidP,h0]
   rw [e]
   refine⟨⟨⟨?_,?_,by simp⟩,?_,?_⟩,?_⟩
   ·intro n hn;rw [List.mem_singleton] at hn;subst hn;exact ht
   ·intro n hn y hy;rw [List.mem_singleton] at hn;subst hn
    have:=hin y hy
    simp only [Sp.has,Bool.and_eq_true] at this
    exact this.1
   ·intro y hy;simp only [entsL,List.flatMap_cons,List.flatMap_nil,List.append_nil] at hy;exact hin y hy
   ·intro n hn;rw [List.mem_singleton] at hn;subst hn;exact le_refl _
   ·rw [List.eq_nil_of_length_eq_zero h0]
    simp [entsL,T.ents,over_none hre,NT.ents0]
  ·have e:kidP (.leaf p es,x) cs=leavesP (overE es (ownC cs x)):=by simp [kidP,h0]
   rw [e]
   have hro:=rise_own hr x
   have hg:=over_good (fs:=fs) hre hro hgd (fun c h=>hc c (mem_own.1 h).1)
   refine⟨leaf_in (over_rise hre hro) hg ?_,leavesP_ents hg⟩
   intro y hy
   rcases (over_mem hre hro y).1 hy with⟨c,h1,_,rfl⟩|⟨h1,_⟩
   ·exact(mem_own.1 h1).2
   ·exact hin y h1
theorem flat_lst {fs:Fs} (f:T×Sp→List NT):∀ (l:List (T×Sp)),(∀ x∈l,InPart fs x.2 (f x))→l.Pairwise (fun x y=>x.2.hi≠⟨#[]⟩∧le x.2.hi y.2.lo=true)→Lst fs (l.flatMap f)∧entsL (l.flatMap f)=l.flatMap (fun x=>entsL (f x))
 | [],_,_=>⟨⟨by simp,by simp,by simp⟩,rfl⟩
 | x :: l,h,hp=>by
  obtain⟨p1,p2⟩:=List.pairwise_cons.1 hp
  obtain⟨i1,i2⟩:=flat_lst f l (fun y hy=>h y (by simp [hy])) p2
  have hx:=h x (by simp)
  rw [List.flatMap_cons,List.flatMap_cons]
  refine⟨⟨?_,?_,?_⟩,by rw [entsL_append,i2]⟩
  ·intro n hn;rcases List.mem_append.1 hn with hn|hn
   ·exact hx.lst.ok n hn
   ·exact i1.ok n hn
  ·intro n hn;rcases List.mem_append.1 hn with hn|hn
   ·exact hx.lst.lo n hn
   ·exact i1.lo n hn
  ·refine List.pairwise_append.2 ⟨hx.lst.sep,i1.sep,fun a ha b hb y hy=>?_⟩
   obtain⟨z,hz,hb⟩:=List.mem_flatMap.1 hb
   have h1:=hx.keys y (List.mem_flatMap.2 ⟨a,ha,hy⟩)
   obtain⟨q1,q2⟩:=p1 z hz
   simp only [Sp.has,Bool.and_eq_true] at h1
   have h2:=below_iff.1 h1.2
   have h3:lt y.e.key x.2.hi=true:=h2.elim (fun h=>absurd h q1) id
   exact lt_of_lt_of_le (lt_of_lt_of_le h3 q2) ((h z (by simp [hz])).los b hb)
theorem parts_cover {α:Type}:∀ (s:Sp) (ks:List ByteArray) (kids:List α),kids.length=ks.length+1→∀ k,s.has k=true→∃ x∈parts s ks kids,x.2.has k=true
 | s,_,[],hl,_,_=>by simp at hl
 | s,[],a :: kids,hl,k,hk=>⟨(a,s),by simp [parts],hk⟩
 | s,q :: ks,a :: kids,hl,k,hk=>by
  rcases lt_or_le k q with h|h
  ·refine⟨(a,⟨s.lo,q⟩),by simp [parts],?_⟩
   simp only [Sp.has,Bool.and_eq_true] at hk ⊢
   exact⟨hk.1,below_iff.2 (.inr h)⟩
  ·obtain⟨x,hx,hx2⟩:=parts_cover ⟨q,s.hi⟩ ks kids (by simpa using hl) k (by
    simp only [Sp.has,Bool.and_eq_true] at hk ⊢
    exact⟨h,hk.2⟩)
   exact⟨x,by simp [parts,hx],hx2⟩
theorem sp_all (k:ByteArray):(⟨⟨#[]⟩,⟨#[]⟩⟩:Sp).has k=true:=by
 simp only [Sp.has,Bool.and_eq_true]
 exact⟨nil_le k,below_iff.2 (.inl rfl)⟩
theorem kidsP_lst {fs:Fs} {p:Nat} {ks:List ByteArray} {kids:List T} {cs:List Ch} (ht:Stands fs 1 (.branch p ks kids) ⟨⟨#[]⟩,⟨#[]⟩⟩) (hr:Rise cs) (hc:∀ c∈cs,c.good) :
  Lst fs (kidsP ⟨⟨#[]⟩,⟨#[]⟩⟩ ks kids cs)∧entsL (kidsP ⟨⟨#[]⟩,⟨#[]⟩⟩ ks kids cs)=overE (T.ents 1 (.branch p ks kids)) cs:=by
 have hrt:=rise_ents ht
 obtain⟨hl,hp,hb,_,hall⟩:=branch_keys ht
 have hpp:=parts_pair _ ks kids hl hp hb
 have hk:=fun x hx=>kidP_in (x:=x.2) (t:=x.1) (hall x hx) hr hc
 obtain⟨f1,f2⟩:=flat_lst (fun x=>kidP x cs) (parts ⟨⟨#[]⟩,⟨#[]⟩⟩ ks kids) (fun x hx=>(hk x hx).1) hpp
 obtain⟨j1,j2⟩:=joinP_lst f1
 refine⟨j1,?_⟩
 show entsL (joinP tog0 _)=_
 apply rise_ext j1.rise (over_rise hrt hr)
 intro y
 rw [j2,f2,over_mem hrt hr]
 simp only [List.mem_flatMap,T.ents]
 constructor
 ·rintro⟨x,hx,hy⟩
  rw [(hk x hx).2] at hy
  have hxs:RiseE (T.ents 0 x.1):=rise_ents (hall x hx)
  have hmem:x.1∈kids:=by
   have:x.1∈(parts ⟨⟨#[]⟩,⟨#[]⟩⟩ ks kids).map (·.1):=List.mem_map.2 ⟨x,hx,rfl⟩
   rwa [parts_fst] at this
  rcases (over_mem hxs (rise_own hr x.2) y).1 hy with⟨c,h1,h2,rfl⟩|⟨h1,h2⟩
  ·exact .inl ⟨c,(mem_own.1 h1).1,h2,rfl⟩
  ·refine .inr ⟨⟨x.1,hmem,h1⟩,fun c hc e=>h2 c (mem_own.2 ⟨hc,?_⟩) e⟩
   rw [e];exact ents_in (hall x hx) y h1
 ·rintro(⟨c,h1,h2,rfl⟩|⟨⟨k,hk1,hy⟩,h2⟩)
  ·obtain⟨x,hx,hx2⟩:=parts_cover ⟨⟨#[]⟩,⟨#[]⟩⟩ ks kids hl c.key (sp_all _)
   refine⟨x,hx,?_⟩
   rw [(hk x hx).2]
   exact(over_mem (rise_ents (hall x hx)) (rise_own hr x.2) _).2 (.inl ⟨c,mem_own.2 ⟨h1,hx2⟩,h2,rfl⟩)
  ·obtain⟨s',hs'⟩:=part_mem (s:=⟨⟨#[]⟩,⟨#[]⟩⟩) (ks:=ks) hk1
   refine⟨(k,s'),hs',?_⟩
   rw [(hk _ hs').2]
   exact(over_mem (rise_ents (hall _ hs')) (rise_own hr s') _).2 (.inr ⟨hy,fun c hc=>h2 c (mem_own.1 hc).1⟩)
def LoIn (K:List ByteArray) (n:NT):Prop:=(n.sp.lo=⟨#[]⟩∨n.sp.lo∈K)∧∀ x∈n.ents0,x.e.key∈K
theorem leavesP_loIn {fs:Fs} {K:List ByteArray} {es:List En} (hg:∀ x∈es,x.good fs) (hK:∀ x∈es,x.e.key∈K):∀ n∈leavesP es,LoIn K n:=by
 intro n hn
 obtain⟨y,hy,e⟩:=leavesP_lo hg n hn
 exact⟨.inr (by rw [e];exact hK y hy),fun x hx=>hK x (leavesP_in hg n hn x hx)⟩
theorem joinS_loIn {fs:Fs} {K:List ByteArray} {acc:List NT} {n:NT} {B:List NT} (h:Lst fs (acc++n :: B)) (hK:∀ m∈acc++n :: B,LoIn K m):∀ m∈joinS tog0 acc n++B,LoIn K m:=by
 unfold joinS
 rcases List.eq_nil_or_concat acc with rfl|⟨A,l,rfl⟩
 ·simpa using hK
 ·simp only [List.concat_eq_append] at h hK ⊢
  rw [List.getLast?_append]
  simp only [List.getLast?_singleton,Option.some_or]
  split
  ·rw [List.dropLast_concat,List.append_assoc]
   intro m hm
   simp only [List.mem_append] at hm
   rcases hm with hm|hm|hm
   ·exact hK m (by simp [hm])
   ·refine leavesP_loIn (fs:=fs) (fun x hx=>?_) (fun x hx=>?_) m hm
    ·rcases List.mem_append.1 hx with hx|hx
     ·exact(ok0_ents (h.ok l (by simp))).2.2 x hx
     ·exact(ok0_ents (h.ok n (by simp))).2.2 x hx
    ·rcases List.mem_append.1 hx with hx|hx
     ·exact(hK l (by simp)).2 x hx
     ·exact(hK n (by simp)).2 x hx
   ·exact hK m (by simp [hm])
  ·simpa using hK
theorem join_loIn {fs:Fs} {K:List ByteArray}:∀ {ns acc:List NT},Lst fs (acc++ns)→(∀ m∈acc++ns,LoIn K m)→∀ m∈ns.foldl (joinS tog0) acc,LoIn K m
 | [],acc,_,hK=>by simpa using hK
 | n :: ns,acc,h,hK=>join_loIn (ns:=ns) (acc:=joinS tog0 acc n) (joinS_lst h).1 (joinS_loIn h hK)
def TIn (K:List ByteArray):Nat→T→Prop
 | _,.leaf _ es=>∀ x∈es,x.e.key∈K
 | 0,.branch _ _ _=>False
 | h+1,.branch _ ks kids=>(∀ k∈ks,k∈K)∧∀ t∈kids,TIn K h t
theorem parts_lo {α:Type}:∀ (s:Sp) (ks:List ByteArray) (kids:List α),kids.length=ks.length+1→∀ x∈parts s ks kids,x.2.lo=s.lo∨x.2.lo∈ks
 | s,_,[],hl=>by simp at hl
 | s,[],a :: kids,hl=>by
  have:kids=[]:=List.eq_nil_of_length_eq_zero (by simpa using hl)
  subst this
  simp [parts]
 | s,q :: ks,a :: kids,hl=>by
  intro x hx
  simp only [parts,List.mem_cons] at hx
  rcases hx with rfl|hx
  ·exact .inl rfl
  ·rcases parts_lo ⟨q,s.hi⟩ ks kids (by simpa using hl) x hx with h|h
   ·exact .inr (by rw [h];simp)
   ·exact .inr (by simp [h])
theorem kidP_loIn {fs:Fs} {K:List ByteArray} {t:T} {x:Sp} {cs:List Ch} (ht:Stands fs 0 t x) (hr:Rise cs) (hc:∀ c∈cs,c.good) (hcK:∀ c∈cs,c.key∈K) (htK:TIn K 0 t) (hx:x.lo=⟨#[]⟩∨x.lo∈K):∀ n∈kidP (t,x) cs,LoIn K n:=by
 cases t with
 | branch=>exact ht.elim
 | leaf p es =>
  have hre:RiseE es:=rise_ents (h:=0) ht
  have hgd:=stands_good ht
  by_cases h0:(ownC cs x).length=0
  ·have e:kidP (.leaf p es,x) cs=[.kept (.leaf p es) x]:=by simp [kidP,h0]
   rw [e]
   intro n hn
   rw [List.mem_singleton] at hn;subst hn
   exact⟨hx,htK⟩
  ·have e:kidP (.leaf p es,x) cs=leavesP (overE es (ownC cs x)):=by simp [kidP,h0]
   rw [e]
   have hro:=rise_own hr x
   refine leavesP_loIn (over_good (fs:=fs) hre hro hgd (fun c h=>hc c (mem_own.1 h).1)) ?_
   intro y hy
   rcases (over_mem hre hro y).1 hy with⟨c,h1,_,rfl⟩|⟨h1,_⟩
   ·exact hcK c (mem_own.1 h1).1
   ·exact htK y h1
theorem kidsP_loIn {fs:Fs} {K:List ByteArray} {p:Nat} {ks:List ByteArray} {kids:List T} {cs:List Ch} (ht:Stands fs 1 (.branch p ks kids) ⟨⟨#[]⟩,⟨#[]⟩⟩) (hr:Rise cs) (hc:∀ c∈cs,c.good) (hcK:∀ c∈cs,c.key∈K) (htK:TIn K 1 (.branch p ks kids)) :
  ∀ n∈kidsP ⟨⟨#[]⟩,⟨#[]⟩⟩ ks kids cs,LoIn K n:=by
 obtain⟨hl,hp,hb,_,hall⟩:=branch_keys ht
 have hpp:=parts_pair _ ks kids hl hp hb
 have hk:=fun x hx=>kidP_in (x:=x.2) (t:=x.1) (hall x hx) hr hc
 obtain⟨f1,f2⟩:=flat_lst (fun x=>kidP x cs) (parts ⟨⟨#[]⟩,⟨#[]⟩⟩ ks kids) (fun x hx=>(hk x hx).1) hpp
 refine join_loIn (acc:=[]) f1 ?_
 intro m hm
 obtain⟨x,hx,hm⟩:=List.mem_flatMap.1 hm
 have hmem:x.1∈kids:=by
  have:x.1∈(parts ⟨⟨#[]⟩,⟨#[]⟩⟩ ks kids).map (·.1):=List.mem_map.2 ⟨x,hx,rfl⟩
  rwa [parts_fst] at this
 refine kidP_loIn (hall x hx) hr hc hcK (htK.2 _ hmem) ?_ m hm
 rcases parts_lo _ ks kids hl x hx with h|h
 ·exact .inl h
 ·exact .inr (htK.1 _ h)
theorem tot_sub {α:Type} [DecidableEq α] (f:α→Nat):∀ {l m:List α},l.Nodup→(∀ x∈l,x∈m)→tot f l≤tot f m
 | [],m,_,_=>Nat.zero_le _
 | x :: l,m,hn,hs=>by
  obtain⟨h1,h2⟩:=List.nodup_cons.1 hn
  have hm:=hs x (by simp)
  have hp:m.Perm (x :: m.erase x):=List.perm_cons_erase hm
  have e:tot f m=f x+tot f (m.erase x):=by
   have:=(hp.map f).sum_nat
   simpa [tot] using this
  have ih:=tot_sub f (l:=l) (m:=m.erase x) h2 (fun y hy=>by
   have hne:y≠x:=fun e=>h1 (e▸hy)
   exact(List.mem_erase_of_ne hne).2 (hs y (by simp [hy])))
  rw [tot_cons,e];omega
theorem tot_one {α:Type} (l:List α):tot (fun _=>1) l=l.length:=by
 induction l with
 | nil=>rfl
 | cons x l ih=>rw [tot_cons,ih,List.length_cons];omega
theorem len_sub {α:Type} [DecidableEq α] {l m:List α} (hn:l.Nodup) (hs:∀ x∈l,x∈m):l.length≤m.length:=by
 have:=tot_sub (fun _=>1) hn hs
 rwa [tot_one,tot_one] at this
theorem Lst.los {fs:Fs} {ns:List NT} (h:Lst fs ns):(ns.map (fun n=>n.sp.lo)).Pairwise (fun a b=>lt a b=true):=by
 rw [List.pairwise_map]
 refine List.Pairwise.imp_of_mem ?_ h.sep
 intro a b ha hb hab
 obtain⟨x,hx⟩:=List.exists_mem_of_ne_nil _ (ok0_ents (h.ok a ha)).1
 exact lt_of_le_of_lt (h.lo a ha x hx) (hab x hx)
theorem rise_nodup {l:List ByteArray} (h:l.Pairwise (fun a b=>lt a b=true)):l.Nodup:=List.Pairwise.imp (fun h=>lt_ne h) h
theorem Lst.size {fs:Fs} {K:List ByteArray} {ns:List NT} (h:Lst fs ns) (hK:∀ n∈ns,LoIn K n):tot kszT ns≤3+tot (fun k:ByteArray=>k.size+3) K:=by
 have e:tot kszT ns=tot (fun k:ByteArray=>k.size+3) (ns.map (fun n=>n.sp.lo)):=by rw [tot,tot,List.map_map];rfl
 rw [e]
 have:=tot_sub (fun k:ByteArray=>k.size+3) (l:=ns.map (fun n=>n.sp.lo)) (m:=⟨#[]⟩ :: K) (rise_nodup h.los) (fun x hx=>by
  obtain⟨n,hn,rfl⟩:=List.mem_map.1 hx
  rcases (hK n hn).1 with h|h
  ·simp [h]
  ·simp [h])
 rw [tot_cons] at this
 exact this
theorem Lst.keys {fs:Fs} {ns:List NT} (h:Lst fs ns):((entsL ns).map (fun x=>x.e.key)).Pairwise (fun a b=>lt a b=true):=by
 rw [List.pairwise_map];exact h.rise
theorem Lst.many {fs:Fs} {K:List ByteArray} {ns:List NT} (h:Lst fs ns) (hK:∀ n∈ns,LoIn K n):(entsL ns).length≤K.length:=by
 have:=len_sub (l:=(entsL ns).map (fun x=>x.e.key)) (m:=K) (rise_nodup h.keys) (fun x hx=>by
  obtain⟨y,hy,rfl⟩:=List.mem_map.1 hx
  obtain⟨n,hn,hy⟩:=List.mem_flatMap.1 hy
  exact(hK n hn).2 y hy)
 simpa using this
theorem flat_len_ge {α β:Type} (f:α→List β):∀ (l:List α),(∀ x∈l,f x≠[])→l.length≤(l.flatMap f).length
 | [],_=>by simp
 | x :: l,h=>by
  have h1:=List.length_pos_iff.2 (h x (by simp))
  have:=flat_len_ge f l (fun y hy=>h y (by simp [hy]))
  rw [List.flatMap_cons,jK,List.length_cons];omega
theorem Lst.count {fs:Fs} {ns:List NT} (h:Lst fs ns):ns.length≤(entsL ns).length:=flat_len_ge _ _ (fun n hn=>(ok0_ents (h.ok n hn)).1)
def headPl:List (Nat×Pg)→Nat
 | []=>0
 | x :: _=>x.1
def layV:Nat→ByteArray→List Nat→List (Nat×Pg)
 | 0,_,_=>[]
 | k+1,v,fr=>if v.size=0 then [] else
   (fr.getD (layV k (v.extract (min v.size 240) v.size) fr).length 0,overPg (headPl (layV k (v.extract (min v.size 240) v.size) fr)) (v.extract 0 (min v.size 240))) :: layV k (v.extract (min v.size 240) v.size) fr
theorem layV_zero (k:Nat) (v:ByteArray) (fr:List Nat) (h:v.size=0):layV k v fr=[]:=by
 cases k with
 | zero=>rfl
 | succ k=>simp [layV,h]
theorem layV_succ (k:Nat) (v:ByteArray) (fr:List Nat) (h:v.size≠0):layV (k+1) v fr=(fr.getD (layV k (v.extract (min v.size 240) v.size) fr).length 0,overPg (headPl (layV k (v.extract (min v.size 240) v.size) fr)) (v.extract 0 (min v.size 240))) :: layV k (v.extract (min v.size 240) v.size) fr:=by
 rw [layV,if_neg h]
theorem layV_len:∀ (k:Nat) (v:ByteArray) (fr:List Nat),(layV k v fr).length≤k
 | 0,_,_=>jU _
 | k+1,v,fr=>by
  by_cases h:v.size=0
  ·rw [layV_zero _ _ _ h];simp
  ·rw [layV_succ _ _ _ h,List.length_cons]
   have:=layV_len k (v.extract (min v.size 240) v.size) fr
   omega
theorem layV_places:∀ (k:Nat) (v:ByteArray) (fr:List Nat),(layV k v fr).length≤fr.length→(layV k v fr).reverse.map (·.1)=fr.take (layV k v fr).length
 | 0,_,_,_=>by simp [layV]
 | k+1,v,fr,hl=>by
  by_cases h:v.size=0
  ·rw [layV_zero _ _ _ h];simp
  ·rw [layV_succ _ _ _ h] at hl ⊢
   rw [List.length_cons] at hl ⊢
   have ih:=layV_places k (v.extract (min v.size 240) v.size) fr (by omega)
   rw [List.reverse_cons,List.map_append,ih,List.take_succ_eq_append_getElem (by omega)]
   simp [jQ (show (layV k (v.extract (min v.size 240) v.size) fr).length<fr.length by omega)]
theorem layV_mem {k:Nat} {v:ByteArray} {fr:List Nat} (hl:(layV k v fr).length≤fr.length):∀ x∈layV k v fr,x.1∈fr:=by
 intro x hx
 have h1:x.1∈(layV k v fr).reverse.map (·.1):=List.mem_map.2 ⟨x,by simpa using hx,rfl⟩
 rw [layV_places k v fr hl] at h1
 exact List.mem_of_mem_take h1
theorem ba_size_extract (v:ByteArray) (a b:Nat) (hb:b≤v.size):(v.extract a b).size=b-a:=by
 simp only [ByteArray.size_extract];omega
theorem layV_chain {fs:Fs}:∀ (k:Nat) (v:ByteArray) (fr:List Nat),v.size≤240 * k→(∀ x∈layV k v fr,fs.has x.1 x.2∧x.1≠0)→ChainAt fs (headPl (layV k v fr)) v.size (layV k v fr)
 | 0,v,fr,hv,_=>by
  have:v.size=0:=by omega
  simp [layV,ChainAt,this]
 | k+1,v,fr,hv,hx=>by
  by_cases h:v.size=0
  ·rw [layV_zero _ _ _ h];exact h
  ·rw [layV_succ _ _ _ h] at hx ⊢
   have hs1:(v.extract (min v.size 240) v.size).size=v.size-min v.size 240:=ba_size_extract _ _ _ (jU _)
   have hs0:(v.extract 0 (min v.size 240)).size=min v.size 240:=by rw [ba_size_extract _ _ _ (by omega)];omega
   have ih:=layV_chain k (v.extract (min v.size 240) v.size) fr (by omega) (fun x hx'=>hx x (by simp [hx']))
   refine⟨rfl,by omega,(hx _ (by simp)).1,rfl,hs0,_,rfl,?_,?_⟩
   ·show _↔v.size-(v.extract 0 (min v.size 240)).size=0
    rw [hs0]
    constructor
    ·intro h0
     cases hc:layV k (v.extract (min v.size 240) v.size) fr with
     | nil =>
      rw [hc] at ih
      have:(v.extract (min v.size 240) v.size).size=0:=ih
      omega
     | cons y l =>
      rw [hc] at h0
      exact absurd h0 (hx y (by rw [hc];simp)).2
    ·intro h0
     rw [layV_zero _ _ _ (by omega)];rfl
   ·show ChainAt fs _ (v.size-(v.extract 0 (min v.size 240)).size) _
    rw [hs0,← hs1]
    exact ih
theorem layV_enc:∀ (k:Nat) (v:ByteArray) (fr:List Nat),(layV k v fr).length≤fr.length→(∀ p∈fr,placeB (p:Nat)=true)→∀ x∈layV k v fr,x.2.encE=0
 | 0,_,_,_,_,x,hx=>by simp [layV] at hx
 | k+1,v,fr,hl,hp,x,hx=>by
  by_cases h:v.size=0
  ·rw [layV_zero _ _ _ h] at hx;simp at hx
  ·rw [layV_succ _ _ _ h] at hl hx
   rw [List.length_cons] at hl
   rcases List.mem_cons.1 hx with rfl|hx
   ·have hs0:(v.extract 0 (min v.size 240)).size=min v.size 240:=by rw [ba_size_extract _ _ _ (by omega)];omega
    refine enc_over _ _ ?_ (by rw [hs0];omega) (by rw [hs0];omega)
    cases hc:layV k (v.extract (min v.size 240) v.size) fr with
    | nil=>exact .inl rfl
    | cons y l =>
     refine .inr (hp _ (layV_mem (k:=k) (v:=v.extract (min v.size 240) v.size) (by omega) y (by rw [hc];simp)))
   ·exact layV_enc k _ fr (by omega) hp x hx
def chData (ch:List (Nat×Pg)):List UInt8:=ch.flatMap (fun x=>x.2.data.data.toList)
theorem layV_data:∀ (k:Nat) (v:ByteArray) (fr:List Nat),v.size≤240 * k→chData (layV k v fr)=v.data.toList
 | 0,v,fr,hv=>by
  have h0:v.size=0:=by omega
  rw [size_zero h0];rfl
 | k+1,v,fr,hv=>by
  by_cases h:v.size=0
  ·rw [layV_zero _ _ _ h,size_zero h];rfl
  ·rw [layV_succ _ _ _ h]
   have hs1:(v.extract (min v.size 240) v.size).size=v.size-min v.size 240:=ba_size_extract _ _ _ (jU _)
   have ih:=layV_data k (v.extract (min v.size 240) v.size) fr (by omega)
   rw [chData,List.flatMap_cons]
   rw [chData] at ih
   rw [ih]
   show (v.extract 0 (min v.size 240)).data.toList++(v.extract (min v.size 240) v.size).data.toList=_
   rw [ByteArray.data_extract,ByteArray.data_extract,← Array.toList_append,Array.extract_append_extract]
   congr 1
   have h1:min 0 (min v.size 240)=0:=by omega
   have h2:max (min v.size 240) v.size=v.size:=by omega
   rw [h1,h2]
   exact Array.extract_eq_self_of_le (jU _)
def En.value (x:En):List UInt8:=if x.e.over=0 then x.e.val.data.toList else chData x.ch
def En.newB (x:En):Bool:=x.e.over==0&&decide (60<x.e.size)
def newCh (x:En) (fr:List Nat):List (Nat×Pg):=if x.newB=true then layV 2 x.e.val fr else []
def layX (x:En) (fr:List Nat):En:=if x.newB=true then ⟨⟨x.e.key,⟨#[]⟩,x.e.size,headPl (newCh x fr)⟩,newCh x fr⟩ else x
def layEs:List En→List Nat→List En×List (Nat×Pg)
 | [],_=>([],[])
 | x :: es,fr=>(layX x fr :: (layEs es (fr.drop (newCh x fr).length)).1,(newCh x fr).reverse++(layEs es (fr.drop (newCh x fr).length)).2)
theorem layX_key (x:En) (fr:List Nat):(layX x fr).e.key=x.e.key:=by unfold layX;split<;>rfl
theorem layEs_keys:∀ (es:List En) (fr:List Nat),(layEs es fr).1.map (fun x=>x.e.key)=es.map (fun x=>x.e.key)
 | [],_=>rfl
 | x :: es,fr=>by simp only [layEs,List.map_cons,layX_key,layEs_keys es]
theorem layEs_length (es:List En) (fr:List Nat):(layEs es fr).1.length=es.length:=by
 have:=congrArg List.length (layEs_keys es fr);simpa using this
theorem layEs_places:∀ (es:List En) (fr:List Nat),(layEs es fr).2.length≤fr.length→(layEs es fr).2.map (·.1)=fr.take (layEs es fr).2.length
 | [],_,_=>by simp [layEs]
 | x :: es,fr,hl=>by
  simp only [layEs,jK,List.length_reverse] at hl ⊢
  have hn:(newCh x fr).reverse.map (·.1)=fr.take (newCh x fr).length:=by
   unfold newCh at hl ⊢
   split
   ·rename_i h;rw [if_pos h] at hl;exact layV_places 2 _ fr (by omega)
   ·simp
  have ih:=layEs_places es (fr.drop (newCh x fr).length) (by rw [List.length_drop];omega)
  rw [List.map_append,hn,ih,List.take_add]
theorem take_mem {l:List (Nat×Pg)} {fr:List Nat} (h:l.map (·.1)=fr.take l.length):∀ x∈l,x.1∈fr:=by
 intro x hx
 have h1:x.1∈l.map (·.1):=List.mem_map.2 ⟨x,hx,rfl⟩
 rw [h] at h1
 exact List.mem_of_mem_take h1
theorem layEs_each {P:En→List Nat→Prop}:∀ (es:List En) (fr:List Nat),(layEs es fr).2.length≤fr.length→∀ y∈(layEs es fr).1,∃ x∈es,∃ f,(∀ p∈f,p∈fr)∧(newCh x f).length≤f.length∧y=layX x f∧∀ z∈newCh x f,z∈(layEs es fr).2
 | [],_,_,y,hy=>by simp [layEs] at hy
 | x :: es,fr,hl,y,hy=>by
  simp only [layEs,jK,List.length_reverse,List.mem_cons] at hl hy
  rcases hy with rfl|hy
  ·exact⟨x,by simp,fr,fun p hp=>hp,by omega,rfl,fun z hz=>by simp [layEs,hz]⟩
  ·obtain⟨x',h1,f,h2,h3,h4,h5⟩:=layEs_each (P:=P) es (fr.drop (newCh x fr).length) (by rw [List.length_drop];omega) y hy
   exact⟨x',by simp [h1],f,fun p hp=>List.mem_of_mem_drop (h2 p hp),h3,h4,fun z hz=>by simp [layEs,h5 z hz]⟩
theorem layEs_enc:∀ (es:List En) (fr:List Nat),(layEs es fr).2.length≤fr.length→(∀ p∈fr,placeB (p:Nat)=true)→∀ x∈(layEs es fr).2,x.2.encE=0
 | [],_,_,_,x,hx=>by simp [layEs] at hx
 | x :: es,fr,hl,hp,y,hy=>by
  simp only [layEs,jK,List.length_reverse,List.mem_append,List.mem_reverse] at hl hy
  rcases hy with hy|hy
  ·unfold newCh at hy hl
   split at hy
   ·rename_i h;rw [if_pos h] at hl;exact layV_enc 2 _ fr (by omega) hp y hy
   ·simp at hy
  ·exact layEs_enc es (fr.drop (newCh x fr).length) (by rw [List.length_drop];omega) (fun p h=>hp p (List.mem_of_mem_drop h)) y hy
theorem good_size {fs:Fs} {x:En} (h:x.good fs) (hn:x.newB=true):x.e.size=(x.e.val.size:Int)∧x.e.val.size≤400∧60<x.e.val.size∧x.ch=[]:=by
 simp only [En.newB,Bool.and_eq_true,beq_iff_eq,decide_eq_true_eq] at hn
 obtain⟨_,_,h|⟨_,h1,sz,ov,_,h2,_⟩⟩:=h
 ·exact⟨h.2.2.1,h.2.2.2,by omega,h.2.1⟩
 ·rw [hn.1] at h1;simp [placeB] at h1
theorem layX_esz (x:En) (fr:List Nat):esz (layX x fr)=esz x:=by
 unfold layX
 split
 ·rename_i h
  simp only [En.newB,Bool.and_eq_true,beq_iff_eq,decide_eq_true_eq] at h
  unfold esz
  simp only
  rw [if_pos h.2,if_pos h.2]
 ·rfl
theorem newCh_ne {fs:Fs} {x:En} (h:x.good fs) (hn:x.newB=true) (fr:List Nat):newCh x fr≠[]:=by
 obtain⟨_,_,h3,_⟩:=good_size h hn
 rw [newCh,if_pos hn,layV_succ _ _ _ (by omega)]
 simp
theorem headPl_mem {ch:List (Nat×Pg)} (h:ch≠[]):∃ y∈ch,headPl ch=y.1:=by
 cases ch with
 | nil=>exact absurd rfl h
 | cons y l=>exact⟨y,by simp,rfl⟩
theorem placeB_pos {p:Nat} (h:placeB (p:Nat)=true):2≤p∧p<4096:=by
 simp only [placeB,Bool.and_eq_true,decide_eq_true_eq] at h;omega
theorem layX_right {fs:Fs} {x:En} (h:x.good fs) (fr:List Nat) (hl:(newCh x fr).length≤fr.length) (hp:∀ p∈fr,placeB (p:Nat)=true):valB (layX x fr).e.val (layX x fr).e.size (layX x fr).e.over=true:=by
 unfold layX
 by_cases hn:x.newB=true
 ·rw [if_pos hn]
  obtain⟨h1,h2,h3,_⟩:=good_size h hn
  obtain⟨y,hy,e⟩:=headPl_mem (newCh_ne h hn fr)
  have hm:y.1∈fr:=by
   rw [newCh,if_pos hn] at hy hl
   exact layV_mem hl y hy
  simp only [valB,Bool.or_eq_true,Bool.and_eq_true,beq_iff_eq,decide_eq_true_eq]
  refine .inr ⟨⟨⟨?_,isNil_iff.2 rfl⟩,by omega⟩,by omega⟩
  rw [e];exact hp _ hm
 ·rw [if_neg hn]
  simp only [En.newB,Bool.and_eq_true,beq_iff_eq,decide_eq_true_eq,not_and,Int.not_lt] at hn
  simp only [valB,Bool.or_eq_true,Bool.and_eq_true,beq_iff_eq,decide_eq_true_eq]
  obtain⟨_,_,⟨h1,h2,h3,h4⟩|⟨h1,h2,sz,ov,h3,h4,h5,h6,_⟩⟩:=h
  ·exact .inl ⟨⟨h1,by have:=hn h1;omega⟩,h3⟩
  ·exact .inr ⟨⟨⟨h2,isNil_iff.2 h1⟩,by omega⟩,by omega⟩
theorem chain_stays {fs fs':Fs}:∀ {l:List (Nat×Pg)} {p r:Nat},ChainAt fs p r l→(∀ x∈l,∀ g,fs.has x.1 g→fs'.has x.1 g)→ChainAt fs' p r l
 | [],_,_,h,_=>h
 | x :: l,p,r,h,hs=>by
  obtain⟨a1,a2,a3,a4,a5,nx,a6,a7,a8⟩:=h
  refine⟨a1,a2,?_,a4,a5,nx,a6,a7,chain_stays a8 (fun y hy=>hs y (by simp [hy]))⟩
  rw [← a1] at a3 ⊢
  exact hs x (by simp) _ a3
theorem layX_ok {fs fs':Fs} {x:En} (h:x.good fs) (fr:List Nat) (hl:(newCh x fr).length≤fr.length) (hp:∀ p∈fr,placeB (p:Nat)=true) (hw:∀ y∈newCh x fr,fs'.has y.1 y.2) (hs:∀ p∈x.pages,∀ g,fs.has p g→fs'.has p g):(layX x fr).ok fs':=by
 unfold layX
 by_cases hn:x.newB=true
 ·rw [if_pos hn]
  obtain⟨h1,h2,h3,_⟩:=good_size h hn
  have hpl:∀ y∈newCh x fr,y.1≠0:=fun y hy=>by
   rw [newCh,if_pos hn] at hy hl
   have:=placeB_pos (hp _ (layV_mem hl y hy));omega
  obtain⟨y,hy,e⟩:=headPl_mem (newCh_ne h hn fr)
  refine⟨x.e.val.size,headPl (newCh x fr),h1,rfl,h2,.inr ⟨by rw [e];have:=hpl y hy;omega,?_⟩⟩
  rw [newCh,if_pos hn] at hw hpl ⊢
  exact layV_chain 2 x.e.val fr (by omega) (fun y hy=>⟨hw y hy,hpl y hy⟩)
 ·rw [if_neg hn]
  obtain⟨_,_,⟨h1,h2,h3,h4⟩|⟨h1,h2,sz,ov,h3,h4,h5,h6,h7⟩⟩:=h
  ·exact⟨x.e.val.size,0,h3,h1,h4,.inl ⟨rfl,h2⟩⟩
  ·refine⟨sz,ov,h3,h4,h6,.inr ⟨?_,chain_stays h7 (fun y hy=>hs y.1 (List.mem_map.2 ⟨y,hy,rfl⟩))⟩⟩
   rw [h4] at h2
   have:=placeB_pos h2;omega
theorem layX_value {fs:Fs} {x:En} (h:x.good fs) (fr:List Nat) (hl:(newCh x fr).length≤fr.length) (hp:∀ p∈fr,placeB (p:Nat)=true):(layX x fr).value=x.value:=by
 unfold layX
 by_cases hn:x.newB=true
 ·rw [if_pos hn]
  obtain⟨h1,h2,h3,_⟩:=good_size h hn
  obtain⟨y,hy,e⟩:=headPl_mem (newCh_ne h hn fr)
  have hm:2≤y.1:=by
   rw [newCh,if_pos hn] at hy hl
   exact(placeB_pos (hp _ (layV_mem hl y hy))).1
  have h0:x.e.over=0:=by
   simp only [En.newB,Bool.and_eq_true,beq_iff_eq] at hn;exact hn.1
  unfold En.value
  rw [if_pos h0]
  simp only
  rw [if_neg (by rw [e];omega),newCh,if_pos hn]
  exact layV_data 2 _ fr (by omega)
 ·rw [if_neg hn]
def layN:NT→List Nat→T×List (Nat×Pg)
 | .kept t _,_=>(t,[])
 | .leaf _ es,fr=>(.leaf (fr.getD (layEs es fr).2.length 0) (layEs es fr).1,(layEs es fr).2++[(fr.getD (layEs es fr).2.length 0,leafPg (layEs es fr).1)])
 | .bran _ _,_=>(.leaf 0 [],[])
def layNs:List NT→List Nat→List T×List (Nat×Pg)
 | [],_=>([],[])
 | n :: ns,fr=>((layN n fr).1 :: (layNs ns (fr.drop (layN n fr).2.length)).1,(layN n fr).2++(layNs ns (fr.drop (layN n fr).2.length)).2)
def layB (ns:List NT) (fr:List Nat):T×List (Nat×Pg) :=
 (.branch (fr.getD (layNs ns fr).2.length 0) (ns.tail.map (fun n=>n.sp.lo)) (layNs ns fr).1,
  (layNs ns fr).2++[(fr.getD (layNs ns fr).2.length 0,branPg (ns.tail.map (fun n=>n.sp.lo)) ((layNs ns fr).1.map T.place))])
theorem layN_places (n:NT) (fr:List Nat) (hl:(layN n fr).2.length≤fr.length):(layN n fr).2.map (·.1)=fr.take (layN n fr).2.length:=by
 cases n with
 | kept=>simp [layN]
 | bran=>simp [layN]
 | leaf s es =>
  simp only [layN,jK,List.length_singleton] at hl ⊢
  rw [List.map_append,layEs_places es fr (by omega),List.take_succ_eq_append_getElem (by omega)]
  simp [jQ (show (layEs es fr).2.length<fr.length by omega)]
theorem layNs_places:∀ (ns:List NT) (fr:List Nat),(layNs ns fr).2.length≤fr.length→(layNs ns fr).2.map (·.1)=fr.take (layNs ns fr).2.length
 | [],_,_=>by simp [layNs]
 | n :: ns,fr,hl=>by
  simp only [layNs,jK] at hl ⊢
  rw [List.map_append,layN_places n fr (by omega),layNs_places ns (fr.drop (layN n fr).2.length) (by rw [List.length_drop];omega),List.take_add]
theorem layB_places (ns:List NT) (fr:List Nat) (hl:(layB ns fr).2.length≤fr.length):(layB ns fr).2.map (·.1)=fr.take (layB ns fr).2.length:=by
 simp only [layB,jK,List.length_singleton] at hl ⊢
 rw [List.map_append,layNs_places ns fr (by omega),List.take_succ_eq_append_getElem (by omega)]
 simp [jQ (show (layNs ns fr).2.length<fr.length by omega)]
theorem layNs_length:∀ (ns:List NT) (fr:List Nat),(layNs ns fr).1.length=ns.length
 | [],_=>rfl
 | n :: ns,fr=>by simp [layNs,layNs_length ns]
theorem layNs_at:∀ (ns:List NT) (fr:List Nat) (j:Nat) (hj:j<ns.length),(layNs ns fr).2.length≤fr.length→∃ f,(∀ p∈f,p∈fr)∧(layN ns[j] f).2.length≤f.length∧(layNs ns fr).1[j]?=some (layN ns[j] f).1∧∀ y∈(layN ns[j] f).2,y∈(layNs ns fr).2
 | [],_,j,hj,_=>by simp at hj
 | n :: ns,fr,j,hj,hl=>by
  simp only [layNs,jK] at hl ⊢
  cases j with
  | zero=>exact⟨fr,fun p hp=>hp,by simp;omega,by simp,fun y hy=>by simp at hy;simp [hy]⟩
  | succ j =>
   obtain⟨f,h1,h2,h3,h4⟩:=layNs_at ns (fr.drop (layN n fr).2.length) j (by simpa using hj) (by rw [List.length_drop];omega)
   exact⟨f,fun p hp=>List.mem_of_mem_drop (h1 p hp),by simpa using h2,by simpa using h3,fun y hy=>by simp at hy;simp [h4 y hy]⟩
structure Laid (fs fs':Fs) (Z:List Nat) (ws:List (Nat×Pg)):Prop where
 has:∀ y∈ws,fs'.has y.1 y.2
 keep:∀ p g,p ∉ Z→fs.has p g→fs'.has p g
theorem rise_keys {l m:List En} (h:l.map (fun x=>x.e.key)=m.map (fun x=>x.e.key)) (hm:RiseE m):RiseE l:=by
 have h1:(m.map (fun x=>x.e.key)).Pairwise (fun a b=>lt a b=true):=by rw [List.pairwise_map];exact hm
 rw [← h,List.pairwise_map] at h1
 exact h1
theorem keys_mem {l m:List En} (h:l.map (fun x=>x.e.key)=m.map (fun x=>x.e.key)) {y:En} (hy:y∈l):∃ x∈m,x.e.key=y.e.key:=by
 have:y.e.key∈m.map (fun x=>x.e.key):=by rw [← h];exact List.mem_map.2 ⟨y,hy,rfl⟩
 obtain⟨x,hx,e⟩:=List.mem_map.1 this
 exact⟨x,hx,e⟩
theorem layEs_tot:∀ (es:List En) (fr:List Nat),tot esz (layEs es fr).1=tot esz es
 | [],_=>rfl
 | x :: es,fr=>by simp only [layEs,tot_cons,layX_esz,layEs_tot es]
theorem layN_enc {fs:Fs} {n:NT} (h:Ok0 fs n) (fr:List Nat) (hl:(layN n fr).2.length≤fr.length) (hp:∀ p∈fr,placeB (p:Nat)=true):∀ y∈(layN n fr).2,y.2.encE=0:=by
 cases n with
 | kept=>simp [layN]
 | bran=>exact h.elim
 | leaf s es =>
  obtain⟨h1,h2,h3,h4,h5⟩:=h
  simp only [layN,jK,List.length_singleton] at hl ⊢
  intro y hy
  rcases List.mem_append.1 hy with hy|hy
  ·exact layEs_enc es fr (by omega) hp y hy
  ·rw [List.mem_singleton] at hy
   subst hy
   have hk:=layEs_keys es fr
   refine enc_leaf _ ?_ (rise_keys hk h3) ?_ (by rw [layEs_tot];exact h4)
   ·intro e
    have:=congrArg List.length hk
    rw [e] at this
    simp at this
    exact h1 (List.eq_nil_of_length_eq_zero this.symm)
   ·intro y hy
    obtain⟨x,hx,f,hf,hfl,rfl,_⟩:=layEs_each (P:=fun _ _=>True) es fr (by omega) y hy
    have hg:=h5 x hx
    rw [layX_key]
    exact⟨hg.1,hg.2.1,layX_right hg f hfl (fun p h=>hp p (hf p h))⟩
theorem Stands.in0 {fs:Fs} {t:T} {s s':Sp} (h:Stands fs 0 t s) (hs:∀ x∈T.ents 0 t,s'.has x.e.key=true):Stands fs 0 t s':=by
 cases t with
 | branch=>exact h.elim
 | leaf p es =>
  obtain⟨g,a1,a2,a3,a4,_,a6⟩:=h
  exact⟨g,a1,a2,a3,a4,hs,a6⟩
theorem stays0 {fs fs':Fs} {t:T} {s:Sp} (h:Stands fs 0 t s) (hk:∀ p∈T.pages 0 t,∀ g,fs.has p g→fs'.has p g):Stands fs' 0 t s:=by
 cases t with
 | branch=>exact h.elim
 | leaf p es =>
  obtain⟨g,a1,a2,a3,a4,a5,a6⟩:=h
  refine⟨g,hk p (by simp [T.pages]) g a1,a2,a3,a4,a5,fun x hx=>?_⟩
  obtain⟨sz,ov,b1,b2,b3,b4⟩:=a6 x hx
  refine⟨sz,ov,b1,b2,b3,b4.imp id (fun ⟨c1,c2⟩=>⟨c1,chain_stays c2 (fun y hy=>hk y.1 ?_)⟩)⟩
  simp only [T.pages,List.mem_cons,List.mem_flatMap]
  exact .inr ⟨x,hx,List.mem_map.2 ⟨y,hy,rfl⟩⟩
def NT.pages0:NT→List Nat
 | .kept t _=>T.pages 0 t
 | .leaf _ es=>es.flatMap En.pages
 | .bran _ _=>[]
theorem layN_stands {fs fs':Fs} {n:NT} {Z fr f:List Nat} {ws:List (Nat×Pg)} (L:Laid fs fs' Z ws) (h:Ok0 fs n) (hf:∀ p∈f,p∈fr) (hl:(layN n f).2.length≤f.length) (hp:∀ p∈fr,placeB (p:Nat)=true) (hw:∀ y∈(layN n f).2,y∈ws) (ha:∀ p∈n.pages0,p ∉ Z) (s:Sp) (hs:∀ x∈n.ents0,s.has x.e.key=true) :
  Stands fs' 0 (layN n f).1 s∧placeB ((layN n f).1.place:Nat)=true∨Stands fs' 0 (layN n f).1 s∧∃ t sp,n=.kept t sp:=by
 cases n with
 | bran=>exact h.elim
 | kept t sp =>
  refine .inr ⟨?_,t,sp,rfl⟩
  cases t with
  | branch=>exact h.elim
  | leaf p es =>
   have h0:Stands fs 0 (.leaf p es) sp:=h
   exact(stays0 h0 (fun q hq g hg=>L.keep q g (ha q hq) hg)).in0 hs
 | leaf sp es =>
  obtain⟨h1,h2,h3,h4,h5⟩:=h
  simp only [layN,jK,List.length_singleton] at hl hw ⊢
  have hm:f.getD (layEs es f).2.length 0∈f:=by
   rw [List.getD_eq_getElem?_getD,jQ (by omega)]
   exact List.getElem_mem _
  refine .inl ⟨⟨leafPg (layEs es f).1,L.has (f.getD (layEs es f).2.length 0,leafPg (layEs es f).1) (hw _ (List.mem_append_right _ (List.mem_singleton.2 rfl))),rfl,rfl,?_,?_,?_⟩,hp _ (hf _ hm)⟩
  ·intro e
   have:=layEs_length es f
   rw [e] at this
   exact h1 (List.eq_nil_of_length_eq_zero this.symm)
  ·intro y hy
   obtain⟨x,hx,e⟩:=keys_mem (layEs_keys es f) hy
   rw [← e];exact hs x hx
  ·intro y hy
   obtain⟨x,hx,f',hf',hfl,rfl,hz⟩:=layEs_each (P:=fun _ _=>True) es f (by omega) y hy
   refine layX_ok (h5 x hx) f' hfl (fun p h=>hp p (hf p (hf' p h))) (fun z hzz=>L.has _ (hw _ (by simp [hz z hzz]))) ?_
   intro p hpp g hg
   exact L.keep p g (ha p (List.mem_flatMap.2 ⟨x,hx,hpp⟩)) hg
theorem layN_place {fs:Fs} {n:NT} (h:Ok0 fs n) (hkp:∀ t sp,n=.kept t sp→placeB (t.place:Nat)=true) (f:List Nat) (hl:(layN n f).2.length≤f.length) (hp:∀ p∈f,placeB (p:Nat)=true):placeB ((layN n f).1.place:Nat)=true:=by
 cases n with
 | bran=>exact h.elim
 | kept t sp=>exact hkp t sp rfl
 | leaf sp es =>
  simp only [layN,jK,List.length_singleton] at hl ⊢
  have hm:f.getD (layEs es f).2.length 0∈f:=by
   rw [List.getD_eq_getElem?_getD,jQ (by omega)]
   exact List.getElem_mem _
  exact hp _ hm
theorem layNs_enc {fs:Fs}:∀ (ns:List NT) (fr:List Nat),(∀ n∈ns,Ok0 fs n)→(layNs ns fr).2.length≤fr.length→(∀ p∈fr,placeB (p:Nat)=true)→∀ y∈(layNs ns fr).2,y.2.encE=0
 | [],_,_,_,_=>by simp [layNs]
 | n :: ns,fr,ho,hl,hp=>by
  simp only [layNs,jK] at hl ⊢
  intro y hy
  rcases List.mem_append.1 hy with hy|hy
  ·exact layN_enc (ho n (by simp)) fr (by omega) hp y hy
  ·exact layNs_enc ns (fr.drop (layN n fr).2.length) (fun m hm=>ho m (by simp [hm])) (by rw [List.length_drop];omega) (fun p h=>hp p (List.mem_of_mem_drop h)) y hy
theorem layNs_place {fs:Fs} {ns:List NT} {fr:List Nat} (ho:∀ n∈ns,Ok0 fs n) (hkp:∀ n∈ns,∀ t sp,n=.kept t sp→placeB (t.place:Nat)=true) (hl:(layNs ns fr).2.length≤fr.length) (hp:∀ p∈fr,placeB (p:Nat)=true):∀ t∈(layNs ns fr).1,placeB (t.place:Nat)=true:=by
 intro t ht
 obtain⟨j,hj,rfl⟩:=List.getElem_of_mem ht
 rw [layNs_length] at hj
 obtain⟨f,h1,h2,h3,_⟩:=layNs_at ns fr j hj hl
 have h4:=List.getElem?_eq_some_iff.1 h3
 obtain⟨h5,h6⟩:=h4
 rw [h6]
 exact layN_place (ho _ (List.getElem_mem _)) (hkp _ (List.getElem_mem _)) f h2 (fun p h=>hp p (h1 p h))
theorem Lst.tail_los {fs:Fs} {n:NT} {ns:List NT} (h:Lst fs (n :: ns)):(ns.map (fun n=>n.sp.lo)).Pairwise (fun a b=>lt a b=true)∧∀ k∈ns.map (fun n=>n.sp.lo),lt ⟨#[]⟩ k=true:=by
 have h0:=h.los
 rw [List.map_cons] at h0
 obtain⟨h1,h2⟩:=List.pairwise_cons.1 h0
 exact⟨h2,fun k hk=>lt_of_le_of_lt (nil_le _) (h1 k hk)⟩
theorem tot_los (ns:List NT):2 * ns.length+tot (fun k:ByteArray=>k.size+1) (ns.map (fun n=>n.sp.lo))=tot kszT ns:=by
 induction ns with
 | nil=>rfl
 | cons n ns ih=>rw [List.map_cons,tot_cons,tot_cons,List.length_cons];unfold kszT at *;omega
theorem layB_enc {fs:Fs} {n:NT} {ns:List NT} (h:Lst fs (n :: ns)) (hne:ns≠[]) (h24:∀ m∈n :: ns,m.sp.lo.size≤24) (hkp:∀ m∈n :: ns,∀ t sp,m=.kept t sp→placeB (t.place:Nat)=true) (hs:tot kszT (n :: ns)≤250) (fr:List Nat) (hl:(layB (n :: ns) fr).2.length≤fr.length) (hp:∀ p∈fr,placeB (p:Nat)=true):∀ y∈(layB (n :: ns) fr).2,y.2.encE=0:=by
 simp only [layB,jK,List.length_singleton] at hl ⊢
 intro y hy
 rcases List.mem_append.1 hy with hy|hy
 ·exact layNs_enc _ fr h.ok (by omega) hp y hy
 ·rw [List.mem_singleton] at hy
  subst hy
  obtain⟨t1,t2⟩:=h.tail_los
  refine enc_bran _ _ ?_ ?_ t1 ?_ ?_ ?_
  ·simpa using hne
  ·simp [layNs_length]
  ·intro k hk
   refine⟨t2 k hk,?_⟩
   simp only [List.tail_cons] at hk
   obtain⟨m,hm,rfl⟩:=List.mem_map.1 hk
   exact h24 m (by simp [hm])
  ·intro p hpp
   obtain⟨t,ht,rfl⟩:=List.mem_map.1 hpp
   exact layNs_place h.ok hkp (by omega) hp t ht
  ·rw [List.length_map,layNs_length,List.tail_cons,List.length_cons]
   have e1:=tot_los ns
   rw [tot_cons] at hs
   unfold kszT at hs e1
   omega
theorem Lst.has {fs:Fs} {ns:List NT} (h:Lst fs ns) (j:Nat) (hj:j<ns.length):∀ x∈(ns[j]).ents0,(⟨loAt ⟨⟨#[]⟩,⟨#[]⟩⟩ (ns.tail.map (fun n=>n.sp.lo)) j,hiAt ⟨⟨#[]⟩,⟨#[]⟩⟩ (ns.tail.map (fun n=>n.sp.lo)) j⟩:Sp).has x.e.key=true:=by
 intro x hx
 simp only [Sp.has,Bool.and_eq_true]
 have hlo:=h.lo ns[j] (List.getElem_mem _) x hx
 constructor
 ·unfold loAt
  split
  ·exact nil_le _
  ·rename_i h0
   have e:(ns.tail.map (fun n=>n.sp.lo))[j-1]?=some (ns[j]).sp.lo:=by
    rw [List.getElem?_map,List.getElem?_tail,show j-1+1=j by omega,jQ hj];rfl
   rw [e];exact hlo
 ·unfold hiAt
  rw [List.getElem?_map,List.getElem?_tail]
  by_cases h1:j+1<ns.length
  ·rw [jQ h1]
   refine below_iff.2 (.inr ?_)
   exact(List.pairwise_iff_getElem.1 h.sep j (j+1) hj h1 (by omega)) x hx
  ·rw [List.getElem?_eq_none (by omega)]
   exact below_iff.2 (.inl rfl)
theorem layB_stands {fs fs':Fs} {n:NT} {ns:List NT} {Z fr:List Nat} (h:Lst fs (n :: ns)) (hne:ns≠[]) (L:Laid fs fs' Z (layB (n :: ns) fr).2) (hl:(layB (n :: ns) fr).2.length≤fr.length) (hp:∀ p∈fr,placeB (p:Nat)=true) (ha:∀ m∈n :: ns,∀ p∈m.pages0,p ∉ Z) :
  Stands fs' 1 (layB (n :: ns) fr).1 ⟨⟨#[]⟩,⟨#[]⟩⟩∧placeB ((layB (n :: ns) fr).1.place:Nat)=true:=by
 simp only [layB,jK,List.length_singleton] at hl L ⊢
 have hm:fr.getD (layNs (n :: ns) fr).2.length 0∈fr:=by
  rw [List.getD_eq_getElem?_getD,jQ (by omega)]
  exact List.getElem_mem _
 obtain⟨t1,t2⟩:=h.tail_los
 have hlen:0<ns.length:=List.length_pos_iff.2 hne
 refine⟨⟨branPg (ns.map (fun n=>n.sp.lo)) ((layNs (n :: ns) fr).1.map T.place),L.has (fr.getD (layNs (n :: ns) fr).2.length 0,branPg (ns.map (fun n=>n.sp.lo)) ((layNs (n :: ns) fr).1.map T.place)) (List.mem_append_right _ (List.mem_singleton.2 rfl)),rfl,rfl,?_,?_,⟨by simpa using hlen,?_,sp_all _⟩,?_⟩,hp _ hm⟩
 ·simp [branPg]
 ·simp [layNs_length]
 ·exact t2 _ (List.getElem_mem _)
 ·intro x hx
  obtain⟨j,hj,e⟩:=List.getElem_of_mem hx
  rw [parts_length,layNs_length] at hj
  have hat:=parts_at ⟨⟨#[]⟩,⟨#[]⟩⟩ ((n :: ns).tail.map (fun n=>n.sp.lo)) (layNs (n :: ns) fr).1 j (by rw [layNs_length];exact hj)
  have e2:x=((layNs (n :: ns) fr).1[j]'(by rw [layNs_length];exact hj),⟨loAt ⟨⟨#[]⟩,⟨#[]⟩⟩ ((n :: ns).tail.map (fun n=>n.sp.lo)) j,hiAt ⟨⟨#[]⟩,⟨#[]⟩⟩ ((n :: ns).tail.map (fun n=>n.sp.lo)) j⟩):=by
   have h1:=List.getElem?_eq_some_iff.1 hat
   obtain⟨_,h2⟩:=h1
   rw [← e,← h2]
  obtain⟨f,h1,h2,h3,h4⟩:=layNs_at (n :: ns) fr j hj (by omega)
  obtain⟨h5,h6⟩:=List.getElem?_eq_some_iff.1 h3
  rw [e2,h6]
  rcases layN_stands L (h.ok _ (List.getElem_mem hj)) h1 h2 hp (fun y hy=>List.mem_append_left _ (h4 y hy)) (ha _ (List.getElem_mem hj)) _ (h.has j hj) with h|h
  ·exact h.1
  ·exact h.1
def level0 (o:Option (Nat×T)) (cs:List Ch):List NT:=match o with
 | none=>leavesP (overE [] cs)
 | some (_,.leaf _ es)=>leavesP (overE es cs)
 | some (_,.branch _ ks kids)=>kidsP ⟨⟨#[]⟩,⟨#[]⟩⟩ ks kids cs
def Flat2:Option (Nat×T)→Prop
 | none=>True
 | some (h,_)=>h≤1
def OTIn (K:List ByteArray):Option (Nat×T)→Prop
 | none=>True
 | some (h,t)=>TIn K h t
theorem flat_cases {fs:Fs} {root:Nat} {o:Option (Nat×T)} (hro:Rooted fs root o) (hf:Flat2 o):o=none∨(∃ p es,o=some (0,.leaf p es)∧Stands fs 0 (.leaf p es) ⟨⟨#[]⟩,⟨#[]⟩⟩)∨∃ p ks kids,o=some (1,.branch p ks kids)∧Stands fs 1 (.branch p ks kids) ⟨⟨#[]⟩,⟨#[]⟩⟩:=by
 cases o with
 | none=>exact .inl rfl
 | some x =>
  obtain⟨h,t⟩:=x
  obtain⟨_,_,hs⟩:=hro
  have hf':h≤1:=hf
  rcases Nat.lt_or_ge h 1 with h0|h0
  ·have:h=0:=by omega
   subst this
   cases t with
   | leaf p es=>exact .inr (.inl ⟨p,es,rfl,hs⟩)
   | branch=>exact hs.elim
  ·have:h=1:=by omega
   subst this
   cases t with
   | leaf=>exact hs.elim
   | branch p ks kids=>exact .inr (.inr ⟨p,ks,kids,rfl,hs⟩)
theorem level0_lst {fs:Fs} {root:Nat} {o:Option (Nat×T)} {cs:List Ch} (hro:Rooted fs root o) (hf:Flat2 o) (hr:Rise cs) (hc:∀ c∈cs,c.good):Lst fs (level0 o cs)∧entsL (level0 o cs)=overE (oents o) cs:=by
 rcases flat_cases hro hf with rfl|⟨p,es,rfl,hs⟩|⟨p,ks,kids,rfl,hs⟩
 ·have hg:=over_good (fs:=fs) (es:=[]) .nil hr (by simp) hc
  exact⟨leavesP_lst (over_rise .nil hr) hg,leavesP_ents hg⟩
 ·have hre:RiseE es:=rise_ents (h:=0) hs
  have hg:=over_good hre hr (stands_good hs) hc
  exact⟨leavesP_lst (over_rise hre hr) hg,leavesP_ents hg⟩
 ·exact kidsP_lst hs hr hc
theorem level0_loIn {fs:Fs} {K:List ByteArray} {root:Nat} {o:Option (Nat×T)} {cs:List Ch} (hro:Rooted fs root o) (hf:Flat2 o) (hr:Rise cs) (hc:∀ c∈cs,c.good) (hcK:∀ c∈cs,c.key∈K) (hoK:OTIn K o):∀ n∈level0 o cs,LoIn K n:=by
 rcases flat_cases hro hf with rfl|⟨p,es,rfl,hs⟩|⟨p,ks,kids,rfl,hs⟩
 ·have hg:=over_good (fs:=fs) (es:=[]) .nil hr (by simp) hc
  refine leavesP_loIn hg (fun x hx=>?_)
  rcases (over_mem .nil hr x).1 hx with⟨c,h1,_,rfl⟩|⟨h1,_⟩
  ·exact hcK c h1
  ·simp at h1
 ·have hre:RiseE es:=rise_ents (h:=0) hs
  have hg:=over_good hre hr (stands_good hs) hc
  refine leavesP_loIn hg (fun x hx=>?_)
  rcases (over_mem hre hr x).1 hx with⟨c,h1,_,rfl⟩|⟨h1,_⟩
  ·exact hcK c h1
  ·exact hoK x h1
 ·exact kidsP_loIn hs hr hc hcK hoK
def FromT (P:List Nat) (n:NT):Prop:=(∀ p∈n.pages0,p∈P)∧∀ x∈n.ents0,∀ p∈x.pages,p∈P
theorem leavesP_from {fs:Fs} {P:List Nat} {es:List En} (hg:∀ x∈es,x.good fs) (hP:∀ x∈es,∀ p∈x.pages,p∈P):∀ n∈leavesP es,FromT P n:=by
 intro n hn
 have hin:=leavesP_in hg n hn
 obtain⟨q,hq,rfl⟩:=List.mem_map.1 hn
 refine⟨?_,fun x hx=>hP x (hin x hx)⟩
 intro p hp
 obtain⟨x,hx,hp⟩:=List.mem_flatMap.1 hp
 exact hP x (hin x hx) p hp
theorem over_pages {P:List Nat} {es:List En} {cs:List Ch} (he:RiseE es) (hr:Rise cs) (hP:∀ x∈es,∀ p∈x.pages,p∈P):∀ x∈overE es cs,∀ p∈x.pages,p∈P:=by
 intro x hx p hp
 rcases (over_mem he hr x).1 hx with⟨c,h1,_,rfl⟩|⟨h1,_⟩
 ·simp [En.pages,chE] at hp
 ·exact hP x h1 p hp
theorem joinS_from {fs:Fs} {P:List Nat} {acc:List NT} {n:NT} {B:List NT} (h:Lst fs (acc++n :: B)) (hK:∀ m∈acc++n :: B,FromT P m):∀ m∈joinS tog0 acc n++B,FromT P m:=by
 unfold joinS
 rcases List.eq_nil_or_concat acc with rfl|⟨A,l,rfl⟩
 ·simpa using hK
 ·simp only [List.concat_eq_append] at h hK ⊢
  rw [List.getLast?_append]
  simp only [List.getLast?_singleton,Option.some_or]
  split
  ·rw [List.dropLast_concat,List.append_assoc]
   intro m hm
   simp only [List.mem_append] at hm
   rcases hm with hm|hm|hm
   ·exact hK m (by simp [hm])
   ·refine leavesP_from (fs:=fs) (fun x hx=>?_) (fun x hx=>?_) m hm
    ·rcases List.mem_append.1 hx with hx|hx
     ·exact(ok0_ents (h.ok l (by simp))).2.2 x hx
     ·exact(ok0_ents (h.ok n (by simp))).2.2 x hx
    ·rcases List.mem_append.1 hx with hx|hx
     ·exact(hK l (by simp)).2 x hx
     ·exact(hK n (by simp)).2 x hx
   ·exact hK m (by simp [hm])
  ·simpa using hK
theorem join_from {fs:Fs} {P:List Nat}:∀ {ns acc:List NT},Lst fs (acc++ns)→(∀ m∈acc++ns,FromT P m)→∀ m∈ns.foldl (joinS tog0) acc,FromT P m
 | [],acc,_,hK=>by simpa using hK
 | n :: ns,acc,h,hK=>join_from (ns:=ns) (acc:=joinS tog0 acc n) (joinS_lst h).1 (joinS_from h hK)
theorem joinS_kept {fs:Fs} {Q:T→Prop} {acc:List NT} {n:NT} {B:List NT} (h:Lst fs (acc++n :: B)) (hK:∀ m∈acc++n :: B,∀ t sp,m=.kept t sp→Q t):∀ m∈joinS tog0 acc n++B,∀ t sp,m=.kept t sp→Q t:=by
 unfold joinS
 rcases List.eq_nil_or_concat acc with rfl|⟨A,l,rfl⟩
 ·simpa using hK
 ·simp only [List.concat_eq_append] at h hK ⊢
  rw [List.getLast?_append]
  simp only [List.getLast?_singleton,Option.some_or]
  split
  ·rw [List.dropLast_concat,List.append_assoc]
   intro m hm
   simp only [List.mem_append] at hm
   rcases hm with hm|hm|hm
   ·exact hK m (by simp [hm])
   ·intro t sp e
    obtain⟨q,_,rfl⟩:=List.mem_map.1 hm
    simp [leafT] at e
   ·exact hK m (by simp [hm])
  ·simpa using hK
theorem join_kept {fs:Fs} {Q:T→Prop}:∀ {ns acc:List NT},Lst fs (acc++ns)→(∀ m∈acc++ns,∀ t sp,m=.kept t sp→Q t)→∀ m∈ns.foldl (joinS tog0) acc,∀ t sp,m=.kept t sp→Q t
 | [],acc,_,hK=>by simpa using hK
 | n :: ns,acc,h,hK=>join_kept (ns:=ns) (acc:=joinS tog0 acc n) (joinS_lst h).1 (joinS_kept h hK)
theorem leaves_kept {es:List En} {Q:T→Prop}:∀ m∈leavesP es,∀ t sp,m=.kept t sp→Q t:=by
 intro m hm t sp e
 obtain⟨q,_,rfl⟩:=List.mem_map.1 hm
 simp [leafT] at e
theorem level0_from {fs:Fs} {root:Nat} {o:Option (Nat×T)} {cs:List Ch} (hro:Rooted fs root o) (hf:Flat2 o) (hr:Rise cs) (hc:∀ c∈cs,c.good):(∀ n∈level0 o cs,FromT (opages o) n)∧∀ n∈level0 o cs,∀ t sp,n=.kept t sp→placeB (t.place:Nat)=true:=by
 rcases flat_cases hro hf with rfl|⟨p,es,rfl,hs⟩|⟨p,ks,kids,rfl,hs⟩
 ·have hg:=over_good (fs:=fs) (es:=[]) .nil hr (by simp) hc
  exact⟨leavesP_from hg (over_pages .nil hr (by simp)),leaves_kept⟩
 ·have hre:RiseE es:=rise_ents (h:=0) hs
  have hg:=over_good hre hr (stands_good hs) hc
  refine⟨leavesP_from hg (over_pages hre hr (fun x hx p hp=>?_)),leaves_kept⟩
  simp only [opages,T.pages,List.mem_cons,List.mem_flatMap]
  exact .inr ⟨x,hx,hp⟩
 ·obtain⟨hl,hp,hb,_,hall⟩:=branch_keys hs
  have hpp:=parts_pair _ ks kids hl hp hb
  have hk:=fun x hx=>kidP_in (x:=x.2) (t:=x.1) (hall x hx) hr hc
  obtain⟨f1,f2⟩:=flat_lst (fun x=>kidP x cs) (parts ⟨⟨#[]⟩,⟨#[]⟩⟩ ks kids) (fun x hx=>(hk x hx).1) hpp
  have hmem:∀ x∈parts ⟨⟨#[]⟩,⟨#[]⟩⟩ ks kids,x.1∈kids:=fun x hx=>by
   have:x.1∈(parts ⟨⟨#[]⟩,⟨#[]⟩⟩ ks kids).map (·.1):=List.mem_map.2 ⟨x,hx,rfl⟩
   rwa [parts_fst] at this
  constructor
  ·refine join_from (acc:=[]) f1 ?_
   intro m hm
   obtain⟨x,hx,hm⟩:=List.mem_flatMap.1 hm
   have hst:=hall x hx
   obtain⟨t,sp⟩:=x
   cases t with
   | branch=>exact hst.elim
   | leaf q es =>
    have hre:RiseE es:=rise_ents (h:=0) hst
    have hpg:∀ z∈T.pages 0 (.leaf q es),z∈opages (some (1,.branch p ks kids)):=fun z hz=>by
     simp only [opages,T.pages,List.mem_cons,List.mem_flatMap]
     exact .inr ⟨_,hmem _ hx,by simpa [T.pages] using hz⟩
    have hep:∀ x∈es,∀ z∈x.pages,z∈opages (some (1,.branch p ks kids)):=fun x hx z hz=>hpg z (by
     simp only [T.pages,List.mem_cons,List.mem_flatMap];exact .inr ⟨x,hx,hz⟩)
    by_cases h0:(ownC cs sp).length=0
    ·have e:kidP (.leaf q es,sp) cs=[.kept (.leaf q es) sp]:=by simp [kidP,h0]
     rw [e,List.mem_singleton] at hm
     subst hm
     exact⟨hpg,hep⟩
    ·have e:kidP (.leaf q es,sp) cs=leavesP (overE es (ownC cs sp)):=by simp [kidP,h0]
     rw [e] at hm
     have hro:=rise_own hr sp
     exact leavesP_from (over_good (fs:=fs) hre hro (stands_good hst) (fun c h=>hc c (mem_own.1 h).1)) (over_pages hre hro hep) m hm
  ·refine join_kept (acc:=[]) f1 ?_
   intro m hm t' sp' e'
   obtain⟨x,hx,hm⟩:=List.mem_flatMap.1 hm
   have hx1:=hmem x hx
   obtain⟨t,sp⟩:=x
   have hpl:placeB (t.place:Nat)=true:=by
    obtain⟨g,hg,hk2,_,hkd,_⟩:=hs
    refine has_kids hg hk2 _ ?_
    rw [hkd]
    exact List.mem_map.2 ⟨t,hx1,rfl⟩
   cases t with
   | branch =>
    simp only [kidP,List.mem_singleton] at hm
    rw [hm] at e'
    injection e' with e1 e2
    rw [← e1];exact hpl
   | leaf q es =>
    by_cases h0:(ownC cs sp).length=0
    ·have e:kidP (.leaf q es,sp) cs=[.kept (.leaf q es) sp]:=by simp [kidP,h0]
     rw [e,List.mem_singleton] at hm
     rw [hm] at e'
     injection e' with e1 e2
     rw [← e1];exact hpl
    ·have e:kidP (.leaf q es,sp) cs=leavesP (overE es (ownC cs sp)):=by simp [kidP,h0]
     rw [e] at hm
     exact leaves_kept (Q:=fun t=>placeB (t.place:Nat)=true) m hm t' sp' e'
def layTop (N:List NT) (fr:List Nat):Option (Nat×T)×List (Nat×Pg):=match N with
 | []=>(none,[])
 | [n]=>(some (0,(layN n fr).1),(layN n fr).2)
 | n :: m :: r=>(some (1,(layB (n :: m :: r) fr).1),(layB (n :: m :: r) fr).2)
def rootOf:Option (Nat×T)→Nat
 | none=>0
 | some (_,t)=>t.place
theorem newCh_len (x:En) (fr:List Nat):(newCh x fr).length≤2:=by
 unfold newCh
 split
 ·exact layV_len 2 _ _
 ·simp
theorem layEs_count:∀ (es:List En) (fr:List Nat),(layEs es fr).2.length≤2 * es.length
 | [],_=>by simp [layEs]
 | x :: es,fr=>by
  have h1:=newCh_len x fr
  have h2:=layEs_count es (fr.drop (newCh x fr).length)
  simp only [layEs,jK,List.length_reverse,List.length_cons];omega
theorem layN_count (n:NT) (fr:List Nat):(layN n fr).2.length≤1+2 * n.ents0.length:=by
 cases n with
 | kept=>simp [layN]
 | bran=>simp [layN]
 | leaf s es =>
  have:=layEs_count es fr
  simp only [layN,jK,List.length_singleton,NT.ents0];omega
theorem layNs_count:∀ (ns:List NT) (fr:List Nat),(layNs ns fr).2.length≤ns.length+2 * (entsL ns).length
 | [],_=>by simp [layNs]
 | n :: ns,fr=>by
  have h1:=layN_count n fr
  have h2:=layNs_count ns (fr.drop (layN n fr).2.length)
  simp only [layNs,entsL,List.flatMap_cons,jK,List.length_cons] at *;omega
theorem layTop_count (N:List NT) (fr:List Nat):(layTop N fr).2.length≤1+N.length+2 * (entsL N).length:=by
 unfold layTop
 split
 ·simp
 ·rename_i n
  have:=layN_count n fr
  simp only [entsL,List.flatMap_cons,List.flatMap_nil,List.append_nil,List.length_cons,List.length_nil];omega
 ·rename_i n m r
  have:=layNs_count (n :: m :: r) fr
  simp only [layB,jK,List.length_singleton];omega
theorem layTop_places (N:List NT) (fr:List Nat) (hl:(layTop N fr).2.length≤fr.length):(layTop N fr).2.map (·.1)=fr.take (layTop N fr).2.length:=by
 unfold layTop at hl ⊢
 split
 ·simp
 ·exact layN_places _ fr hl
 ·exact layB_places _ fr hl
def En.kv (x:En):ByteArray×List UInt8:=(x.e.key,x.value)
theorem layEs_kv {fs:Fs}:∀ (es:List En) (fr:List Nat),(∀ x∈es,x.good fs)→(layEs es fr).2.length≤fr.length→(∀ p∈fr,placeB (p:Nat)=true)→(layEs es fr).1.map En.kv=es.map En.kv
 | [],_,_,_,_=>rfl
 | x :: es,fr,hg,hl,hp=>by
  simp only [layEs,jK,List.length_reverse] at hl
  have h1:=layX_value (hg x (by simp)) fr (by omega) hp
  have h2:=layEs_kv es (fr.drop (newCh x fr).length) (fun y hy=>hg y (by simp [hy])) (by rw [List.length_drop];omega) (fun p h=>hp p (List.mem_of_mem_drop h))
  simp only [layEs,List.map_cons,h2,List.cons.injEq,and_true,En.kv,h1,layX_key]
theorem layN_kv {fs:Fs} {n:NT} (h:Ok0 fs n) (fr:List Nat) (hl:(layN n fr).2.length≤fr.length) (hp:∀ p∈fr,placeB (p:Nat)=true):(T.ents 0 (layN n fr).1).map En.kv=n.ents0.map En.kv:=by
 cases n with
 | bran=>exact h.elim
 | kept t s=>cases t with
  | leaf=>rfl
  | branch=>exact h.elim
 | leaf s es =>
  simp only [layN,jK,List.length_singleton] at hl
  exact layEs_kv es fr h.2.2.2.2 (by omega) hp
theorem layNs_kv {fs:Fs}:∀ (ns:List NT) (fr:List Nat),(∀ n∈ns,Ok0 fs n)→(layNs ns fr).2.length≤fr.length→(∀ p∈fr,placeB (p:Nat)=true)→((layNs ns fr).1.flatMap (T.ents 0)).map En.kv=(entsL ns).map En.kv
 | [],_,_,_,_=>rfl
 | n :: ns,fr,ho,hl,hp=>by
  simp only [layNs,jK] at hl
  have h1:=layN_kv (ho n (by simp)) fr (by omega) hp
  have h2:=layNs_kv ns (fr.drop (layN n fr).2.length) (fun y hy=>ho y (by simp [hy])) (by rw [List.length_drop];omega) (fun p h=>hp p (List.mem_of_mem_drop h))
  simp only [layNs,List.flatMap_cons,List.map_append,entsL] at h1 h2 ⊢
  rw [h1,h2]
theorem layTop_kv {fs:Fs} {N:List NT} (h:∀ n∈N,Ok0 fs n) (fr:List Nat) (hl:(layTop N fr).2.length≤fr.length) (hp:∀ p∈fr,placeB (p:Nat)=true):(oents (layTop N fr).1).map En.kv=(entsL N).map En.kv:=by
 unfold layTop at hl ⊢
 split
 ·rfl
 ·rename_i n
  have:=layN_kv (h n (by simp)) fr hl hp
  simp only [oents,entsL,List.flatMap_cons,List.flatMap_nil,List.append_nil]
  exact this
 ·rename_i n m r
  simp only [layB,jK,List.length_singleton] at hl
  exact layNs_kv (n :: m :: r) fr h (by omega) hp
theorem layN_TIn {K:List ByteArray} {fs:Fs} {n:NT} (h:Ok0 fs n) (hK:LoIn K n) (fr:List Nat):TIn K 0 (layN n fr).1:=by
 cases n with
 | bran=>exact h.elim
 | kept t s=>cases t with
  | leaf=>exact hK.2
  | branch=>exact h.elim
 | leaf s es =>
  intro y hy
  obtain⟨x,hx,e⟩:=keys_mem (layEs_keys es fr) hy
  rw [← e];exact hK.2 x hx
theorem layTop_ok {fs:Fs} {K:List ByteArray} {N:List NT} (h:Lst fs N) (hK:∀ n∈N,LoIn K n) (hK24:∀ k∈K,k.size≤24) (hKs:3+tot (fun k:ByteArray=>k.size+3) K≤250) (hkp:∀ n∈N,∀ t sp,n=.kept t sp→placeB (t.place:Nat)=true) (fr:List Nat) (hl:(layTop N fr).2.length≤fr.length) (hp:∀ p∈fr,placeB (p:Nat)=true) (Z:List Nat) (ha:∀ n∈N,∀ p∈n.pages0,p ∉ Z) :
  (∀ y∈(layTop N fr).2,y.2.encE=0)∧Flat2 (layTop N fr).1∧OTIn K (layTop N fr).1∧∀ fs',Laid fs fs' Z (layTop N fr).2→Rooted fs' (rootOf (layTop N fr).1) (layTop N fr).1∧(rootOf (layTop N fr).1=0∨placeB (rootOf (layTop N fr).1:Nat)=true):=by
 have h24:∀ m∈N,m.sp.lo.size≤24:=fun m hm=>by
  rcases (hK m hm).1 with h|h
  ·rw [h];decide
  ·exact hK24 _ h
 have hsz:=h.size hK
 unfold layTop at hl ⊢
 split
 ·exact⟨by simp,trivial,trivial,fun fs' L=>⟨rfl,.inl rfl⟩⟩
 ·rename_i n
  refine⟨layN_enc (h.ok n (by simp)) fr hl hp,Nat.zero_le _,layN_TIn (h.ok n (by simp)) (hK n (by simp)) fr,fun fs' L=>?_⟩
  have hpl:=layN_place (h.ok n (by simp)) (hkp n (by simp)) fr hl hp
  have hst:Stands fs' 0 (layN n fr).1 ⟨⟨#[]⟩,⟨#[]⟩⟩:=by
   rcases layN_stands L (h.ok n (by simp)) (fun p h=>h) hl hp (fun y h=>h) (ha n (by simp)) ⟨⟨#[]⟩,⟨#[]⟩⟩ (fun x _=>sp_all _) with h|h
   ·exact h.1
   ·exact h.1
  exact⟨⟨by have:=placeB_pos hpl;show 0<(layN n fr).1.place;omega,rfl,hst⟩,.inr hpl⟩
 ·rename_i n m r
  refine⟨layB_enc h (by simp) h24 hkp (by omega) fr hl hp,jU _,⟨?_,?_⟩,fun fs' L=>?_⟩
  ·intro k hk
   simp only [List.tail_cons] at hk
   obtain⟨q,hq,rfl⟩:=List.mem_map.1 hk
   rcases (hK q (by simp only [List.mem_cons] at hq ⊢;exact .inr hq)).1 with h0|h0
   ·have:=h.tail_los.2 _ (List.mem_map.2 ⟨q,hq,rfl⟩)
    simp only [h0,lt_irrefl] at this
    cases this
   ·exact h0
  ·intro t ht
   simp only [layB,jK,List.length_singleton] at hl
   obtain⟨j,hj,rfl⟩:=List.getElem_of_mem ht
   rw [layNs_length] at hj
   obtain⟨f,h1,h2,h3,_⟩:=layNs_at _ fr j hj (by omega)
   obtain⟨h5,h6⟩:=List.getElem?_eq_some_iff.1 h3
   rw [h6]
   exact layN_TIn (h.ok _ (List.getElem_mem _)) (hK _ (List.getElem_mem _)) f
  ·obtain⟨h1,h2⟩:=layB_stands h (by simp) L hl hp ha
   exact⟨⟨by have:=placeB_pos h2;show 0<(layB (n :: m :: r) fr).1.place;omega,rfl,h1⟩,.inr h2⟩
theorem chain_len {fs:Fs}:∀ {l:List (Nat×Pg)} {p r k:Nat},ChainAt fs p r l→r≤240 * k→l.length≤k
 | [],_,_,_,_,_=>Nat.zero_le _
 | x :: l,p,r,k,h,hk=>by
  obtain⟨a1,a2,a3,a4,a5,nx,a6,a7,a8⟩:=h
  cases k with
  | zero=>omega
  | succ k =>
   have:=chain_len (k:=k) a8 (by rw [a5];omega)
   rw [List.length_cons];omega
theorem en_pages_len {fs:Fs} {x:En} (h:x.ok fs):x.pages.length≤2:=by
 obtain⟨sz,ov,_,_,h3,h|⟨_,h⟩⟩:=h
 ·simp [En.pages,h.2]
 ·simp only [En.pages,List.length_map];exact chain_len h (by omega)
theorem flat_len2 {α:Type} (f:α→List Nat) (b:Nat):∀ (l:List α),(∀ x∈l,(f x).length≤b)→(l.flatMap f).length≤b * l.length
 | [],_=>by simp
 | x :: l,h=>by
  have h1:=h x (by simp)
  have h2:=flat_len2 f b l (fun y hy=>h y (by simp [hy]))
  rw [List.flatMap_cons,jK,List.length_cons,Nat.mul_succ];omega
theorem leaf_pages_len {fs:Fs} {p:Nat} {es:List En} {s:Sp} (h:Stands fs 0 (.leaf p es) s):(T.pages 0 (.leaf p es)).length≤1+2 * es.length:=by
 obtain⟨g,_,_,_,_,_,h6⟩:=h
 have:=flat_len2 En.pages 2 es (fun x hx=>en_pages_len (h6 x hx))
 simp only [T.pages,List.length_cons];omega
theorem opages_len {fs:Fs} {K:List ByteArray} {root:Nat} {o:Option (Nat×T)} (hro:Rooted fs root o) (hf:Flat2 o) (hK:OTIn K o):(opages o).length≤1+3 * K.length:=by
 rcases flat_cases hro hf with rfl|⟨p,es,rfl,hs⟩|⟨p,ks,kids,rfl,hs⟩
 ·simp [opages]
 ·have h1:=leaf_pages_len hs
  have hre:RiseE es:=rise_ents (h:=0) hs
  have h2:=len_sub (l:=es.map (fun x=>x.e.key)) (m:=K) (rise_nodup (by rw [List.pairwise_map];exact hre)) (fun x hx=>by
   obtain⟨y,hy,rfl⟩:=List.mem_map.1 hx
   exact hK y hy)
  rw [List.length_map] at h2
  show (T.pages 0 _).length≤_
  omega
 ·have hre:=rise_ents hs
  obtain⟨hl,hp,hb,_,hall⟩:=branch_keys hs
  have hst:∀ t∈kids,∃ s',Stands fs 0 t s':=fun t ht=>by
   obtain⟨s',hs'⟩:=part_mem (s:=⟨⟨#[]⟩,⟨#[]⟩⟩) (ks:=ks) ht
   exact⟨s',hall _ hs'⟩
  have h2:=len_sub (l:=(kids.flatMap (T.ents 0)).map (fun x=>x.e.key)) (m:=K) (rise_nodup (by rw [List.pairwise_map];exact hre)) (fun x hx=>by
   obtain⟨y,hy,rfl⟩:=List.mem_map.1 hx
   obtain⟨t,ht,hy⟩:=List.mem_flatMap.1 hy
   have h3:=hK.2 t ht
   cases t with
   | leaf=>exact h3 y hy
   | branch=>exact h3.elim)
  rw [List.length_map] at h2
  have key:∀ (l:List T),(∀ t∈l,∃ s',Stands fs 0 t s')→(l.flatMap (T.pages 0)).length≤3 * (l.flatMap (T.ents 0)).length:=by
   intro l
   induction l with
   | nil=>simp
   | cons t l ih =>
    intro h
    have h1:=ih (fun t ht=>h t (by simp [ht]))
    obtain⟨s',hs'⟩:=h t (by simp)
    cases t with
    | branch=>exact hs'.elim
    | leaf q es =>
     have h4:=leaf_pages_len hs'
     obtain⟨g,_,_,_,hne,_⟩:=hs'
     have h5:0<es.length:=List.length_pos_iff.2 hne
     rw [List.flatMap_cons,List.flatMap_cons,jK,jK]
     have e:(T.ents 0 (.leaf q es)).length=es.length:=rfl
     omega
  have h3:=key kids hst
  simp only [opages,T.pages,List.length_cons]
  omega
theorem chain_ge {fs:Fs}:∀ {l:List (Nat×Pg)} {p r:Nat},ChainAt fs p r l→2≤p→∀ x∈l,2≤x.1
 | [],_,_,_,_,x,hx=>by simp at hx
 | y :: l,p,r,h,hp,x,hx=>by
  obtain⟨a1,a2,a3,a4,a5,nx,a6,a7,a8⟩:=h
  rcases List.mem_cons.1 hx with rfl|hx
  ·omega
  ·rcases has_over a3 a4 with h0|h0
   ·have:nx=0:=by omega
    subst this
    have h1:=a7.1 rfl
    rw [h1] at a8
    cases l with
    | nil=>simp at hx
    | cons z l=>obtain⟨_,b2,_⟩:=a8;omega
   ·rw [a6] at h0
    exact chain_ge a8 (placeB_pos h0).1 x hx
theorem leaf_ge {fs:Fs} {p:Nat} {es:List En} {s:Sp} (h:Stands fs 0 (.leaf p es) s) (hp:2≤p):∀ q∈T.pages 0 (.leaf p es),2≤q:=by
 intro q hq
 simp only [T.pages,List.mem_cons,List.mem_flatMap] at hq
 rcases hq with rfl|⟨x,hx,hq⟩
 ·exact hp
 ·obtain⟨y,hy,rfl⟩:=List.mem_map.1 hq
  obtain⟨_,_,⟨_,h2,_⟩|⟨h1,h2,sz,ov,h3,h4,h5,h6,h7⟩⟩:=stands_good h x hx
  ·rw [h2] at hy;simp at hy
  ·rw [h4] at h2
   exact chain_ge h7 (placeB_pos h2).1 y hy
theorem opages_ge {fs:Fs} {root:Nat} {o:Option (Nat×T)} (hro:Rooted fs root o) (hf:Flat2 o) (hr:root=0∨placeB (root:Nat)=true):∀ q∈opages o,2≤q:=by
 rcases flat_cases hro hf with rfl|⟨p,es,rfl,hs⟩|⟨p,ks,kids,rfl,hs⟩
 ·simp [opages]
 ·obtain⟨h1,h2,_⟩:=hro
  have h2':p=root:=h2
  exact leaf_ge hs (by rcases hr with h|h;omega;have:=placeB_pos h;omega)
 ·obtain⟨h1,h2,_⟩:=hro
  have h2':p=root:=h2
  intro q hq
  simp only [opages,T.pages,List.mem_cons,List.mem_flatMap] at hq
  rcases hq with rfl|⟨t,ht,hq⟩
  ·rcases hr with h|h
   ·omega
   ·have:=placeB_pos h;omega
  ·obtain⟨hl,hp,hb,_,hall⟩:=branch_keys hs
   obtain⟨s',hs'⟩:=part_mem (s:=⟨⟨#[]⟩,⟨#[]⟩⟩) (ks:=ks) ht
   have hst:=hall _ hs'
   have hpl:placeB (t.place:Nat)=true:=by
    obtain⟨g,hg,hk2,_,hkd,_⟩:=hs
    refine has_kids hg hk2 _ ?_
    rw [hkd]
    exact List.mem_map.2 ⟨t,ht,rfl⟩
   cases t with
   | branch=>exact hst.elim
   | leaf r es=>exact leaf_ge hst (placeB_pos hpl).1 q hq
def freeP (n:Nat) (u:List Bool):List Nat:=(List.range' 2 (n-2)).filter (fun p=>!(u.getD p true))
theorem freeP_mem {n:Nat} {u:List Bool} {p:Nat} (h:p∈freeP n u):2≤p∧p<n∧¬ on u p:=by
 simp only [freeP,List.mem_filter,List.mem_range'_1] at h
 obtain⟨h1,h2⟩:=h
 refine⟨by omega,by omega,fun h3=>?_⟩
 unfold on at h3
 rw [List.getD_eq_getElem?_getD,h3] at h2
 simp at h2
theorem freeP_nodup (n:Nat) (u:List Bool):(freeP n u).Nodup:=List.Pairwise.filter _ (List.nodup_range' (s:=2) (n:=n-2))
theorem freeP_many {n:Nat} {u:List Bool} {ps:List Nat} (hu:n≤u.length) (hps:∀ p,on u p→p∈ps):n-2≤(freeP n u).length+ps.length:=by
 have h:=len_sub (l:=List.range' 2 (n-2)) (m:=freeP n u++ps) (List.nodup_range') (fun p hp=>by
  rw [List.mem_range'_1] at hp
  simp only [List.mem_append]
  by_cases h:on u p
  ·exact .inr (hps p h)
  ·refine .inl ?_
   simp only [freeP,List.mem_filter,List.mem_range'_1]
   refine⟨hp,?_⟩
   have hl:p<u.length:=by omega
   rw [List.getD_eq_getElem?_getD,jQ hl]
   unfold on at h
   rw [jQ hl] at h
   cases hv:u[p] with
   | false=>rfl
   | true=>rw [hv] at h;exact absurd rfl h)
 rw [List.length_range',jK] at h
 exact h
theorem snoc_ind {α:Type} {P:List α→Prop} (h0:P []) (h1:∀ l x,P l→P (l++[x])) (l:List α):P l:=by
 have key:∀ m:List α,P m.reverse:=by
  intro m
  induction m with
  | nil=>exact h0
  | cons x m ih=>rw [List.reverse_cons];exact h1 _ _ ih
 have:=key l.reverse
 rwa [List.reverse_reverse] at this
theorem lastW_snoc (l:List (Nat×ByteArray)) (x:Nat×ByteArray) (p:Nat):lastW (l++[x]) p=if x.1=p then some x.2 else lastW l p:=by
 unfold lastW
 rw [List.reverse_append]
 simp only [List.reverse_singleton,List.singleton_append,List.find?_cons]
 by_cases h:x.1=p
 ·simp [h]
 ·have:(x.1==p)=false:=by simpa using h
  rw [this,if_neg h]
theorem laid_at:∀ (l:List (Nat×ByteArray)) (s:List ByteArray) (p:Nat),(∀ x∈l,x.1<s.length)→(laid s l).getD p ⟨#[]⟩=(lastW l p).getD (s.getD p ⟨#[]⟩):=by
 intro l
 induction l using snoc_ind with
 | h0=>intro s p _;rfl
 | h1 l x ih =>
  intro s p h
  have e:laid s (l++[x])=(laid s l).set x.1 x.2:=by simp [laid]
  rw [e,lastW_snoc,List.getD_eq_getElem?_getD,List.getElem?_set]
  have hx:=h x (by simp)
  by_cases hp:x.1=p
  ·rw [if_pos hp,if_pos hp,if_pos (by rw [laid_length];omega)];rfl
  ·rw [if_neg hp,if_neg hp,← List.getD_eq_getElem?_getD]
   exact ih s p (fun y hy=>h y (by simp [hy]))
theorem synced_at (fs:Fs) (h:fs.fits) (p:Nat):fs.synced.at p=fs.at p:=laid_at fs.late fs.safe p h
theorem synced_has {fs:Fs} (h:fs.fits) {p:Nat} {g:Pg}:fs.synced.has p g↔fs.has p g:=by
 unfold Fs.has
 rw [synced_at fs h]
 show p<(laid fs.safe fs.late).length∧_↔_
 rw [laid_length]
theorem put_at (fs:Fs) (q:Nat) (d:ByteArray) (p:Nat):(fs.put q d).at p=if q=p then d else fs.at p:=by
 unfold Fs.at Fs.put
 simp only [lastW_snoc]
 split<;>rfl
def Fs.puts (fs:Fs) (l:List (Nat×Pg)):Fs:={ fs with late:=fs.late++l.map (fun y=>(y.1,y.2.encS)) }
theorem puts_nil (fs:Fs):fs.puts []=fs:=by simp [Fs.puts]
theorem puts_snoc (fs:Fs) (l:List (Nat×Pg)) (y:Nat×Pg):fs.puts (l++[y])=(fs.puts l).put y.1 y.2.encS:=by simp [Fs.puts,Fs.put]
theorem puts_at:∀ (l:List (Nat×Pg)) (fs:Fs) (p:Nat),(p ∉ l.map (·.1)→(fs.puts l).at p=fs.at p)∧((l.map (·.1)).Nodup→∀ y∈l,y.1=p→(fs.puts l).at p=y.2.encS):=by
 intro l
 induction l using snoc_ind with
 | h0=>intro fs p;rw [puts_nil];exact⟨fun _=>rfl,fun _ y hy=>by simp at hy⟩
 | h1 l x ih =>
  intro fs p
  rw [puts_snoc,put_at]
  obtain⟨i1,i2⟩:=ih fs p
  constructor
  ·intro h
   rw [List.map_append,List.mem_append] at h
   rw [if_neg (fun e=>h (.inr (by simp [e])))]
   exact i1 (fun h'=>h (.inl h'))
  ·intro hn y hy hyp
   rw [List.map_append] at hn
   obtain⟨n1,n2,n3⟩:=List.nodup_append.1 hn
   rcases List.mem_append.1 hy with hy|hy
   ·have:x.1≠p:=fun e=>n3 y.1 (List.mem_map.2 ⟨y,hy,rfl⟩) x.1 (by simp) (by rw [hyp,e])
    rw [if_neg this]
    exact i2 n1 y hy hyp
   ·rw [List.mem_singleton] at hy
    subst hy
    rw [if_pos hyp]
theorem puts_has {fs:Fs} {l:List (Nat×Pg)} (hn:(l.map (·.1)).Nodup) (hE:∀ y∈l,y.2.encE=0) (hv:∀ y∈l,y.2.ver=0) (hl:∀ y∈l,y.1<fs.safe.length):∀ y∈l,(fs.puts l).has y.1 y.2:=by
 intro y hy
 refine⟨hl y hy,?_⟩
 rw [(puts_at l fs y.1).2 hn y hy rfl]
 exact enc_isPg y.2 (by rw [hv y hy];decide) (hE y hy)
theorem puts_keep {fs:Fs} {l:List (Nat×Pg)} {p:Nat} {g:Pg} (hp:p ∉ l.map (·.1)) (h:fs.has p g):(fs.puts l).has p g:=by
 refine⟨h.1,?_⟩
 rw [(puts_at l fs p).1 hp]
 exact h.2
theorem put_keep {fs:Fs} {q p:Nat} {d:ByteArray} {g:Pg} (hp:q≠p) (h:fs.has p g):(fs.put q d).has p g:=by
 refine⟨h.1,?_⟩
 rw [put_at,if_neg hp]
 exact h.2
def Fs.made (fs:Fs) (l:List (Nat×Pg)) (m:Nat) (mt:Pg):Fs:=(((fs.puts l).synced).put m mt.encS).synced
theorem made_laid {fs:Fs} {l:List (Nat×Pg)} {m:Nat} {mt:Pg} {Z:List Nat} (hf:fs.fits) (hn:(l.map (·.1)).Nodup) (hE:∀ y∈l,y.2.encE=0) (hv:∀ y∈l,y.2.ver=0) (hl:∀ y∈l,y.1<fs.safe.length∧y.1≠m) (hm:m<fs.safe.length) (hZ:∀ y∈l,y.1∈Z) (hmZ:m∈Z) :
  Laid fs (fs.made l m mt) Z l∧(fs.made l m mt).at m=mt.encS∧(fs.made l m mt).late=[]∧(fs.made l m mt).safe.length=fs.safe.length∧∀ p,p ∉ Z→(fs.made l m mt).at p=fs.at p:=by
 have f1:(fs.puts l).fits:=by
  intro x hx
  simp only [Fs.puts,List.mem_append,List.mem_map] at hx
  rcases hx with hx|⟨y,hy,rfl⟩
  ·exact hf x hx
  ·exact(hl y hy).1
 have e1:(fs.puts l).synced.safe.length=fs.safe.length:=laid_length _ _
 have f2:(((fs.puts l).synced).put m mt.encS).fits:=by
  intro x hx
  simp only [Fs.put,Fs.synced,List.nil_append,List.mem_singleton] at hx
  subst hx
  show m<(laid _ _).length
  rw [laid_length];exact hm
 refine⟨⟨fun y hy=>?_,fun p g hp h=>?_⟩,?_,rfl,?_,fun p hp=>?_⟩
 ·exact(synced_has f2).2 (put_keep (hl y hy).2.symm ((synced_has f1).2 (puts_has hn hE hv (fun y hy=>(hl y hy).1) y hy)))
 ·have h1:p ∉ l.map (·.1):=fun hm=>by
   obtain⟨y,hy,rfl⟩:=List.mem_map.1 hm
   exact hp (hZ y hy)
  exact(synced_has f2).2 (put_keep (fun e:m=p=>hp (e▸hmZ)) ((synced_has f1).2 (puts_keep h1 h)))
 ·show (Fs.synced _).at m=_
  rw [synced_at _ f2,put_at,if_pos rfl]
 ·show (laid _ _).length=_
  rw [laid_length];exact e1
 ·show (Fs.synced _).at p=_
  have h1:p ∉ l.map (·.1):=fun hm=>by
   obtain⟨y,hy,rfl⟩:=List.mem_map.1 hm
   exact hp (hZ y hy)
  rw [synced_at _ f2,put_at,if_neg (fun e:m=p=>hp (e▸hmZ)),synced_at _ f1,(puts_at l fs p).1 h1]
theorem stays_o {fs fs':Fs} {root:Nat} {o:Option (Nat×T)} (hro:Rooted fs root o) (hf:Flat2 o) (hk:∀ p∈opages o,∀ g,fs.has p g→fs'.has p g):Rooted fs' root o:=by
 rcases flat_cases hro hf with rfl|⟨p,es,rfl,hs⟩|⟨p,ks,kids,rfl,hs⟩
 ·exact hro
 ·exact⟨hro.1,hro.2.1,stays0 hs hk⟩
 ·refine⟨hro.1,hro.2.1,?_⟩
  obtain⟨g,a1,a2,a3,a4,a5,a6,a7⟩:=hs
  refine⟨g,hk p (by simp [opages,T.pages]) g a1,a2,a3,a4,a5,a6,fun x hx=>?_⟩
  have hm:x.1∈kids:=by
   have:x.1∈(parts ⟨⟨#[]⟩,⟨#[]⟩⟩ ks kids).map (·.1):=List.mem_map.2 ⟨x,hx,rfl⟩
   rwa [parts_fst] at this
  refine stays0 (a7 x hx) (fun q hq=>hk q ?_)
  simp only [opages,T.pages,List.mem_cons,List.mem_flatMap]
  exact .inr ⟨_,hm,hq⟩
structure Tr (K:List ByteArray) (fs:Fs) (o:Option (Nat×T)):Prop where
 rooted:Rooted fs (rootOf o) o
 flat:Flat2 o
 keys:OTIn K o
 root:rootOf o=0∨placeB (rootOf o:Nat)=true
theorem Tr.stays {K:List ByteArray} {fs fs':Fs} {o:Option (Nat×T)} (h:Tr K fs o) (hk:∀ p∈opages o,∀ g,fs.has p g→fs'.has p g):Tr K fs' o:=⟨stays_o h.rooted h.flat hk,h.flat,h.keys,h.root⟩
def MetaAt (fs:Fs) (p ver root:Nat):Prop:=(fs.at p=zerosB 256∧ver=0∧root=0)∨IsPg (fs.at p) (metaPg ver root)
structure Store (K:List ByteArray) (n:Nat) (fs:Fs) (v:Nat) (o ao:Option (Nat×T)):Prop where
 late:fs.late=[]
 len:fs.safe.length=n
 meta0:MetaAt fs (v % 2) v (rootOf o)
 meta1:∃ v',MetaAt fs ((v+1) % 2) v' (rootOf ao)∧(v'<v∨(v'=v∧rootOf ao=rootOf o))
 sure:Tr K fs o
 ahead:Tr K fs ao
 size:∀ s∈fs.safe,s.size=256
theorem laid_size:∀ (late:List (Nat×ByteArray)) (safe:List ByteArray),(∀ s∈safe,s.size=256)→(∀ x∈late,x.2.size=256)→∀ s∈laid safe late,s.size=256
 | [],_,h,_=>h
 | x :: late,safe,h,h'=>laid_size late (safe.set x.1 x.2) (fun s hs=>(List.mem_or_eq_of_mem_set hs).elim (h s) (fun e=>e▸h' x (by simp))) (fun y hy=>h' y (by simp [hy]))
theorem made_size {fs:Fs} {l:List (Nat×Pg)} {m:Nat} {mt:Pg} (h:∀ s∈fs.safe,s.size=256) (hl:fs.late=[]) (hE:∀ y∈l,y.2.encE=0) (hm:mt.encE=0):∀ s∈(fs.made l m mt).safe,s.size=256:=by
 refine laid_size _ _ (laid_size _ _ h (fun x hx=>?_)) (fun x hx=>?_)
 ·simp only [Fs.puts,hl,List.nil_append,List.mem_map] at hx
  obtain⟨y,hy,rfl⟩:=hx
  exact enc_size _ (hE y hy)
 ·simp only [Fs.put,Fs.synced,List.nil_append,List.mem_singleton] at hx
  subst hx
  exact enc_size _ hm
theorem layV_ver:∀ (k:Nat) (v:ByteArray) (fr:List Nat),∀ y∈layV k v fr,y.2.ver=0
 | 0,_,_,y,hy=>by simp [layV] at hy
 | k+1,v,fr,y,hy=>by
  by_cases h:v.size=0
  ·rw [layV_zero _ _ _ h] at hy;simp at hy
  ·rw [layV_succ _ _ _ h] at hy
   rcases List.mem_cons.1 hy with rfl|hy
   ·rfl
   ·exact layV_ver k _ fr y hy
theorem layEs_ver:∀ (es:List En) (fr:List Nat),∀ y∈(layEs es fr).2,y.2.ver=0
 | [],_,y,hy=>by simp [layEs] at hy
 | x :: es,fr,y,hy=>by
  simp only [layEs,List.mem_append,List.mem_reverse] at hy
  rcases hy with hy|hy
  ·unfold newCh at hy
   split at hy
   ·exact layV_ver 2 _ fr y hy
   ·simp at hy
  ·exact layEs_ver es _ y hy
theorem layN_ver (n:NT) (fr:List Nat):∀ y∈(layN n fr).2,y.2.ver=0:=by
 cases n with
 | kept=>simp [layN]
 | bran=>simp [layN]
 | leaf s es =>
  intro y hy
  simp only [layN,List.mem_append,List.mem_singleton] at hy
  rcases hy with hy|rfl
  ·exact layEs_ver es fr y hy
  ·rfl
theorem layNs_ver:∀ (ns:List NT) (fr:List Nat),∀ y∈(layNs ns fr).2,y.2.ver=0
 | [],_,y,hy=>by simp [layNs] at hy
 | n :: ns,fr,y,hy=>by
  simp only [layNs,List.mem_append] at hy
  rcases hy with hy|hy
  ·exact layN_ver n fr y hy
  ·exact layNs_ver ns _ y hy
theorem layTop_ver (N:List NT) (fr:List Nat):∀ y∈(layTop N fr).2,y.2.ver=0:=by
 unfold layTop
 split
 ·simp
 ·exact layN_ver _ fr
 ·intro y hy
  simp only [layB,List.mem_append,List.mem_singleton] at hy
  rcases hy with hy|rfl
  ·exact layNs_ver _ fr y hy
  ·rfl
def planP (o:Option (Nat×T)) (cs:List Ch) (fr:List Nat):Option (Nat×T)×List (Nat×Pg):=layTop (level0 o cs) fr
structure Plan (K:List ByteArray) (n:Nat) (fs:Fs) (o:Option (Nat×T)) (cs:List Ch) (fr:List Nat):Prop where
 tree:Tr K fs o
 rise:Rise cs
 good:∀ c∈cs,c.good
 keys:∀ c∈cs,c.key∈K
 k24:∀ k∈K,k.size≤24
 ksum:3+tot (fun k:ByteArray=>k.size+3) K≤250
 free:∀ p∈fr,2≤p∧p<n
 small:n≤4096
 len:fs.safe.length=n
 nodup:fr.Nodup
 away:∀ p∈opages o,p ∉ fr
 room:1+3 * K.length≤fr.length
theorem Plan.place {K:List ByteArray} {n:Nat} {fs:Fs} {o:Option (Nat×T)} {cs:List Ch} {fr:List Nat} (h:Plan K n fs o cs fr):∀ p∈fr,placeB (p:Nat)=true:=fun p hp=>by
 have:=h.free p hp
 have:=h.small
 simp only [placeB,Bool.and_eq_true,decide_eq_true_eq];omega
theorem Plan.enough {K:List ByteArray} {n:Nat} {fs:Fs} {o:Option (Nat×T)} {cs:List Ch} {fr:List Nat} (h:Plan K n fs o cs fr):(planP o cs fr).2.length≤1+3 * K.length:=by
 obtain⟨h1,_⟩:=level0_lst h.tree.rooted h.tree.flat h.rise h.good
 have h2:=level0_loIn h.tree.rooted h.tree.flat h.rise h.good h.keys h.tree.keys
 have h3:=layTop_count (level0 o cs) fr
 have h4:=h1.many h2
 have h5:=h1.count
 unfold planP;omega
theorem commit_store {K:List ByteArray} {n:Nat} {fs:Fs} {v:Nat} {o ao:Option (Nat×T)} {cs:List Ch} {fr:List Nat} (S:Store K n fs v o ao) (P:Plan K n fs o cs fr) (hv:v+1<9223372036854775808) (hn:2≤n) :
  Store K n (fs.made (planP o cs fr).2 ((v+1) % 2) (metaPg (v+1:Nat) (rootOf (planP o cs fr).1))) (v+1) (planP o cs fr).1 o ∧
  (∀ y∈(planP o cs fr).2,y.2.encE=0)∧(planP o cs fr).2.map (·.1)=fr.take (planP o cs fr).2.length ∧
  (oents (planP o cs fr).1).map En.kv=(overE (oents o) cs).map En.kv ∧
  ∀ o',Tr K fs o'→(∀ p∈opages o',p ∉ fr)→Tr K (fs.made (planP o cs fr).2 ((v+1) % 2) (metaPg (v+1:Nat) (rootOf (planP o cs fr).1))) o':=by
 obtain⟨h1,h1'⟩:=level0_lst P.tree.rooted P.tree.flat P.rise P.good
 have h2:=level0_loIn P.tree.rooted P.tree.flat P.rise P.good P.keys P.tree.keys
 obtain⟨h3,h4⟩:=level0_from P.tree.rooted P.tree.flat P.rise P.good
 have hen:=P.enough
 unfold planP at hen ⊢
 have hl:(layTop (level0 o cs) fr).2.length≤fr.length:=vJ hen P.room
 have hp:=P.place
 have hge:=opages_ge P.tree.rooted P.tree.flat P.tree.root
 have hm:(v+1) % 2<2:=Nat.mod_lt _ (by decide)
 have hZ:∀ (o':Option (Nat×T)),Tr K fs o'→(∀ p∈opages o',p ∉ fr)→∀ p∈opages o',p ∉ (v+1) % 2 :: fr:=fun o' t a p hpp hz=>by
  have hge:=opages_ge t.rooted t.flat t.root p hpp
  rcases List.mem_cons.1 hz with h|h
  ·omega
  ·exact a p hpp h
 obtain⟨k1,k2,k3,k4⟩:=layTop_ok h1 h2 P.k24 P.ksum h4 fr hl hp ((v+1) % 2 :: fr) (fun m hm p hpp=>hZ o P.tree P.away p ((h3 m hm).1 p hpp))
 have hpl:=layTop_places (level0 o cs) fr hl
 have hmem:∀ y∈(layTop (level0 o cs) fr).2,y.1∈fr:=take_mem hpl
 have hfits:fs.fits:=fun x hx=>by rw [S.late] at hx;simp at hx
 obtain⟨L,m1,m2,m3,m4⟩:=made_laid (fs:=fs) (l:=(layTop (level0 o cs) fr).2) (m:=(v+1) % 2) (mt:=metaPg (v+1:Nat) (rootOf (layTop (level0 o cs) fr).1)) (Z:=(v+1) % 2 :: fr) hfits
  (by rw [hpl];exact P.nodup.sublist (List.take_sublist _ _)) k1 (layTop_ver _ _) (fun y hy=>by have:=P.free _ (hmem y hy);rw [P.len];omega) (by rw [P.len];omega) (fun y hy=>List.mem_cons_of_mem _ (hmem y hy)) (by simp)
 obtain⟨r1,r2⟩:=k4 _ L
 have hstay:∀ o',Tr K fs o'→(∀ p∈opages o',p ∉ fr)→Tr K (fs.made (layTop (level0 o cs) fr).2 ((v+1) % 2) (metaPg (v+1:Nat) (rootOf (layTop (level0 o cs) fr).1))) o':=fun o' t a=>t.stays (fun p hp g hg=>L.keep p g (hZ o' t a p hp) hg)
 have hE:=enc_meta (v+1:Nat) (rootOf (layTop (level0 o cs) fr).1) (by omega) (r2.imp (fun h=>by rw [h];rfl) id)
 refine⟨⟨m2,m3.trans P.len,?_,⟨v,?_,.inl (by omega)⟩,⟨r1,k2,k3,r2⟩,hstay o P.tree P.away,made_size S.size S.late k1 hE⟩,k1,hpl,?_,hstay⟩
 ·refine .inr ?_
  show IsPg (Fs.at _ _) _
  rw [m1]
  exact enc_isPg _ (by show ((v+1:Nat):Int)<_;omega) hE
 ·have hv2:(v+1+1) % 2=v % 2:=by omega
  rw [hv2]
  have hnz:v % 2 ∉ (v+1) % 2 :: fr:=by
   intro hz
   rcases List.mem_cons.1 hz with h|h
   ·omega
   ·have:=P.free _ h;omega
  unfold MetaAt
  rw [m4 _ hnz]
  exact S.meta0
 ·rw [← h1']
  exact layTop_kv h1.ok fr hl hp
def withC (cs:List Ch) (c:Ch):List Ch:=if fnd cs c.key=true then cs.set (srch cs c.key) c else cs.take (srch cs c.key)++c :: cs.drop (srch cs c.key)
theorem fnd_at {cs:List Ch} {k:ByteArray} (h:fnd cs k=true) (hr:Rise cs):∃ h0:srch cs k<cs.length,(cs[srch cs k]).key=k:=by
 unfold fnd at h
 split at h
 ·rename_i c hc
  obtain⟨h0,e⟩:=List.getElem?_eq_some_iff.1 hc
  refine⟨h0,?_⟩
  have h1:lt k c.key=false:=by simpa using h
  have h2:lt (cs[srch cs k]).key k=false:=srch_ge hr (jU _) h0
  rw [e] at h2 ⊢
  exact lt_total h2 h1
 ·simp at h
theorem with_split {cs:List Ch} (hr:Rise cs) (c:Ch):withC cs c=cs.take (srch cs c.key)++c :: cs.drop (srch cs c.key+if fnd cs c.key=true then 1 else 0):=by
 unfold withC
 by_cases h:fnd cs c.key=true
 ·rw [if_pos h,if_pos h]
  obtain⟨h0,_⟩:=fnd_at h hr
  rw [List.set_eq_take_append_cons_drop,if_pos h0]
 ·rw [if_neg h,if_neg h];rfl
theorem drop_gt {cs:List Ch} (hr:Rise cs) (k:ByteArray):∀ c∈cs.drop (srch cs k+if fnd cs k=true then 1 else 0),lt k c.key=true:=by
 intro c hc
 by_cases h:fnd cs k=true
 ·rw [if_pos h] at hc
  obtain⟨h0,e0⟩:=fnd_at h hr
  obtain⟨i,hi,e⟩:=List.getElem_of_mem hc
  rw [List.getElem_drop] at e
  rw [List.length_drop] at hi
  have:=(List.pairwise_iff_getElem.1 hr) (srch cs k) (srch cs k+1+i) h0 (by omega) (by omega)
  rw [e0] at this
  rw [← e];exact this
 ·rw [if_neg h] at hc
  obtain⟨i,hi,e⟩:=List.getElem_of_mem hc
  rw [List.getElem_drop] at e
  rw [List.length_drop] at hi
  have h2:lt (cs[srch cs k+0+i]'(by omega)).key k=false:=srch_ge hr (by omega) (by omega)
  rw [e] at h2
  rcases le_or_lt c.key k with h3|h3
  ·exfalso
   have h4:c.key=k:=le_antisymm h3 (not_lt.1 h2)
   exact h ((fnd_iff hr k).2 ⟨c,List.mem_of_mem_drop hc,h4⟩)
  ·exact h3
theorem with_rise {cs:List Ch} (hr:Rise cs) (c:Ch):Rise (withC cs c):=by
 rw [with_split hr]
 refine List.pairwise_append.2 ⟨hr.sublist (List.take_sublist _ _),List.pairwise_cons.2 ⟨drop_gt hr c.key,hr.sublist (List.drop_sublist _ _)⟩,?_⟩
 intro a ha b hb
 have h1:=take_lt ha
 rcases List.mem_cons.1 hb with rfl|hb
 ·exact h1
 ·exact lt_trans h1 (drop_gt hr c.key b hb)
theorem with_mem {cs:List Ch} (hr:Rise cs) (c x:Ch):x∈withC cs c↔x=c∨(x∈cs∧x.key≠c.key):=by
 rw [with_split hr]
 simp only [List.mem_append,List.mem_cons]
 constructor
 ·rintro(h|h|h)
  ·exact .inr ⟨List.mem_of_mem_take h,lt_ne (take_lt h)⟩
  ·exact .inl h
  ·exact .inr ⟨List.mem_of_mem_drop h,(lt_ne (drop_gt hr c.key x h)).symm⟩
 ·rintro(h|⟨h1,h2⟩)
  ·exact .inr (.inl h)
  ·rcases (mem_split (srch cs c.key)).1 h1 with h|h
   ·exact .inl h
   ·refine .inr (.inr ?_)
    by_cases hf:fnd cs c.key=true
    ·rw [if_pos hf]
     obtain⟨h0,e0⟩:=fnd_at hf hr
     rw [List.drop_eq_getElem_cons h0] at h
     rcases List.mem_cons.1 h with h|h
     ·exact absurd (by rw [h];exact e0) h2
     ·exact h
    ·rw [if_neg hf];exact h
def valOf (es:List En) (k:ByteArray):Option (List UInt8):=(es.find? (fun x=>decide (x.e.key=k))).map En.value
theorem valOf_some {es:List En} (hr:RiseE es) {k:ByteArray} {v:List UInt8}:valOf es k=some v↔∃ x∈es,x.e.key=k∧x.value=v:=by
 unfold valOf
 constructor
 ·intro h
  rw [Option.map_eq_some_iff] at h
  obtain⟨x,h1,h2⟩:=h
  have h3:=List.find?_some h1
  exact⟨x,List.mem_of_find?_eq_some h1,by simpa using h3,h2⟩
 ·rintro⟨x,hx,hk,hv⟩
  cases hf:es.find? (fun x=>decide (x.e.key=k)) with
  | none =>
   have:=List.find?_eq_none.1 hf x hx
   simp [hk] at this
  | some y =>
   have h3:=List.find?_some hf
   have h4:=List.mem_of_find?_eq_some hf
   have h5:y.e.key=k:=by simpa using h3
   have:y=x:=by
    obtain⟨i,hi,rfl⟩:=List.getElem_of_mem hx
    obtain⟨j,hj,rfl⟩:=List.getElem_of_mem h4
    rcases Nat.lt_trichotomy i j with h|h|h
    ·have:=List.pairwise_iff_getElem.1 hr i j hi hj h
     rw [hk,h5,lt_irrefl] at this;cases this
    ·subst h;rfl
    ·have:=List.pairwise_iff_getElem.1 hr j i hj hi h
     rw [hk,h5,lt_irrefl] at this;cases this
   rw [this,Option.map_some,hv]
theorem over_val {es:List En} {cs:List Ch} (he:RiseE es) (hr:Rise cs) (k:ByteArray):valOf (overE es cs) k=match cs.find? (fun c=>decide (c.key=k)) with
  | some c=>if c.gone=true then none else some c.val.data.toList
  | none=>valOf es k:=by
 have ho:=over_rise he hr
 cases hf:cs.find? (fun c=>decide (c.key=k)) with
 | some c =>
  have h1:=List.mem_of_find?_eq_some hf
  have h2:c.key=k:=by simpa using List.find?_some hf
  have uniq:∀ c'∈cs,c'.key=k→c'=c:=by
   intro c' hc' e
   obtain⟨i,hi,rfl⟩:=List.getElem_of_mem hc'
   obtain⟨j,hj,rfl⟩:=List.getElem_of_mem h1
   rcases Nat.lt_trichotomy i j with h|h|h
   ·have:=List.pairwise_iff_getElem.1 hr i j hi hj h
    rw [e,h2,lt_irrefl] at this;cases this
   ·subst h;rfl
   ·have:=List.pairwise_iff_getElem.1 hr j i hj hi h
    rw [e,h2,lt_irrefl] at this;cases this
  simp only
  split
  ·rename_i hg
   cases hv:valOf (overE es cs) k with
   | none=>rfl
   | some v =>
    obtain⟨x,hx,hk,_⟩:=(valOf_some ho).1 hv
    rcases (over_mem he hr x).1 hx with⟨c',a1,a2,rfl⟩|⟨a1,a2⟩
    ·have:=uniq c' a1 hk
     rw [this,hg] at a2;cases a2
    ·exact absurd (h2.trans hk.symm) (a2 c h1)
  ·rename_i hg
   refine(valOf_some ho).2 ⟨chE c,(over_mem he hr _).2 (.inl ⟨c,h1,by simpa using hg,rfl⟩),h2,?_⟩
   simp [En.value,chE]
 | none =>
  have h0:∀ c∈cs,c.key≠k:=fun c hc e=>by
   have:=List.find?_eq_none.1 hf c hc
   simp [e] at this
  simp only
  cases hv:valOf es k with
  | none =>
   cases hv2:valOf (overE es cs) k with
   | none=>rfl
   | some v =>
    obtain⟨x,hx,hk,hxv⟩:=(valOf_some ho).1 hv2
    rcases (over_mem he hr x).1 hx with⟨c',a1,a2,rfl⟩|⟨a1,a2⟩
    ·exact absurd hk (h0 c' a1)
    ·rw [(valOf_some he).2 ⟨x,a1,hk,hxv⟩] at hv;cases hv
  | some v =>
   obtain⟨x,hx,hk,hxv⟩:=(valOf_some he).1 hv
   exact(valOf_some ho).2 ⟨x,(over_mem he hr x).2 (.inr ⟨hx,fun c hc=>by rw [hk];exact h0 c hc⟩),hk,hxv⟩
theorem off_false {n p:Nat}:¬ on (List.replicate n false) p:=by
 unfold on
 rw [List.getElem?_replicate]
 split<;>simp
theorem oshut_base (n:Nat) (o:Option (Nat×T)):OShut (List.replicate n false) o:=by
 cases o with
 | none=>trivial
 | some x=>exact fun y hy h=>absurd h off_false
theorem oshut_after {fs:Fs} {r r':Nat} {o o':Option (Nat×T)} {u:List Bool} (h:Rooted fs r o) (h':Rooted fs r' o') (hu:fs.safe.length≤u.length) (hs:OShut u o):OShut (marks u (opages o')) o:=by
 cases o' with
 | none=>exact hs
 | some x' =>
  cases o with
  | none=>trivial
  | some x=>exact Shut.after h.2.2 h'.2.2 hu hs
def usedP (os:List (Option (Nat×T))):List Bool:=marks (List.replicate 4096 false) (os.flatMap opages)
theorem usedP_len (os:List (Option (Nat×T))):(usedP os).length=4096:=by unfold usedP;rw [marks_length,List.length_replicate]
theorem usedP_snoc (os:List (Option (Nat×T))) (o:Option (Nat×T)):usedP (os++[o])=marks (usedP os) (opages o):=by
 unfold usedP;rw [List.flatMap_append,marks_append,List.flatMap_cons,List.flatMap_nil,List.append_nil]
theorem usedP_shut {fs:Fs} (hn:fs.safe.length≤4096):∀ (os:List (Option (Nat×T))),(∀ o∈os,Rooted fs (rootOf o) o)→∀ o,Rooted fs (rootOf o) o→OShut (usedP os) o:=by
 intro os
 induction os using snoc_ind with
 | h0=>intro _ o _;exact oshut_base 4096 o
 | h1 os x ih =>
  intro h o ho
  rw [usedP_snoc]
  exact oshut_after ho (h x (by simp)) (by rw [usedP_len];exact hn) (ih (fun o' h'=>h o' (by simp [h'])) o ho)
theorem usedP_on {os:List (Option (Nat×T))} {p:Nat}:on (usedP os) p↔p∈os.flatMap opages∧p<4096:=by
 unfold usedP
 rw [on_marks]
 constructor
 ·rintro(h|⟨h1,h2⟩)
  ·exact absurd h off_false
  ·exact⟨h1,by rwa [List.length_replicate] at h2⟩
 ·rintro⟨h1,h2⟩
  exact .inr ⟨h1,by rwa [List.length_replicate]⟩
theorem tr_pages_lt {K:List ByteArray} {fs:Fs} {o:Option (Nat×T)} (h:Tr K fs o):∀ p∈opages o,p<fs.safe.length:=by
 cases o with
 | none=>simp [opages]
 | some x=>exact pages_lt h.rooted.2.2
theorem plan_of {K:List ByteArray} {n:Nat} {fs:Fs} {o:Option (Nat×T)} {cs:List Ch} {os:List (Option (Nat×T))} (hlen:fs.safe.length=n) (hn:n≤4096) (hos:∀ o'∈os,Tr K fs o') (ho:o∈os)
  (rise:Rise cs) (good:∀ c∈cs,c.good) (keys:∀ c∈cs,c.key∈K) (k24:∀ k∈K,k.size≤24) (ksum:3+tot (fun k:ByteArray=>k.size+3) K≤250) (hroom:(os.length+1) * (1+3 * K.length)+2≤n) :
  Plan K n fs o cs (freeP n (usedP os))∧∀ o'∈os,∀ p∈opages o',p ∉ freeP n (usedP os):=by
 have haway:∀ o'∈os,∀ p∈opages o',p ∉ freeP n (usedP os):=fun o' h' p hp hf=>by
  have hlt:=tr_pages_lt (hos o' h') p hp
  exact(freeP_mem hf).2.2 (usedP_on.2 ⟨List.mem_flatMap.2 ⟨o',h',hp⟩,by omega⟩)
 refine⟨⟨hos o ho,rise,good,keys,k24,ksum,fun p hp=>⟨(freeP_mem hp).1,(freeP_mem hp).2.1⟩,hn,hlen,freeP_nodup _ _,haway o ho,?_⟩,haway⟩
 have h1:=freeP_many (n:=n) (u:=usedP os) (ps:=os.flatMap opages) (by rw [usedP_len];exact hn) (fun p h=>(usedP_on.1 h).1)
 have h2:=flat_len2 opages (1+3 * K.length) os (fun o' h'=>opages_len (hos o' h').rooted (hos o' h').flat (hos o' h').keys)
 have h3:(os.length+1) * (1+3 * K.length)=(1+3 * K.length) * os.length+(1+3 * K.length):=by rw [Nat.add_mul,Nat.one_mul,Nat.mul_comm]
 omega
theorem tr_none (K:List ByteArray) (fs:Fs):Tr K fs none:=⟨rfl,trivial,trivial,.inl rfl⟩
theorem store_new (K:List ByteArray) (n:Nat) (hn:2≤n):Store K n ⟨List.replicate n (zerosB 256),[],-1,-1,0⟩ 0 none none:=by
 have h0:∀ p,p<n→(⟨List.replicate n (zerosB 256),[],-1,-1,0⟩:Fs).at p=zerosB 256:=fun p hp=>by
  simp [Fs.at,lastW,List.getElem?_replicate,hp]
 exact⟨rfl,by simp,.inl ⟨h0 _ (by omega),rfl,rfl⟩,⟨0,.inl ⟨h0 _ (by omega),rfl,rfl⟩,.inr ⟨rfl,rfl⟩⟩,tr_none _ _,tr_none _ _,fun s hs=>by rw [List.eq_of_mem_replicate hs];exact zerosB_size 256⟩
theorem app_row {P:Program} (w:World) (T ty E:TypeId) (zero:Value) (z bytes:Nat) (hT:P.underlying T=some (.slice E)) (hi:(P.info? E).map (fun i=>(i.zero,i.size,i.bytes))=some (some zero,z,bytes)) (hzs:zero.cells.size=z) (hsz:0<z)
  (v:Value) (n:Nat) (xs:List Value) (hv:w.ownsRow 0 E z v n xs) (xa:Option Addr) (m c:Nat) (S:Bl) (news:List Value) (hl:news.length=m * z) (hR:RowOn w S xa news) (h1:∀ u∈news,u.oneCell'=true)
  (h63:n+m≤140737488355328) (hb:(n+m) * bytes≤140737488355328) :
  ∃ v' w',(Builtin.append_ #[T,T] ty #[v,.slice xa m c]).run P w=.ok v' w'∧AppR E z v n xs news m w v' w':=by
 rcases hR with rfl|⟨b,off,rfl,_,hc⟩
 ·have hm:m=0:=by
   rcases Nat.eq_zero_or_pos m with h|h
   ·exact h
   ·have:=Nat.mul_pos h hsz;simp at hl;omega
  subst hm
  exact⟨v,w,run_app0 w T ty E zero z bytes hT hi v n xs hv xa c,by simpa using hv,Fr.refl _ _,fun k hk=>.inl hk⟩
 ·refine app_run w T ty E zero z bytes hT hi hzs hsz v n xs hv ⟨b,off,none⟩ m c news hl (fun j u hu=>?_) h1 h63 hb
  have:=hc j u hu
  rw [show (⟨b,off,none⟩:Addr).add j=⟨b,off+j,none⟩ by unfold Addr.add;split<;>simp_all]
  exact this
theorem step_appX {P:Program} {ops:Array Oper} {o:Oper} {a:Act} {K:Act→World→Prop} {Q:Exit→Act→World→Prop} {F:Prop} (w:World) (hgd:o.guard=none) (sl x:Operand) (T E:TypeId) (zero:Value) (z bytes:Nat) (ho:o.op=.call { callee:=.builtin .append,args:=#[sl,x],argTypes:=#[T,T] }) (hT:P.underlying T=some (.slice E)) (hi:(P.info? E).map (fun i=>(i.zero,i.size,i.bytes))=some (some zero,z,bytes)) (hzs:zero.cells.size=z) (hsz:0<z)
  (v:Value) (n:Nat) (xs:List Value) (hs:a.eval sl=v) (hv:w.ownsRow 0 E z v n xs) (xa:Option Addr) (m c:Nat) (S:Bl) (news:List Value) (hx:a.eval x=.slice xa m c) (hl:news.length=m * z) (hR:RowOn w S xa news) (h1:∀ u∈news,u.oneCell'=true) (h63:n+m≤140737488355328) (hb:(n+m) * bytes≤140737488355328)
  (h:∀ v' w',AppR E z v n xs news m w v' w'→K (a.put o.dst v') w') :
  if Region.wanted o (yielded ops a.tmps)=true then Oper.wp P o a w K Q else F:=by
 have hw:Region.wanted o (yielded ops a.tmps)=true:=by simp [Region.wanted,hgd]
 rw [if_pos hw]
 obtain⟨v',w',hr,A⟩:=app_row (P:=P) w T o.type E zero z bytes hT hi hzs hsz v n xs hv xa m c S news hl hR h1 h63 hb
 unfold Oper.wp execOp
 simp only [ho,resolve,invoke,builtin,Sem.run_bind,Sem.run_pure,Result.andThen_ok,List.map_toArray,List.map_cons,List.map_nil,hs,hx,hr]
 exact h v' w' A
end Go.Proofs.YtfnhmpcpeahfkaaGreat.Tree
