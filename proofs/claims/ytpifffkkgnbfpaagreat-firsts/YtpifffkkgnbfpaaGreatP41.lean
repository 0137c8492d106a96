import Derived.Test.YtpifffkkgnbfpaaGreatP40
import Derived.Test.YtpifffkkgnbfpaaGreatP36
set_option linter.unusedSimpArgs false
set_option linter.unusedVariables false
namespace Go.Proofs.YtpifffkkgnbfpaaGreat.Tree
open Go.RowKit Pages
variable {D:Db} {K:List ByteArray} {Kp:Bl} {ao o:Option (Nat×T)} {b d i j m n:Nat} {w wq:World} {z:Int}
theorem qBo (D:Db) (x:Int) (i:Nat) (t:Tx) (v:Nat) (o ao:Option (Nat×T)) (ot:Tx→Option (Nat×T)) (w:World) (h:aN w 0 D) (hn:D.ts.length≤1000) (hi:i<D.ts.length) (ht:D.ts[i]=t) (hidx:mU D.ts x=i) (hne:0<t.cs.length) (hks:∀ c∈t.cs,c.key ∉ t.ks) (hcn:t.cs.length≤1000) (hw:D.fs.well) (hfd:D.failed=false) (hv:D.ver=v) (hv63:v+1<9223372036854775808) (ST:dV K n D.fs v o ao) (h2:2≤n) (hr:D.root=rootOf o) (har:D.aroot=rootOf ao) (hts:∀ t∈D.ts.eraseIdx i,bJ D.fs (rootOf (ot t)) (ot t)∧t.root=rootOf (ot t)) (P:nK K n D.fs o t.cs (eJ D.fs.safe.length (dF ([o,ao]++(D.ts.eraseIdx i).map ot)))) :
  Calls Tryz.prog 26 #[.pointer (some ⟨D.d,0,none⟩),.int .i64 x] w fun e w'=>e=.returned (.int .i64 0)∧∃ D' g c lv' ts',aN w' 0 D'∧D' = { (D.drop i g c).made lv' (bQ o t.cs (eJ D.fs.safe.length (dF ([o,ao]++(D.ts.eraseIdx i).map ot)))).2 (v+1) (rootOf (bQ o t.cs (eJ D.fs.safe.length (dF ([o,ao]++(D.ts.eraseIdx i).map ot)))).1) with ts:=ts' }∧As (D.ts.eraseIdx i) t.cs ts'∧Fr (fpD D) w w'∧aJ w (fpD D) (fpD D'):=by
 refine(qFm D x i t w h hn hi ht hidx (fun z D'=>z=0∧∃ g c lv' ts',D' = { (D.drop i g c).made lv' (bQ o t.cs (eJ D.fs.safe.length (dF ([o,ao]++(D.ts.eraseIdx i).map ot)))).2 (v+1) (rootOf (bQ o t.cs (eJ D.fs.safe.length (dF ([o,ao]++(D.ts.eraseIdx i).map ot)))).1) with ts:=ts' }∧As (D.ts.eraseIdx i) t.cs ts') (fun X g c hov hD hT=>?_)).mono ?_
 ·have hap:∀ y∈D.ts.eraseIdx i,qG y t:=fun y hy=>by
   obtain⟨k,hk,hne',rfl⟩:=List.mem_eraseIdx_iff_getElem.1 hy
   rw [← ht]
   exact Aj h.apart hk hi hne'
  have hlen:(D.ts.eraseIdx i).length≤1000:=by rw [List.length_eraseIdx];split<;>omega
  refine(Sj (K:=K) (n:=n) (D.drop i g c) 1 v o ao ot t X hD hT hap hne hks hcn hw hfd hv hv63 hlen ST h2 hr har hts P).mono ?_
  rintro e w' ⟨rfl,lv',ts',hD',hL,hF,hG⟩
  exact⟨0,_,rfl,hD',rfl,hF,hG,rfl,g,c,lv',ts',rfl,hL⟩
 ·rintro e w' ⟨z,D',rfl,hD',hd,hF,hG,rfl,g,c,lv',ts',he,hL⟩
  exact⟨rfl,D',g,c,lv',ts',hD',he,hL,hF,hG⟩
theorem qBq (D:Db) (x:Int) (i:Nat) (t:Tx) (w:World) (h:aN w 0 D) (hn:D.ts.length≤1000) (hi:i<D.ts.length) (ht:D.ts[i]=t) (hidx:mU D.ts x=i) (hcn:t.cs.length≤1000) (z:Int) (hz:(t.cs=[]∧z=0)∨(0<t.cs.length∧(∃ c∈t.cs,c.key∈t.ks)∧z=7)) :
  Calls Tryz.prog 26 #[.pointer (some ⟨D.d,0,none⟩),.int .i64 x] w fun e w'=>e=.returned (.int .i64 z)∧∃ g c,aN w' 0 (D.drop i g c)∧Fr (fpD D) w w'∧aJ w (fpD D) (fpD (D.drop i g c)):=by
 refine(qFm D x i t w h hn hi ht hidx (fun z' D'=>z'=z∧∃ g c,D'=D.drop i g c) (fun X g c hov hD hT=>?_)).mono ?_
 ·have hB:Calls Tryz.prog 51 #[.pointer (some ⟨D.d,0,none⟩),.pointer (some ⟨t.b,0,none⟩)] X fun e w'=>e=.returned (.int .i64 z)∧Below X.heap.size X w':=by
   rcases hz with⟨h1,rfl⟩|⟨h1,h2,rfl⟩
   ·refine(zK D.d D.β t X hT h1).mono ?_
    rintro e w' ⟨rfl,rfl⟩
    exact⟨rfl,Below.refl _ _⟩
   ·exact Oo D.d D.β t X hT h1 hcn h2
  refine hB.mono ?_
  rintro e w' ⟨rfl,hb⟩
  exact⟨z,D.drop i g c,rfl,hD.on (vV hb hD.lies),rfl,Fr.of_below hb,fun k hk=>.inl hk,rfl,g,c,rfl⟩
 ·rintro e w' ⟨z',D',rfl,hD',hd,hF,hG,rfl,g,c,rfl⟩
  exact⟨rfl,g,c,hD',hF,hG⟩
structure Ut where
 x:Int
 wr:Bool
 ot:Option (Nat×T)
 cs:List Ch
 ks:ByteArray→Prop
structure UOk (K:List ByteArray) (fs:Fs) (t:Tx) (u:Ut):Prop where
 num:t.num=u.x
 wr:t.wr=u.wr
 root:t.root=rootOf u.ot
 cs:t.cs=u.cs
 ks:t.wr=true→∀ y,y∈t.ks↔u.ks y
 tr:Tr K fs u.ot
structure Us (K:List ByteArray) (D:Db) (us:List Ut):Prop where
 len:D.ts.length=us.length
 each:∀ i (h:i<D.ts.length) (h':i<us.length),UOk K D.fs D.ts[i] us[i]
 rise:us.Pairwise (fun a b=>a.x<b.x)
 le:∀ u∈us,u.x≤D.last
theorem Us.idx {us:List Ut} (h:Us K D us)  {u:Ut} (hi:us[i]?=some u):∃ hi:i<D.ts.length,mU D.ts u.x=i∧UOk K D.fs D.ts[i] u:=by
 obtain⟨h1,rfl⟩:=List.getElem?_eq_some_iff.1 hi
 have h2:i<D.ts.length:=by rw [h.len];exact h1
 refine⟨h2,kL h2 (by simp [(h.each i h2 h1).num]) (fun m hm hlt=>?_),h.each i h2 h1⟩
 have hm':m<us.length:=by rw [← h.len];exact hm
 have:=List.pairwise_iff_getElem.1 h.rise m i hm' h1 hlt
 rw [(h.each m hm hm').num]
 simp;omega
theorem Us.set {us:List Ut} (h:Us K D us)  {u u':Ut} (hi:us[i]?=some u) (hx:u'.x=u.x) {t':Tx} (ht:UOk K D.fs t' u'):Us K { D with ts:=D.ts.set i t' } (us.set i u'):=by
 obtain⟨h1,rfl⟩:=List.getElem?_eq_some_iff.1 hi
 refine⟨by simp [h.len],fun k hk hk'=>?_,?_,fun v hv=>?_⟩
 ·simp only [List.length_set] at hk hk'
  simp only [List.getElem_set]
  split
  ·exact ht
  ·exact h.each k hk hk'
 ·refine List.pairwise_iff_getElem.2 (fun a b ha hb hab=>?_)
  simp only [List.length_set] at ha hb
  have hr:=List.pairwise_iff_getElem.1 h.rise a b ha hb hab
  simp only [List.getElem_set]
  split
  ·next e=>subst e;rw [if_neg (by omega),hx];exact hr
  ·split
   ·next e=>subst e;rw [hx];exact hr
   ·exact hr
 ·rcases List.mem_or_eq_of_mem_set hv with h'|rfl
  ·exact h.le v h'
  ·rw [hx];exact h.le _ (List.getElem_mem h1)
def SkG (K:List ByteArray) (n:Nat) (Kp:Bl) (w wq:World) (d b j m:Nat) (z:Int) (o ao:Option (Nat×T)) (us:List Ut):Prop:=∃ D,Sk K n Kp w wq D j m o ao∧Us K D us∧D.last=z∧D.d=d∧D.β=b
theorem SkG.step {w wq w':World}    {us:List Ut} (h:SkG K n Kp w wq d b j m z o ao us) (hb:Below wq.heap.size wq w'):SkG K n Kp w w' d b j m z o ao us:=by
 obtain⟨D,h,r⟩:=h
 exact⟨D,⟨h.db.on (vV hb h.db.lies),h.well,h.failed,h.ver,h.root,h.aroot,h.last0,h.last1,h.store,h.new,h.kept.trans (vV hb (fun k hk=>jY (h.lies k hk) h.kept.size)),h.lies⟩,r⟩
theorem SkG.sure {us:List Ut} (h:SkG K n Kp w wq d b j m z o ao us):∃ fs,bJ fs (rootOf o) o∧gS o:=by
 obtain⟨D,h,_⟩:=h
 exact⟨D.fs,h.store.sure.rooted,h.store.sure.flat⟩
theorem Uq {us:List Ut} (h:SkG K n Kp w wq d b j m z o ao us) (wr:Bool) (hm:m≤1000000) (hu:us.length<8) :
  Calls Tryz.prog 18 #[.pointer (some ⟨d,0,none⟩),.bool wr] wq fun e w'=>e=.returned (.tuple #[.int .i64 (z+1),.int .i64 0])∧SkG K n Kp w w' d b j (m+1) (z+1) o ao (us++[⟨z+1,wr,o,[],fun _=>False⟩]):=by
 obtain⟨D,h,hU,rfl,rfl,rfl⟩:=h
 have h1:=h.last0
 have h2:=h.last1
 refine(xT D wr wq h.db (by rw [hU.len];exact hu) h1 (by omega)).mono ?_
 rintro e w' ⟨rfl,b,ov',hD,hF,hb,hov⟩
 have hs:=h.kept.size
 refine⟨rfl,_,⟨hD,h.well,h.failed,h.ver,h.root,h.aroot,by show 0≤D.last+1;omega,by show D.last+1≤((m+1:Nat):Int);omega,h.store,?_,h.on hF h.new,h.lies⟩,⟨by simp [hU.len],fun i hi hi'=>?_,?_,fun u hu'=>?_⟩,rfl,rfl,rfl⟩
 ·rintro k (hk|hk|hk|⟨y,hy,hk⟩) hp
  ·exact h.new k (.inl hk) hp
  ·exact h.new k (.inr (.inl hk)) hp
  ·rcases hov k hk with h'|h'
   ·exact h.new k (.inr (.inr (.inl h'))) hp
   ·have:=h.lies k hp;omega
  ·rcases List.mem_append.1 hy with hy|hy
   ·exact h.new k (.inr (.inr (.inr ⟨y,hy,hk⟩))) hp
   ·rw [List.mem_singleton] at hy
    subst hy
    have:=rG hk
    have:=h.lies k hp
    omega
 ·show UOk K D.fs (D.ts++[Cm b (D.last+1) wr D.root])[i] _
  rcases Nat.lt_or_ge i D.ts.length with hlt|hge
  ·rw [List.getElem_append_left hlt,List.getElem_append_left (by rw [← hU.len];exact hlt)]
   exact hU.each i hlt _
  ·have hi2:i=D.ts.length:=by simp at hi;omega
   subst hi2
   rw [List.getElem_append_right (jU _),List.getElem_append_right (by rw [hU.len];exact jU _)]
   simp only [hU.len,Nat.sub_self,List.getElem_cons_zero]
   exact⟨rfl,rfl,h.root,rfl,fun _ y=>by simp,h.store.sure⟩
 ·refine List.pairwise_append.2 ⟨hU.rise,by simp,fun a ha c hc=>?_⟩
  rw [List.mem_singleton] at hc
  subst hc
  have:=hU.le a ha
  show a.x<D.last+1
  omega
 ·rcases List.mem_append.1 hu' with h'|h'
  ·have:=hU.le u h';show u.x≤D.last+1;omega
  ·rw [List.mem_singleton] at h';subst h';exact Int.le_refl _
theorem qEc {us:List Ut} (h:SkG K n Kp w wq d b j m z o ao us)  {u:Ut} (hu:us[i]?=some u) (h8:us.length≤8) (hw:u.wr=true) (key val:ByteArray) (hr:cI u.cs) (hn:u.cs.length≤1000) (hk1:1≤key.size) (hk2:key.size≤24) (hv:val.size≤400) :
  Calls Tryz.prog 23 #[.pointer (some ⟨d,0,none⟩),.int .i64 u.x,.string key,.string val] wq fun e w'=>e=.returned (.int .i64 0)∧SkG K n Kp w w' d b j m z o ao (us.set i { u with cs:=bM u.cs ⟨key,val,false⟩ }):=by
 obtain⟨D,h,hU,rfl,rfl,rfl⟩:=h
 obtain⟨hi,hidx,hk⟩:=hU.idx hu
 refine(Jj D u.x i D.ts[i] key val wq h.db (by rw [hU.len];omega) hi rfl hidx (by rw [hk.wr];exact hw) (by rw [hk.cs];exact hr) (by rw [hk.cs];exact hn) hk1 hk2 hv).mono ?_
 rintro e w' ⟨rfl,ca',cc',hD,hF,hG⟩
 exact⟨rfl,_,⟨hD,h.well,h.failed,h.ver,h.root,h.aroot,h.last0,h.last1,h.store,h.grows hG,h.on hF h.new,h.lies⟩,hU.set (u':={ u with cs:=bM u.cs ⟨key,val,false⟩ }) hu rfl ⟨hk.num,hk.wr,hk.root,by show bM _ _=_;rw [hk.cs],hk.ks,hk.tr⟩,rfl,rfl,rfl⟩
theorem qEh {us:List Ut} (h:SkG K n Kp w wq d b j m z o ao us)  {u:Ut} (hu:us[i]?=some u) (h8:us.length≤8) (hw:u.wr=true) (key:ByteArray) (hr:cI u.cs) (hn:u.cs.length≤1000) (hk1:1≤key.size) (hk2:key.size≤24) :
  Calls Tryz.prog 25 #[.pointer (some ⟨d,0,none⟩),.int .i64 u.x,.string key] wq fun e w'=>∃ y us',e=.returned (.int .i64 y)∧SkG K n Kp w w' d b j m z o ao us'∧((dZ u.ot u.cs key=true∧y=0∧us'=us.set i { u with cs:=bM u.cs ⟨key,⟨#[]⟩,true⟩ })∨(dZ u.ot u.cs key=false∧y=5∧us'=us)):=by
 obtain⟨D,h,hU,rfl,rfl,rfl⟩:=h
 obtain⟨hi,hidx,hk⟩:=hU.idx hu
 refine(uE D u.x i D.ts[i] u.ot key wq h.db (Fs.well_alive h.well) (by rw [hk.root];exact hk.tr.rooted) (by rw [hU.len];omega) hi rfl hidx (by rw [hk.wr];exact hw) (by rw [hk.cs];exact hr) (by rw [hk.cs];exact hn) hk1 hk2).mono ?_
 rintro e w' ⟨y,D',rfl,hD,hd,hF,hG,hR⟩
 rw [qDz,hk.cs] at hR
 rcases hR with⟨h1,h2,ca',cc',rfl⟩|⟨h1,h2,rfl⟩
 ·exact⟨y,_,rfl,⟨_,⟨hD,h.well,h.failed,h.ver,h.root,h.aroot,h.last0,h.last1,h.store,h.grows hG,h.on hF h.new,h.lies⟩,hU.set (u':={ u with cs:=bM u.cs ⟨key,⟨#[]⟩,true⟩ }) hu rfl ⟨hk.num,hk.wr,hk.root,rfl,hk.ks,hk.tr⟩,rfl,rfl,rfl⟩,.inl ⟨h1,h2,rfl⟩⟩
 ·exact⟨y,_,rfl,⟨_,⟨hD,h.well,h.failed,h.ver,h.root,h.aroot,h.last0,h.last1,h.store,h.new,h.on hF h.new,h.lies⟩,hU,rfl,rfl,rfl⟩,.inr ⟨h1,h2,rfl⟩⟩
def Ut.lose (cs:List Ch) (u:Ut):Ut:={ u with ks:=fun y=>u.ks y∨y∈cs.map (·.key) }
variable {us:List Ut}
theorem Nx {α:Type} {l:List α} {i k:Nat} (h:k<(l.eraseIdx i).length):∃ k',∃ h':k'<l.length,(l.eraseIdx i)[k]=l[k']∧k'=if k<i then k else k+1:=by
 have h0:=h
 rw [List.length_eraseIdx] at h0
 rcases Nat.lt_or_ge k i with hlt|hge
 ·refine⟨k,by split at h0<;>omega,?_,by rw [if_pos hlt]⟩
  rw [List.getElem_eraseIdx,dif_pos hlt]
 ·refine⟨k+1,by split at h0<;>omega,?_,by rw [if_neg (by omega)]⟩
  rw [List.getElem_eraseIdx,dif_neg (by omega)]
theorem Us.drop (h:Us K D us) (i g c:Nat):Us K (D.drop i g c) (us.eraseIdx i):=by
 refine⟨?_,fun k hk hk'=>?_,h.rise.sublist (List.eraseIdx_sublist _ _),fun u hu=>h.le u (List.mem_of_mem_eraseIdx hu)⟩
 ·show (D.ts.eraseIdx i).length=_
  rw [List.length_eraseIdx,List.length_eraseIdx,h.len]
 ·show UOk K D.fs (D.ts.eraseIdx i)[k] (us.eraseIdx i)[k]
  obtain⟨a,ha,e1,e2⟩:=Nx (l:=D.ts) (i:=i) hk
  obtain⟨b,hb,e3,e4⟩:=Nx (l:=us) (i:=i) hk'
  obtain rfl:a=b:=e2.trans e4.symm
  rw [e1,e3]
  exact h.each a ha hb
theorem Us.lost {D D':Db}  {cs:List Ch} {ts':List Tx} (h:Us K D us) (hL:As D.ts cs ts') (hts:D'.ts=ts') (hl:D'.last=D.last) (hst:∀ u∈us,Tr K D'.fs u.ot):Us K D' (us.map (Ut.lose cs)):=by
 refine⟨by rw [hts,hL.len,h.len,List.length_map],fun k hk hk'=>?_,?_,fun u hu=>?_⟩
 ·have h1:k<D.ts.length:=by rw [hts,hL.len] at hk;exact hk
  have h2:k<us.length:=by rwa [List.length_map] at hk'
  have e:=h.each k h1 h2
  obtain⟨tk,ks,ht,hy⟩:=hL.each k h1
  have ht':D'.ts[k] = { D.ts[k] with tk:=tk,ks:=ks }:=by
   have:D'.ts[k]=ts'[k]'(by rw [hL.len];exact h1):=by simp [hts]
   rw [this,ht]
  rw [List.getElem_map]
  refine⟨by rw [ht'];exact e.num,by rw [ht'];exact e.wr,by rw [ht'];exact e.root,by rw [ht'];exact e.cs,fun hw y=>?_,show Tr K D'.fs (us[k]).ot from hst _ (List.getElem_mem h2)⟩
  rw [ht'] at hw
  have hw':D.ts[k].wr=true:=hw
  rw [ht']
  show y∈ks↔_
  rw [hy hw' y,e.ks hw' y]
  exact Iff.rfl
 ·exact List.pairwise_map.2 h.rise
 ·obtain⟨v,hv,rfl⟩:=List.mem_map.1 hu
  rw [hl]
  exact h.le v hv
def Fb (us:List Ut) (t:Tx):Option (Nat×T):=((us.find? (fun u=>u.x==t.num)).map (·.ot)).getD none
theorem Ti (h:Us K D us) (k:Nat) (hk:k<D.ts.length) (hk':k<us.length):Fb us D.ts[k]=us[k].ot:=by
 have hf:us.find? (fun u=>u.x==D.ts[k].num)=some us[k]:=by
  rw [List.find?_eq_some_iff_getElem]
  refine⟨by simp [(h.each k hk hk').num],k,hk',rfl,fun a ha=>?_⟩
  have:=List.pairwise_iff_getElem.1 h.rise a k (by omega) hk' ha
  rw [(h.each k hk hk').num]
  simp;omega
 rw [Fb,hf];rfl
theorem Zv (h:Us K D us):D.ts.map (Fb us)=us.map (·.ot):=by
 apply List.ext_getElem
 ·simp [h.len]
 ·intro k h1 h2
  simp only [List.length_map] at h1 h2
  rw [List.getElem_map,List.getElem_map]
  exact Ti h k h1 h2
theorem qFk (h:SkG K n Kp w wq d b j m z o ao us)  {u:Ut} (hu:us[i]?=some u) (h8:us.length≤8) (hn:u.cs.length≤1000) (y:Int) (hy:(u.cs=[]∧y=0)∨(u.wr=true∧0<u.cs.length∧(∃ c∈u.cs,u.ks c.key)∧y=7)) :
  Calls Tryz.prog 26 #[.pointer (some ⟨d,0,none⟩),.int .i64 u.x] wq fun e w'=>e=.returned (.int .i64 y)∧SkG K n Kp w w' d b j m z o ao (us.eraseIdx i):=by
 obtain⟨D,h,hU,rfl,rfl,rfl⟩:=h
 obtain⟨hi,hidx,hk⟩:=hU.idx hu
 refine(qBq D u.x i D.ts[i] wq h.db (by rw [hU.len];omega) hi rfl hidx (by rw [hk.cs];exact hn) y (by
  rcases hy with⟨h1,h2⟩|⟨h0,h1,⟨c,hc,hck⟩,h2⟩
  ·exact .inl ⟨by rw [hk.cs];exact h1,h2⟩
  ·exact .inr ⟨by rw [hk.cs];exact h1,⟨c,by rw [hk.cs];exact hc,(hk.ks (by rw [hk.wr];exact h0) _).2 hck⟩,h2⟩)).mono ?_
 rintro e w' ⟨rfl,g,c,hD,hF,hG⟩
 exact⟨rfl,_,⟨hD,h.well,h.failed,h.ver,h.root,h.aroot,h.last0,h.last1,h.store,h.grows hG,h.on hF h.new,h.lies⟩,hU.drop i g c,rfl,rfl,rfl⟩
theorem qBp (hK:KOk K n) (h:SkG K n Kp w wq d b j m z o ao us)  {u:Ut} (hu:us[i]?=some u) (h8:us.length≤8) (hroom:(us.length+2) * (1+3 * K.length)+2≤n) (hc:lT K u.cs) (hne:0<u.cs.length) (hw:u.wr=true) (hks:∀ c∈u.cs,¬ u.ks c.key) (hj:j≤1000000) :
  Calls Tryz.prog 26 #[.pointer (some ⟨d,0,none⟩),.int .i64 u.x] wq fun e w'=>e=.returned (.int .i64 0)∧∃ o1,SkG K n Kp w w' d b (j+1) m z o1 o ((us.eraseIdx i).map (Ut.lose u.cs))∧(cQ o1).map En.kv=(bD (cQ o) u.cs).map En.kv:=by
 obtain⟨D,h,hU,rfl,rfl,rfl⟩:=h
 obtain⟨hi,hidx,hk⟩:=hU.idx hu
 have hUd:=hU.drop i 0 0
 have hmap:(D.ts.eraseIdx i).map (Fb (us.eraseIdx i))=(us.eraseIdx i).map (·.ot):=Zv hUd
 have htr:∀ v∈us.eraseIdx i,Tr K D.fs v.ot:=fun v hv=>by
  obtain⟨k,hk',rfl⟩:=List.getElem_of_mem hv
  exact(hUd.each k (by rw [hUd.len];exact hk') hk').tr
 have hos:∀ o'∈[o,ao]++(us.eraseIdx i).map (·.ot),Tr K D.fs o':=fun o' ho'=>by
  rcases List.mem_append.1 ho' with ho'|ho'
  ·rcases List.mem_cons.1 ho' with rfl|ho'
   ·exact h.store.sure
   ·rw [List.mem_singleton] at ho';subst ho';exact h.store.ahead
  ·obtain⟨v,hv,rfl⟩:=List.mem_map.1 ho'
   exact htr v hv
 have hlen:D.fs.safe.length=n:=h.store.len
 have hole:([o,ao]++(us.eraseIdx i).map (·.ot)).length+1≤us.length+2:=by
  have:=(List.getElem?_eq_some_iff.1 hu).1
  rw [jK,List.length_map,List.length_eraseIdx,if_pos this]
  simp;omega
 obtain⟨hP,haw⟩:=Ai (K:=K) (n:=n) (fs:=D.fs) (o:=o) (cs:=u.cs) (os:=[o,ao]++(us.eraseIdx i).map (·.ot)) hlen hK.small hos (by simp) hc.rise hc.good hc.keys hK.k24 hK.ksum (vJ (Nat.add_le_add_right (Nat.mul_le_mul_right _ hole) 2) hroom)
 have hP':nK K n D.fs o (D.ts[i]).cs (eJ D.fs.safe.length (dF ([o,ao]++(D.ts.eraseIdx i).map (Fb (us.eraseIdx i))))):=by rw [hmap,hlen,hk.cs];exact hP
 have hn40:=hK.n40
 obtain⟨c1,c2,c3,c4,c5⟩:=gM h.store hP (by omega) (by omega)
 have hts:∀ t∈D.ts.eraseIdx i,bJ D.fs (rootOf (Fb (us.eraseIdx i) t)) (Fb (us.eraseIdx i) t)∧t.root=rootOf (Fb (us.eraseIdx i) t):=fun t ht=>by
  obtain⟨k,hk',rfl⟩:=List.getElem_of_mem ht
  have hk2:k<(us.eraseIdx i).length:=by rw [← hUd.len];exact hk'
  have e:=Ti hUd k hk' hk2
  have e':Fb (us.eraseIdx i) (D.ts.eraseIdx i)[k]=((us.eraseIdx i)[k]).ot:=e
  rw [e']
  exact⟨(hUd.each k hk' hk2).tr.rooted,(hUd.each k hk' hk2).root⟩
 refine(qBo (K:=K) (n:=n) D u.x i D.ts[i] j o ao (Fb (us.eraseIdx i)) wq h.db (by rw [hU.len];omega) hi rfl hidx (by rw [hk.cs];exact hne) (fun c hcc hck=>hks c (by rw [← hk.cs];exact hcc) ((hk.ks (by rw [hk.wr];exact hw) _).1 hck)) (by rw [hk.cs];exact hc.len) h.well h.failed h.ver (by omega) h.store (by omega) h.root h.aroot hts hP').mono ?_
 rintro e w' ⟨rfl,D',g,c,lv',ts',hD,he,hL,hF,hG⟩
 rw [hmap,hlen,hk.cs] at he
 rw [hk.cs] at hL
 subst he
 refine⟨rfl,(bQ o u.cs (eJ n (dF ([o,ao]++(us.eraseIdx i).map (·.ot))))).1,⟨_,⟨hD,h.well,h.failed,rfl,rfl,h.root,h.last0,h.last1,c1,h.grows hG,h.on hF h.new,h.lies⟩,?_,rfl,rfl,rfl⟩,c4⟩
 refine Us.lost (hU.drop i g c) hL rfl rfl (fun v hv=>c5 v.ot (htr v hv) (haw v.ot ?_))
 exact List.mem_append_right _ (List.mem_map.2 ⟨v,hv,rfl⟩)
