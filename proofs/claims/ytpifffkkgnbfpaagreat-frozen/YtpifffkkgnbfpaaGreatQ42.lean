import Derived.Test.YtpifffkkgnbfpaaGreatQ41
import Derived.Test.YtpifffkkgnbfpaaGreatQ36
set_option linter.unusedSimpArgs false
set_option linter.unusedVariables false
set_option maxRecDepth 100000
set_option maxHeartbeats 8000000
namespace Go.Proofs.YtpifffkkgnbfpaaGreat.Tree
open Go.RowKit Pages
variable {D:Db} {K vs:List ByteArray} {Kp:Bl} {ao o:Option (Nat×T)} {b d i j m n q:Nat} {th:List Bool} {w w' wq:World} {z:Int}
theorem qAx (D:Db) (x:Int) (i:Nat) (t:Tx) (v:Nat) (o ao:Option (Nat×T)) (ot:Tx→Option (Nat×T)) (w:World) (h:aM w 0 D) (hn:D.ts.length≤1000) (hi:i<D.ts.length) (ht:D.ts[i]=t) (hidx:kS D.ts x=i) (hne:0<t.cs.length) (hks:∀ c∈t.cs,c.key ∉ t.ks) (hcn:t.cs.length≤1000) (hw:D.fs.well) (hfd:D.failed=false) (hv:D.ver=v) (hv63:v+1<9223372036854775808) (ST:lH K n D.fs v o ao) (h2:2≤n) (hr:D.root=rootOf o) (har:D.aroot=rootOf ao) (hts:∀ t∈D.ts.eraseIdx i,bI D.fs (rootOf (ot t)) (ot t)∧t.root=rootOf (ot t)) (P:rR K n D.fs o t.cs (fU D.fs.safe.length (dZ ([o,ao]++(D.ts.eraseIdx i).map ot)))) :
  Calls Tryz.prog 26 #[.pointer (some ⟨D.d,0,none⟩),.int .i64 x] w fun e w'=>e=.returned (.int .i64 0)∧∃ D' g c lv' ts',aM w' 0 D'∧D' = { (D.drop i g c).made lv' (cJ o t.cs (fU D.fs.safe.length (dZ ([o,ao]++(D.ts.eraseIdx i).map ot)))).2 (v+1) (rootOf (cJ o t.cs (fU D.fs.safe.length (dZ ([o,ao]++(D.ts.eraseIdx i).map ot)))).1) with ts:=ts' }∧Ag (D.ts.eraseIdx i) t.cs ts'∧Fr (fpD D) w w'∧aI w (fpD D) (fpD D'):=by
 refine(qEl D x i t w h hn hi ht hidx (fun z D'=>z=0∧∃ g c lv' ts',D' = { (D.drop i g c).made lv' (cJ o t.cs (fU D.fs.safe.length (dZ ([o,ao]++(D.ts.eraseIdx i).map ot)))).2 (v+1) (rootOf (cJ o t.cs (fU D.fs.safe.length (dZ ([o,ao]++(D.ts.eraseIdx i).map ot)))).1) with ts:=ts' }∧Ag (D.ts.eraseIdx i) t.cs ts') (fun X g c hov hD hT=>?_)).mono ?_
 ·have hap:∀ y∈D.ts.eraseIdx i,qC y t:=fun y hy=>by
   obtain⟨k,hk,hne',rfl⟩:=List.mem_eraseIdx_iff_getElem.1 hy
   rw [← ht]
   exact zQ h.apart hk hi hne'
  have hlen:(D.ts.eraseIdx i).length≤1000:=by rw [List.length_eraseIdx];split<;>omega
  refine(Rq (K:=K) (n:=n) (D.drop i g c) 1 v o ao ot t X hD hT hap hne hks hcn hw hfd hv hv63 hlen ST h2 hr har hts P).mono ?_
  rintro e w' ⟨rfl,lv',ts',hD',hL,hF,hG⟩
  exact⟨0,_,rfl,hD',rfl,hF,hG,rfl,g,c,lv',ts',rfl,hL⟩
 ·rintro e w' ⟨z,D',rfl,hD',hd,hF,hG,rfl,g,c,lv',ts',he,hL⟩
  exact⟨rfl,D',g,c,lv',ts',hD',he,hL,hF,hG⟩
theorem qAz (D:Db) (x:Int) (i:Nat) (t:Tx) (w:World) (h:aM w 0 D) (hn:D.ts.length≤1000) (hi:i<D.ts.length) (ht:D.ts[i]=t) (hidx:kS D.ts x=i) (hcn:t.cs.length≤1000) (z:Int) (hz:(t.cs=[]∧z=0)∨(0<t.cs.length∧(∃ c∈t.cs,c.key∈t.ks)∧z=7)) :
  Calls Tryz.prog 26 #[.pointer (some ⟨D.d,0,none⟩),.int .i64 x] w fun e w'=>e=.returned (.int .i64 z)∧∃ g c,aM w' 0 (D.drop i g c)∧Fr (fpD D) w w'∧aI w (fpD D) (fpD (D.drop i g c)):=by
 refine(qEl D x i t w h hn hi ht hidx (fun z' D'=>z'=z∧∃ g c,D'=D.drop i g c) (fun X g c hov hD hT=>?_)).mono ?_
 ·have hB:Calls Tryz.prog 51 #[.pointer (some ⟨D.d,0,none⟩),.pointer (some ⟨t.b,0,none⟩)] X fun e w'=>e=.returned (.int .i64 z)∧Below X.heap.size X w':=by
   rcases hz with⟨h1,rfl⟩|⟨h1,h2,rfl⟩
   ·refine(yP D.d D.β t X hT h1).mono ?_
    rintro e w' ⟨rfl,rfl⟩
    exact⟨rfl,Below.refl _ _⟩
   ·exact Nv D.d D.β t X hT h1 hcn h2
  refine hB.mono ?_
  rintro e w' ⟨rfl,hb⟩
  exact⟨z,D.drop i g c,rfl,hD.on (vV hb hD.lies),rfl,Fr.of_below hb,fun k hk=>.inl hk,rfl,g,c,rfl⟩
 ·rintro e w' ⟨z',D',rfl,hD',hd,hF,hG,rfl,g,c,rfl⟩
  exact⟨rfl,g,c,hD',hF,hG⟩
structure Ut where
 x:Int
 wr:Bool
 ot:Option (Nat×T)
 cs:List Ch
 ks:ByteArray→Prop
structure UOk (K:List ByteArray) (fs:Fs) (t:Tx) (u:Ut):Prop where
 num:t.num=u.x
 wr:t.wr=u.wr
 root:t.root=rootOf u.ot
 cs:t.cs=u.cs
 ks:t.wr=true→∀ y,y∈t.ks↔u.ks y
 tr:Tr K fs u.ot
structure Us (K:List ByteArray) (D:Db) (us:List Ut):Prop where
 len:D.ts.length=us.length
 each:∀ i (h:i<D.ts.length) (h':i<us.length),UOk K D.fs D.ts[i] us[i]
 rise:us.Pairwise (fun a b=>a.x<b.x)
 le:∀ u∈us,u.x≤D.last
theorem Us.idx {us:List Ut} (h:Us K D us)  {u:Ut} (hi:us[i]?=some u):∃ hi:i<D.ts.length,kS D.ts u.x=i∧UOk K D.fs D.ts[i] u:=by
 obtain⟨h1,rfl⟩:=List.getElem?_eq_some_iff.1 hi
 have h2:i<D.ts.length:=by rw [h.len];exact h1
 refine⟨h2,iQ h2 (by simp [(h.each i h2 h1).num]) (fun m hm hlt=>?_),h.each i h2 h1⟩
 have hm':m<us.length:=by rw [← h.len];exact hm
 have:=List.pairwise_iff_getElem.1 h.rise m i hm' h1 hlt
 rw [(h.each m hm hm').num]
 simp;omega
theorem Us.set {us:List Ut} (h:Us K D us)  {u u':Ut} (hi:us[i]?=some u) (hx:u'.x=u.x) {t':Tx} (ht:UOk K D.fs t' u'):Us K { D with ts:=D.ts.set i t' } (us.set i u'):=by
 obtain⟨h1,rfl⟩:=List.getElem?_eq_some_iff.1 hi
 refine⟨by simp [h.len],fun k hk hk'=>?_,?_,fun v hv=>?_⟩
 ·simp only [List.length_set] at hk hk'
  simp only [List.getElem_set]
  split
  ·exact ht
  ·exact h.each k hk hk'
 ·refine List.pairwise_iff_getElem.2 (fun a b ha hb hab=>?_)
  simp only [List.length_set] at ha hb
  have hr:=List.pairwise_iff_getElem.1 h.rise a b ha hb hab
  simp only [List.getElem_set]
  split
  ·next e=>subst e;rw [if_neg (by omega),hx];exact hr
  ·split
   ·next e=>subst e;rw [hx];exact hr
   ·exact hr
 ·rcases List.mem_or_eq_of_mem_set hv with h'|rfl
  ·exact h.le v h'
  ·rw [hx];exact h.le _ (List.getElem_mem h1)
def SkG (K:List ByteArray) (n:Nat) (Kp:Bl) (w wq:World) (d b j m:Nat) (z:Int) (o ao:Option (Nat×T)) (us:List Ut):Prop:=∃ D,Sk K n Kp w wq D j m o ao∧Us K D us∧D.last=z∧D.d=d∧D.β=b
theorem SkG.step {us:List Ut} (h:SkG K n Kp w wq d b j m z o ao us) (hb:Below wq.heap.size wq w'):SkG K n Kp w w' d b j m z o ao us:=by
 obtain⟨D,h,r⟩:=h
 exact⟨D,⟨h.db.on (vV hb h.db.lies),h.well,h.failed,h.ver,h.root,h.aroot,h.last0,h.last1,h.store,h.new,h.kept.trans (vV hb (fun k hk=>jY (h.lies k hk) h.kept.size)),h.lies⟩,r⟩
theorem SkG.now {us:List Ut} (h:SkG K n Kp w wq d b j m z o ao us):SkG K n Kp wq wq d b j m z o ao us:=by
 obtain⟨D,h,r⟩:=h
 exact⟨D,h.now,r⟩
theorem SkG.kept {us:List Ut} (h:SkG K n Kp w wq d b j m z o ao us):On Kp w wq:=by
 obtain⟨D,h,_⟩:=h
 exact h.kept
theorem SkG.below {us:List Ut} (h:SkG K n Kp w wq d b j m z o ao us):∀ k,Kp k→k<w.heap.size:=by
 obtain⟨D,h,_⟩:=h
 exact h.lies
theorem SkG.lies {us:List Ut} (h:SkG K n Kp w wq d b j m z o ao us):d<wq.heap.size:=by
 obtain⟨D,h,_,_,rfl,_⟩:=h
 exact(gL h.db.box)
theorem SkG.make {us:List Ut} (h:SkG K n Kp w wq d b j m z o ao us) (ob:Obj):SkG K n (Bl.or Kp (Bl.one wq.heap.size)) (wq.alloc ob) (wq.alloc ob) d b j m z o ao us:=by
 obtain⟨D,h,r⟩:=h
 exact⟨D,h.make ob,r⟩
theorem SkG.less {Kp Kq:Bl}     {us:List Ut} (h:SkG K n Kp w wq d b j m z o ao us) (w0:World) (hs:∀ k,Kq k→Kp k) (ho:On Kq w0 w) (hl:∀ k,Kq k→k<w0.heap.size):SkG K n Kq w0 wq d b j m z o ao us:=by
 obtain⟨D,h,r⟩:=h
 exact⟨D,h.less w0 hs ho hl,r⟩
theorem SkG.touch {us:List Ut} (h:SkG K n Kp w wq d b j m z o ao us)  (hF:Fr (Bl.one q) wq w') (hq:Kp q):SkG K n Kp w' w' d b j m z o ao us:=by
 obtain⟨D,h,r⟩:=h
 exact⟨D,h.touch hF hq,r⟩
theorem SkG.rooted {us:List Ut} (h:SkG K n Kp w wq d b j m z o ao us)  {u:Ut} (hu:us[i]?=some u):∃ fs,bI fs (rootOf u.ot) u.ot∧fW u.ot:=by
 obtain⟨D,_,hU,_⟩:=h
 obtain⟨_,_,hk⟩:=hU.idx hu
 exact⟨D.fs,hk.tr.rooted,hk.tr.flat⟩
theorem SkG.sure {us:List Ut} (h:SkG K n Kp w wq d b j m z o ao us):∃ fs,bI fs (rootOf o) o∧fW o:=by
 obtain⟨D,h,_⟩:=h
 exact⟨D.fs,h.store.sure.rooted,h.store.sure.flat⟩
theorem Jp {us:List Ut} (h:SkG K n Kp w wq d b j m z o ao us) (wr:Bool) (hm:m≤1000000) (hu:us.length<8) :
  Calls Tryz.prog 18 #[.pointer (some ⟨d,0,none⟩),.bool wr] wq fun e w'=>e=.returned (.tuple #[.int .i64 (z+1),.int .i64 0])∧SkG K n Kp w w' d b j (m+1) (z+1) o ao (us++[⟨z+1,wr,o,[],fun _=>False⟩]):=by
 obtain⟨D,h,hU,rfl,rfl,rfl⟩:=h
 have h1:=h.last0
 have h2:=h.last1
 refine(Hy D wr wq h.db (by rw [hU.len];exact hu) h1 (by omega)).mono ?_
 rintro e w' ⟨rfl,b,ov',hD,hF,hb,hov⟩
 have hs:=h.kept.size
 refine⟨rfl,_,⟨hD,h.well,h.failed,h.ver,h.root,h.aroot,by show 0≤D.last+1;omega,by show D.last+1≤((m+1:Nat):Int);omega,h.store,?_,h.on hF h.new,h.lies⟩,⟨by simp [hU.len],fun i hi hi'=>?_,?_,fun u hu'=>?_⟩,rfl,rfl,rfl⟩
 ·rintro k (hk|hk|hk|⟨y,hy,hk⟩) hp
  ·exact h.new k (.inl hk) hp
  ·exact h.new k (.inr (.inl hk)) hp
  ·rcases hov k hk with h'|h'
   ·exact h.new k (.inr (.inr (.inl h'))) hp
   ·have:=h.lies k hp;omega
  ·rcases List.mem_append.1 hy with hy|hy
   ·exact h.new k (.inr (.inr (.inr ⟨y,hy,hk⟩))) hp
   ·rw [List.mem_singleton] at hy
    subst hy
    have:=uR hk
    have:=h.lies k hp
    omega
 ·show UOk K D.fs (D.ts++[Ca b (D.last+1) wr D.root])[i] _
  rcases Nat.lt_or_ge i D.ts.length with hlt|hge
  ·rw [List.getElem_append_left hlt,List.getElem_append_left (by rw [← hU.len];exact hlt)]
   exact hU.each i hlt _
  ·have hi2:i=D.ts.length:=by simp at hi;omega
   subst hi2
   rw [List.getElem_append_right (jU _),List.getElem_append_right (by rw [hU.len];exact jU _)]
   simp only [hU.len,Nat.sub_self,List.getElem_cons_zero]
   exact⟨rfl,rfl,h.root,rfl,fun _ y=>by simp,h.store.sure⟩
 ·refine List.pairwise_append.2 ⟨hU.rise,by simp,fun a ha c hc=>?_⟩
  rw [List.mem_singleton] at hc
  subst hc
  have:=hU.le a ha
  show a.x<D.last+1
  omega
 ·rcases List.mem_append.1 hu' with h'|h'
  ·have:=hU.le u h';show u.x≤D.last+1;omega
  ·rw [List.mem_singleton] at h';subst h';exact Int.le_refl _
theorem qEx {us:List Ut} (h:SkG K n Kp w wq d b j m z o ao us)  {u:Ut} (hu:us[i]?=some u) (h8:us.length≤8) (hw:u.wr=true) (key val:ByteArray) (hr:cH u.cs) (hn:u.cs.length≤1000) (hk1:1≤key.size) (hk2:key.size≤24) (hv:val.size≤400) :
  Calls Tryz.prog 23 #[.pointer (some ⟨d,0,none⟩),.int .i64 u.x,.string key,.string val] wq fun e w'=>e=.returned (.int .i64 0)∧SkG K n Kp w w' d b j m z o ao (us.set i { u with cs:=cL u.cs ⟨key,val,false⟩ }):=by
 obtain⟨D,h,hU,rfl,rfl,rfl⟩:=h
 obtain⟨hi,hidx,hk⟩:=hU.idx hu
 refine(Sn D u.x i D.ts[i] key val wq h.db (by rw [hU.len];omega) hi rfl hidx (by rw [hk.wr];exact hw) (by rw [hk.cs];exact hr) (by rw [hk.cs];exact hn) hk1 hk2 hv).mono ?_
 rintro e w' ⟨rfl,ca',cc',hD,hF,hG⟩
 exact⟨rfl,_,⟨hD,h.well,h.failed,h.ver,h.root,h.aroot,h.last0,h.last1,h.store,h.grows hG,h.on hF h.new,h.lies⟩,hU.set (u':={ u with cs:=cL u.cs ⟨key,val,false⟩ }) hu rfl ⟨hk.num,hk.wr,hk.root,by show cL _ _=_;rw [hk.cs],hk.ks,hk.tr⟩,rfl,rfl,rfl⟩
theorem qDo {us:List Ut} (h:SkG K n Kp w wq d b j m z o ao us)  {u:Ut} (hu:us[i]?=some u) (h8:us.length≤8) (hw:u.wr=true) (key:ByteArray) (hr:cH u.cs) (hn:u.cs.length≤1000) (hk1:1≤key.size) (hk2:key.size≤24) :
  Calls Tryz.prog 25 #[.pointer (some ⟨d,0,none⟩),.int .i64 u.x,.string key] wq fun e w'=>∃ y us',e=.returned (.int .i64 y)∧SkG K n Kp w w' d b j m z o ao us'∧((gE u.ot u.cs key=true∧y=0∧us'=us.set i { u with cs:=cL u.cs ⟨key,⟨#[]⟩,true⟩ })∨(gE u.ot u.cs key=false∧y=5∧us'=us)):=by
 obtain⟨D,h,hU,rfl,rfl,rfl⟩:=h
 obtain⟨hi,hidx,hk⟩:=hU.idx hu
 refine(Dl D u.x i D.ts[i] u.ot key wq h.db (Fs.well_alive h.well) (by rw [hk.root];exact hk.tr.rooted) (by rw [hU.len];omega) hi rfl hidx (by rw [hk.wr];exact hw) (by rw [hk.cs];exact hr) (by rw [hk.cs];exact hn) hk1 hk2).mono ?_
 rintro e w' ⟨y,D',rfl,hD,hd,hF,hG,hR⟩
 rw [qDf,hk.cs] at hR
 rcases hR with⟨h1,h2,ca',cc',rfl⟩|⟨h1,h2,rfl⟩
 ·exact⟨y,_,rfl,⟨_,⟨hD,h.well,h.failed,h.ver,h.root,h.aroot,h.last0,h.last1,h.store,h.grows hG,h.on hF h.new,h.lies⟩,hU.set (u':={ u with cs:=cL u.cs ⟨key,⟨#[]⟩,true⟩ }) hu rfl ⟨hk.num,hk.wr,hk.root,rfl,hk.ks,hk.tr⟩,rfl,rfl,rfl⟩,.inl ⟨h1,h2,rfl⟩⟩
 ·exact⟨y,_,rfl,⟨_,⟨hD,h.well,h.failed,h.ver,h.root,h.aroot,h.last0,h.last1,h.store,h.new,h.on hF h.new,h.lies⟩,hU,rfl,rfl,rfl⟩,.inr ⟨h1,h2,rfl⟩⟩
theorem qDm {us:List Ut} (h:SkG K n Kp w wq d b j m z o ao us)  {u:Ut} (hu:us[i]?=some u) (h8:us.length≤8) (hc:kZ K u.cs) (key:ByteArray) (hk1:1≤key.size) (hk2:key.size≤24) :
  Calls Tryz.prog 30 #[.pointer (some ⟨d,0,none⟩),.int .i64 u.x,.string key] wq fun e w'=>∃ (v:ByteArray) (y:Int),e=.returned (.tuple #[.string v,.int .i64 y])∧SkG K n Kp w w' d b j m z o ao us∧Fr (Bl.one d) wq w'∧((gS u.ot u.cs key=none∧y=5∧v=⟨#[]⟩)∨∃ l,gS u.ot u.cs key=some l∧y=0∧v=⟨l.toArray⟩):=by
 obtain⟨D,h,hU,rfl,rfl,rfl⟩:=h
 obtain⟨hi,hidx,hk⟩:=hU.idx hu
 refine(Jc D u.x i D.ts[i] u.ot key wq h.db (Fs.well_alive h.well) (by rw [hk.root];exact hk.tr.rooted) hk.tr.flat (by rw [hU.len];omega) hi rfl hidx (by rw [hk.cs];exact hc.rise) (by rw [hk.cs];exact hc.good) (by rw [hk.cs];exact hc.len) hk1 hk2).mono ?_
 rintro e w' ⟨v,y,rfl,hD,hF,hR⟩
 rw [hk.cs] at hR
 exact⟨v,y,rfl,⟨D,⟨hD,h.well,h.failed,h.ver,h.root,h.aroot,h.last0,h.last1,h.store,h.new,h.on hF (fun k hk=>h.new k (.inl hk)),h.lies⟩,hU,rfl,rfl,rfl⟩,hF,hR⟩
theorem qDz {us:List Ut} (h:SkG K n Kp w wq d b j m z o ao us)  {u:Ut} (hu:us[i]?=some u) (h8:us.length≤8) (hc:kZ K u.cs) (q:Sp) (most:Nat) (hlo:q.lo.size≤24) (hhi:q.hi.size≤24) (hlt:(dP u.ot u.cs q).length<most) (hm:most≤1000000) :
  Calls Tryz.prog 28 #[.pointer (some ⟨d,0,none⟩),.int .i64 u.x,.string q.lo,.string q.hi,.int .i64 (most:Nat)] wq fun e w'=>∃ v,e=.returned (.tuple #[v,.int .i64 0])∧SkG K n Kp w w' d b j m z o ao us∧Fr (Bl.one d) wq w'∧w'.ownsRow 0 60 2 v (dP u.ot u.cs q).length (cT (dP u.ot u.cs q))∧∀ k,v.ownBlock=some k→wq.heap.size≤k:=by
 obtain⟨D,h,hU,rfl,rfl,rfl⟩:=h
 obtain⟨hi,hidx,hk⟩:=hU.idx hu
 have hcs:=hk.cs
 refine(Kv D u.x i D.ts[i] u.ot q most wq h.db (Fs.well_alive h.well) (by rw [hk.root];exact hk.tr.rooted) hk.tr.flat (by rw [hU.len];omega) hi rfl hidx (by rw [hk.cs];exact hc.rise) (by rw [hk.cs];exact hc.good) (by rw [hk.cs];exact hc.len) hlo hhi (by rw [hk.cs];exact hlt) hm).mono ?_
 rintro e w' ⟨v,rfl,hD,hF,hrow,hli⟩
 rw [hcs] at hrow
 exact⟨v,rfl,⟨D,⟨hD,h.well,h.failed,h.ver,h.root,h.aroot,h.last0,h.last1,h.store,h.new,h.on hF (fun k hk=>h.new k (.inl hk)),h.lies⟩,hU,rfl,rfl,rfl⟩,hF,hrow,hli⟩
theorem qDi {us:List Ut} (h:SkG K n Kp w wq d b j m z o ao us) :
  Calls Tryz.prog 17 #[.pointer (some ⟨d,0,none⟩)] wq fun e w'=>e=.returned (.int .i64 (j:Nat))∧SkG K n Kp w w' d b j m z o ao us:=by
 obtain⟨D,h,hU,rfl,rfl,rfl⟩:=h
 refine(Xp h).mono ?_
 rintro e w' ⟨rfl,h'⟩
 exact⟨rfl,D,h',hU,rfl,rfl,rfl⟩
def Ut.lose (cs:List Ch) (u:Ut):Ut:={ u with ks:=fun y=>u.ks y∨y∈cs.map (·.key) }
variable {u:Ut} {us:List Ut}
theorem Nh {α:Type} {l:List α} {i k:Nat} (h:k<(l.eraseIdx i).length):∃ k',∃ h':k'<l.length,(l.eraseIdx i)[k]=l[k']∧k'=if k<i then k else k+1:=by
 have h0:=h
 rw [List.length_eraseIdx] at h0
 rcases Nat.lt_or_ge k i with hlt|hge
 ·refine⟨k,by split at h0<;>omega,?_,by rw [if_pos hlt]⟩
  rw [List.getElem_eraseIdx,dif_pos hlt]
 ·refine⟨k+1,by split at h0<;>omega,?_,by rw [if_neg (by omega)]⟩
  rw [List.getElem_eraseIdx,dif_neg (by omega)]
theorem Us.drop (h:Us K D us) (i g c:Nat):Us K (D.drop i g c) (us.eraseIdx i):=by
 refine⟨?_,fun k hk hk'=>?_,h.rise.sublist (List.eraseIdx_sublist _ _),fun u hu=>h.le u (List.mem_of_mem_eraseIdx hu)⟩
 ·show (D.ts.eraseIdx i).length=_
  rw [List.length_eraseIdx,List.length_eraseIdx,h.len]
 ·show UOk K D.fs (D.ts.eraseIdx i)[k] (us.eraseIdx i)[k]
  obtain⟨a,ha,e1,e2⟩:=Nh (l:=D.ts) (i:=i) hk
  obtain⟨b,hb,e3,e4⟩:=Nh (l:=us) (i:=i) hk'
  obtain rfl:a=b:=e2.trans e4.symm
  rw [e1,e3]
  exact h.each a ha hb
theorem Us.lost {D D':Db}  {cs:List Ch} {ts':List Tx} (h:Us K D us) (hL:Ag D.ts cs ts') (hts:D'.ts=ts') (hl:D'.last=D.last) (hst:∀ u∈us,Tr K D'.fs u.ot):Us K D' (us.map (Ut.lose cs)):=by
 refine⟨by rw [hts,hL.len,h.len,List.length_map],fun k hk hk'=>?_,?_,fun u hu=>?_⟩
 ·have h1:k<D.ts.length:=by rw [hts,hL.len] at hk;exact hk
  have h2:k<us.length:=by rwa [List.length_map] at hk'
  have e:=h.each k h1 h2
  obtain⟨tk,ks,ht,hy⟩:=hL.each k h1
  have ht':D'.ts[k] = { D.ts[k] with tk:=tk,ks:=ks }:=by
   have:D'.ts[k]=ts'[k]'(by rw [hL.len];exact h1):=by simp [hts]
   rw [this,ht]
  rw [List.getElem_map]
  refine⟨by rw [ht'];exact e.num,by rw [ht'];exact e.wr,by rw [ht'];exact e.root,by rw [ht'];exact e.cs,fun hw y=>?_,show Tr K D'.fs (us[k]).ot from hst _ (List.getElem_mem h2)⟩
  rw [ht'] at hw
  have hw':D.ts[k].wr=true:=hw
  rw [ht']
  show y∈ks↔_
  rw [hy hw' y,e.ks hw' y]
  exact Iff.rfl
 ·exact List.pairwise_map.2 h.rise
 ·obtain⟨v,hv,rfl⟩:=List.mem_map.1 hu
  rw [hl]
  exact h.le v hv
def El (us:List Ut) (t:Tx):Option (Nat×T):=((us.find? (fun u=>u.x==t.num)).map (·.ot)).getD none
theorem Sq (h:Us K D us) (k:Nat) (hk:k<D.ts.length) (hk':k<us.length):El us D.ts[k]=us[k].ot:=by
 have hf:us.find? (fun u=>u.x==D.ts[k].num)=some us[k]:=by
  rw [List.find?_eq_some_iff_getElem]
  refine⟨by simp [(h.each k hk hk').num],k,hk',rfl,fun a ha=>?_⟩
  have:=List.pairwise_iff_getElem.1 h.rise a k (by omega) hk' ha
  rw [(h.each k hk hk').num]
  simp;omega
 rw [El,hf];rfl
theorem Yy (h:Us K D us):D.ts.map (El us)=us.map (·.ot):=by
 apply List.ext_getElem
 ·simp [h.len]
 ·intro k h1 h2
  simp only [List.length_map] at h1 h2
  rw [List.getElem_map,List.getElem_map]
  exact Sq h k h1 h2
theorem qAy (h:SkG K n Kp w wq d b j m z o ao us)   (hu:us[i]?=some u) (h8:us.length≤8) (hn:u.cs.length≤1000) (y:Int) (hy:(u.cs=[]∧y=0)∨(u.wr=true∧0<u.cs.length∧(∃ c∈u.cs,u.ks c.key)∧y=7)) :
  Calls Tryz.prog 26 #[.pointer (some ⟨d,0,none⟩),.int .i64 u.x] wq fun e w'=>e=.returned (.int .i64 y)∧SkG K n Kp w w' d b j m z o ao (us.eraseIdx i):=by
 obtain⟨D,h,hU,rfl,rfl,rfl⟩:=h
 obtain⟨hi,hidx,hk⟩:=hU.idx hu
 refine(qAz D u.x i D.ts[i] wq h.db (by rw [hU.len];omega) hi rfl hidx (by rw [hk.cs];exact hn) y (by
  rcases hy with⟨h1,h2⟩|⟨h0,h1,⟨c,hc,hck⟩,h2⟩
  ·exact .inl ⟨by rw [hk.cs];exact h1,h2⟩
  ·exact .inr ⟨by rw [hk.cs];exact h1,⟨c,by rw [hk.cs];exact hc,(hk.ks (by rw [hk.wr];exact h0) _).2 hck⟩,h2⟩)).mono ?_
 rintro e w' ⟨rfl,g,c,hD,hF,hG⟩
 exact⟨rfl,_,⟨hD,h.well,h.failed,h.ver,h.root,h.aroot,h.last0,h.last1,h.store,h.grows hG,h.on hF h.new,h.lies⟩,hU.drop i g c,rfl,rfl,rfl⟩
theorem qEk (hK:KOk K n) (h:SkG K n Kp w wq d b j m z o ao us)   (hu:us[i]?=some u) (h8:us.length≤8) (hroom:(us.length+2) * (1+3 * K.length)+2≤n) (hc:kZ K u.cs) (hne:0<u.cs.length) (hw:u.wr=true) (hks:∀ c∈u.cs,¬ u.ks c.key) (hj:j≤1000000) :
  Calls Tryz.prog 26 #[.pointer (some ⟨d,0,none⟩),.int .i64 u.x] wq fun e w'=>e=.returned (.int .i64 0)∧∃ o1,SkG K n Kp w w' d b (j+1) m z o1 o ((us.eraseIdx i).map (Ut.lose u.cs))∧(dD o1).map En.kv=(aX (dD o) u.cs).map En.kv:=by
 obtain⟨D,h,hU,rfl,rfl,rfl⟩:=h
 obtain⟨hi,hidx,hk⟩:=hU.idx hu
 have hUd:=hU.drop i 0 0
 have hmap:(D.ts.eraseIdx i).map (El (us.eraseIdx i))=(us.eraseIdx i).map (·.ot):=Yy hUd
 have htr:∀ v∈us.eraseIdx i,Tr K D.fs v.ot:=fun v hv=>by
  obtain⟨k,hk',rfl⟩:=List.getElem_of_mem hv
  exact(hUd.each k (by rw [hUd.len];exact hk') hk').tr
 have hos:∀ o'∈[o,ao]++(us.eraseIdx i).map (·.ot),Tr K D.fs o':=fun o' ho'=>by
  rcases List.mem_append.1 ho' with ho'|ho'
  ·rcases List.mem_cons.1 ho' with rfl|ho'
   ·exact h.store.sure
   ·rw [List.mem_singleton] at ho';subst ho';exact h.store.ahead
  ·obtain⟨v,hv,rfl⟩:=List.mem_map.1 ho'
   exact htr v hv
 have hlen:D.fs.safe.length=n:=h.store.len
 have hole:([o,ao]++(us.eraseIdx i).map (·.ot)).length+1≤us.length+2:=by
  have:=(List.getElem?_eq_some_iff.1 hu).1
  rw [jK,List.length_map,List.length_eraseIdx,if_pos this]
  simp;omega
 obtain⟨hP,haw⟩:=So (K:=K) (n:=n) (fs:=D.fs) (o:=o) (cs:=u.cs) (os:=[o,ao]++(us.eraseIdx i).map (·.ot)) hlen hK.small hos (by simp) hc.rise hc.good hc.keys hK.k24 hK.ksum (vJ (Nat.add_le_add_right (Nat.mul_le_mul_right _ hole) 2) hroom)
 have hP':rR K n D.fs o (D.ts[i]).cs (fU D.fs.safe.length (dZ ([o,ao]++(D.ts.eraseIdx i).map (El (us.eraseIdx i))))):=by rw [hmap,hlen,hk.cs];exact hP
 have hn40:=hK.n40
 obtain⟨c1,c2,c3,c4,c5⟩:=qA h.store hP (by omega) (by omega)
 have hts:∀ t∈D.ts.eraseIdx i,bI D.fs (rootOf (El (us.eraseIdx i) t)) (El (us.eraseIdx i) t)∧t.root=rootOf (El (us.eraseIdx i) t):=fun t ht=>by
  obtain⟨k,hk',rfl⟩:=List.getElem_of_mem ht
  have hk2:k<(us.eraseIdx i).length:=by rw [← hUd.len];exact hk'
  have e:=Sq hUd k hk' hk2
  have e':El (us.eraseIdx i) (D.ts.eraseIdx i)[k]=((us.eraseIdx i)[k]).ot:=e
  rw [e']
  exact⟨(hUd.each k hk' hk2).tr.rooted,(hUd.each k hk' hk2).root⟩
 refine(qAx (K:=K) (n:=n) D u.x i D.ts[i] j o ao (El (us.eraseIdx i)) wq h.db (by rw [hU.len];omega) hi rfl hidx (by rw [hk.cs];exact hne) (fun c hcc hck=>hks c (by rw [← hk.cs];exact hcc) ((hk.ks (by rw [hk.wr];exact hw) _).1 hck)) (by rw [hk.cs];exact hc.len) h.well h.failed h.ver (by omega) h.store (by omega) h.root h.aroot hts hP').mono ?_
 rintro e w' ⟨rfl,D',g,c,lv',ts',hD,he,hL,hF,hG⟩
 rw [hmap,hlen,hk.cs] at he
 rw [hk.cs] at hL
 subst he
 refine⟨rfl,(cJ o u.cs (fU n (dZ ([o,ao]++(us.eraseIdx i).map (·.ot))))).1,⟨_,⟨hD,h.well,h.failed,rfl,rfl,h.root,h.last0,h.last1,c1,h.grows hG,h.on hF h.new,h.lies⟩,?_,rfl,rfl,rfl⟩,c4⟩
 refine Us.lost (hU.drop i g c) hL rfl rfl (fun v hv=>c5 v.ot (htr v hv) (haw v.ot ?_))
 exact List.mem_append_right _ (List.mem_map.2 ⟨v,hv,rfl⟩)
theorem SkG.poke (h:SkG K n Kp w wq d b j m z o ao us) (p:Addr) (hp:Kp p.block) (v:Value):SkG K n Kp (wq.setCell p v) (wq.setCell p v) d b j m z o ao us:=by
 obtain⟨D,h,r⟩:=h
 exact⟨D,h.poke p hp v,r⟩
structure qI (n:Nat) (Kp:Bl) (wq:World) (d b j m:Nat) (z:Int) (o ao:Option (Nat×T)) (us:List Ut) (i:Nat) (u:Ut) (q:Nat) (th:List Bool) (vs:List ByteArray):Prop where
 st:SkG aU n Kp wq wq d b j m z o ao us
 at':us[i]?=some u
 h8:us.length≤8
 wr:u.wr=true
 ok:kZ aU u.cs
 book:bG wq q th vs
 own:Kp q
 told:Told (aX (dD u.ot) u.cs) th vs
theorem Xy {u v:Ut} (h:us[i]?=some u):(us.set i v)[i]?=some v:=by
 obtain⟨h1,_⟩:=List.getElem?_eq_some_iff.1 h
 simp [h1]
theorem Ko (h:us[i]?=some u):us.set i u=us:=by
 obtain⟨h1,rfl⟩:=List.getElem?_eq_some_iff.1 h
 exact List.set_getElem_self h1
theorem qI.found (h:qI n Kp wq d b j m z o ao us i u q th vs) (k:Nat) (hk:k<12):gE u.ot u.cs (aU[k]'hk)=th[k]'(by have:=h.told.lt;omega):=by
 obtain⟨fs,h1,h2⟩:=h.st.rooted h.at'
 rw [Cz h1 h2 h.ok.rise h.ok.good]
 unfold gS
 rw [h.told.tells k hk]
 cases th[k]'(by have:=h.told.lt;omega)<;>rfl
def qDg (n:Nat) (Kp:Bl) (wq w':World) (d b j m:Nat) (z:Int) (o ao:Option (Nat×T)) (us:List Ut) (i:Nat) (u:Ut) (q:Nat):Prop:=∃ us' u' th' vs',qI n Kp w' d b j m z o ao us' i u' q th' vs'∧us'=us.set i u'∧u'.x=u.x∧u'.ot=u.ot∧u'.ks=u.ks∧u'.cs.length≤u.cs.length+1∧On (fun k=>Kp k∧k≠q) wq w'
theorem qAp (h:qI n Kp wq d b j m z o ao us i u q th vs) (c:Int) (h0 : -9223372036854775808≤c) (h1:c≤9223372036854775807) (hl:u.cs.length<100) :
  Calls Tryz.prog 19 #[.pointer (some ⟨d,0,none⟩),.int .i64 u.x,.pointer (some ⟨q,0,none⟩),.int .i64 c] wq fun e w'=>e=.returned (.bool true)∧qDg n Kp wq w' d b j m z o ao us i u q:=by
 obtain⟨k,hk⟩:∃ k:Nat,iE c 12=k:=⟨(iE c 12).toNat,(Int.toNat_of_nonneg (dC c 12 (by omega)).1).symm⟩
 have hk12:k<12:=by have:=(dC c 12 (by omega)).2;omega
 have hki:(k:Int)<12:=by omega
 have hP1:Calls Tryz.prog 22 #[.int .i64 c,.int .i64 12] wq fun e w'=>e=.returned (.int .i64 k)∧w'=wq:=hk▸jH c 12 wq h0 h1 (by omega)
 obtain⟨g,hg⟩:=nM (iE (c.tdiv 12) 4)
 have hg0:0≤g:=hg▸(dC (c.tdiv 12) 4 (by omega)).1
 have hP2:Calls Tryz.prog 22 #[.int .i64 (c.tdiv 12),.int .i64 4] wq fun e w'=>e=.returned (.int .i64 g)∧w'=wq:=hg▸jH (c.tdiv 12) 4 wq (fK c 12 (by omega) h0 h1).1 (fK c 12 (by omega) h0 h1).2 (by omega)
 have hVl:=Ct (c.tdiv 48) wq (fK c 48 (by omega) h0 h1).1 (fK c 48 (by omega) h0 h1).2
 have HKey:Hid (∀ X,Calls Tryz.prog 24 #[.int .i64 (k:Nat)] X fun e w'=>e=.returned (.string (aU[k]'hk12))∧Below X.heap.size X w'):=fun X=>sH k hk12 X
 have H:Hid (qI n Kp wq d b j m z o ao us i u q th vs):=h
 have ks:=kE _ (mL k hk12)
 clear hk hg h
 have hql:q<wq.heap.size:=(gL H.out.book.box)
 by_cases hgp:0<g
 ·go_enter Tryz.func19,Tryz.ntmps19
  go_wp2_with (first
   | (go_at_call 22;(with_reducible refine jC hP1 ?_);rintro e X ⟨rfl,hX⟩;subst X)
   | (go_at_call 22;(with_reducible refine jC hP2 ?_);rintro e X ⟨rfl,hX⟩;subst X)
   | (go_at_call 40;(with_reducible refine jC hVl ?_);rintro e X1 ⟨v,rfl,hv,hb1⟩;have hB1:bG X1 q th vs:=H.out.book.on (vV hb1 (Y:=Bl.one q) (oK (by omega))) rfl;have e1:=hB1.there k hk12;have e2:=hB1.free k;obtain⟨X2,hX2⟩:=nM (X1.setCell ⟨q,k,none⟩ (.bool true));have hB2:bG X2 q (th.set k true) vs:=hX2▸hB1.setThere k hk12 true;have e3:=hB2.value k hk12;have e4:=hB2.free (12+k);obtain⟨X3,hX3⟩:=nM (X2.setCell ⟨q,12+k,none⟩ (.string v));have hB3:bG X3 q (th.set k true) (vs.set k v):=hX3▸hB2.setValue k hk12 v;have hS3:SkG aU n Kp X3 X3 d b j m z o ao us:=hX3▸(hX2▸(H.out.st.step hb1).poke ⟨q,k,none⟩ H.out.own _:SkG aU n Kp X2 X2 d b j m z o ao us).poke ⟨q,12+k,none⟩ H.out.own _;have HO:Hid (On (fun k=>Kp k∧k≠q) wq X3):=(by obtain⟨D,hD,_⟩:=H.out.st;have o1:On (fun k=>Kp k∧k≠q) wq X1:=vV hb1 (fun i hi=>hD.lies i hi.1);rw [← hX3,← hX2];exact(o1.setCell (p:=⟨q,k,none⟩) (fun e=>e.2 rfl) _).setCell (p:=⟨q,12+k,none⟩) (fun e=>e.2 rfl) _);have hKy:=HKey.out X3)
   | (go_at_call 24;(with_reducible refine jC hKy ?_);rintro e X4 ⟨rfl,hb4⟩;have hPu:=qEx (hS3.step hb4) H.out.at' H.out.h8 H.out.wr (aU[k]'hk12) v H.out.ok.rise H.out.ok.len ks.1 ks.2 hv)
   | (go_at_call 23;(with_reducible refine jC hPu ?_);rintro e X5 ⟨rfl,hS5⟩))
  go_ret
  obtain⟨fs,hro,_⟩:=H.out.st.rooted H.out.at'
  have hgd:(⟨aU[k]'hk12,v,false⟩:Ch).good:=uM k hk12 v hv false
  obtain⟨w1,w2,w3⟩:=H.out.ok.with (by omega) ⟨aU[k]'hk12,v,false⟩ hgd (mL k hk12)
  exact⟨rfl,_,{ u with cs:=cL u.cs ⟨aU[k]'hk12,v,false⟩ },_,_,⟨hS5.now,Xy H.out.at',by rw [List.length_set];exact H.out.h8,H.out.wr,w1,hB3.on hS5.kept H.out.own,H.out.own,H.out.told.change (dX hro) H.out.ok.rise k hk12 v false (fun h=>by cases h)⟩,rfl,rfl,rfl,rfl,w3,HO.out.trans (hS5.kept.mono (fun i hi=>hi.1))⟩
 ·have hgn:¬ (0<g):=hgp
  have hB0:=H.out.book
  have hKy:=HKey.out wq
  have hfo:=H.out.found k hk12
  obtain⟨fb,hfb⟩:∃ fb,th[k]'(by have:=H.out.told.lt;omega)=fb:=⟨_,rfl⟩
  rw [hfb] at hfo
  cases fb with
  | true =>
   go_enter Tryz.func19,Tryz.ntmps19
   go_wp2_with (first
    | (go_at_call 22;(with_reducible refine jC hP1 ?_);rintro e X ⟨rfl,hX⟩;subst X)
    | (go_at_call 22;(with_reducible refine jC hP2 ?_);rintro e X ⟨rfl,hX⟩;subst X)
    | (go_at_call 24;(with_reducible refine jC hKy ?_);rintro e X4 ⟨rfl,hb4⟩;have hDe:=qDo (H.out.st.step hb4) H.out.at' H.out.h8 H.out.wr (aU[k]'hk12) H.out.ok.rise H.out.ok.len ks.1 ks.2)
    | (go_at_call 25;(with_reducible refine jC hDe ?_);rintro e X5 ⟨y5,us5,rfl,hS5,hor⟩;obtain⟨rfl,rfl⟩:y5=0∧us5=us.set i { u with cs:=cL u.cs ⟨aU[k]'hk12,⟨#[]⟩,true⟩ }:=(by rcases hor with⟨h1,h2,h3⟩|⟨h1,h2,h3⟩;exact⟨h2,h3⟩;(rw [hfo] at h1;cases h1));clear hor;have hB5:=H.out.book.on hS5.kept H.out.own;have e1:=hB5.there k hk12;rw [hfb] at e1;have e2:=hB5.free k;obtain⟨X6,hX6⟩:=nM (X5.setCell ⟨q,k,none⟩ (.bool false));have hB6:bG X6 q (th.set k false) vs:=hX6▸hB5.setThere k hk12 false;have e3:=hB6.value k hk12;have e4:=hB6.free (12+k);obtain⟨X7,hX7⟩:=nM (X6.setCell ⟨q,12+k,none⟩ (.string ⟨#[]⟩));have hB7:bG X7 q (th.set k false) (vs.set k ⟨#[]⟩):=hX7▸hB6.setValue k hk12 ⟨#[]⟩;have hS7:=(hX7▸(hX6▸hS5.poke ⟨q,k,none⟩ H.out.own _:SkG aU n Kp X6 X6 d b j m z o ao _).poke ⟨q,12+k,none⟩ H.out.own _:SkG aU n Kp X7 X7 d b j m z o ao _);have HO:Hid (On (fun k=>Kp k∧k≠q) wq X7):=(by have o1:On (fun k=>Kp k∧k≠q) wq X5:=hS5.kept.mono (fun i hi=>hi.1);rw [← hX7,← hX6];exact(o1.setCell (p:=⟨q,k,none⟩) (fun e=>e.2 rfl) _).setCell (p:=⟨q,12+k,none⟩) (fun e=>e.2 rfl) _)))
   go_ret
   obtain⟨fs,hro,_⟩:=H.out.st.rooted H.out.at'
   have hgd:(⟨aU[k]'hk12,⟨#[]⟩,true⟩:Ch).good:=uM k hk12 ⟨#[]⟩ (by decide) true
   obtain⟨w1,w2,w3⟩:=H.out.ok.with (by omega) ⟨aU[k]'hk12,⟨#[]⟩,true⟩ hgd (mL k hk12)
   exact⟨rfl,_,{ u with cs:=cL u.cs ⟨aU[k]'hk12,⟨#[]⟩,true⟩ },_,_,⟨hS7,Xy H.out.at',by rw [List.length_set];exact H.out.h8,H.out.wr,w1,hB7,H.out.own,H.out.told.change (dX hro) H.out.ok.rise k hk12 ⟨#[]⟩ true (fun _=>rfl)⟩,rfl,rfl,rfl,rfl,w3,HO.out⟩
  | false =>
   go_enter Tryz.func19,Tryz.ntmps19
   go_wp2_with (first
    | (go_at_call 22;(with_reducible refine jC hP1 ?_);rintro e X ⟨rfl,hX⟩;subst X)
    | (go_at_call 22;(with_reducible refine jC hP2 ?_);rintro e X ⟨rfl,hX⟩;subst X)
    | (go_at_call 24;(with_reducible refine jC hKy ?_);rintro e X4 ⟨rfl,hb4⟩;have hDe:=qDo (H.out.st.step hb4) H.out.at' H.out.h8 H.out.wr (aU[k]'hk12) H.out.ok.rise H.out.ok.len ks.1 ks.2)
    | (go_at_call 25;(with_reducible refine jC hDe ?_);rintro e X5 ⟨y5,us5,rfl,hS5,hor⟩;obtain⟨rfl,rfl⟩:y5=5∧us5=us:=(by rcases hor with⟨h1,h2,h3⟩|⟨h1,h2,h3⟩;(rw [hfo] at h1;cases h1);exact⟨h2,h3⟩);clear hor;have hB5:=H.out.book.on hS5.kept H.out.own;have e1:=hB5.there k hk12;rw [hfb] at e1;have e2:=hB5.free k;obtain⟨X6,hX6⟩:=nM (X5.setCell ⟨q,k,none⟩ (.bool false));have hB6:bG X6 q (th.set k false) vs:=hX6▸hB5.setThere k hk12 false;have e3:=hB6.value k hk12;have e4:=hB6.free (12+k);obtain⟨X7,hX7⟩:=nM (X6.setCell ⟨q,12+k,none⟩ (.string ⟨#[]⟩));have hB7:bG X7 q (th.set k false) (vs.set k ⟨#[]⟩):=hX7▸hB6.setValue k hk12 ⟨#[]⟩;have hS7:=(hX7▸(hX6▸hS5.poke ⟨q,k,none⟩ H.out.own _:SkG aU n Kp X6 X6 d b j m z o ao _).poke ⟨q,12+k,none⟩ H.out.own _:SkG aU n Kp X7 X7 d b j m z o ao _);have HO:Hid (On (fun k=>Kp k∧k≠q) wq X7):=(by have o1:On (fun k=>Kp k∧k≠q) wq X5:=hS5.kept.mono (fun i hi=>hi.1);rw [← hX7,← hX6];exact(o1.setCell (p:=⟨q,k,none⟩) (fun e=>e.2 rfl) _).setCell (p:=⟨q,12+k,none⟩) (fun e=>e.2 rfl) _)))
   go_ret
   exact⟨rfl,_,u,_,_,⟨hS7,H.out.at',H.out.h8,H.out.wr,H.out.ok,hB7,H.out.own,H.out.told.blank k hk12 hfb⟩,(Ko H.out.at').symm,rfl,rfl,rfl,by omega,HO.out⟩
structure Jr (n:Nat) (Kp:Bl) (w wq:World) (d b j m:Nat) (z:Int) (o ao:Option (Nat×T)) (us:List Ut) (q:Nat) (th:List Bool) (vs:List ByteArray) (v:Value) (xs:List En):Prop where
 st:SkG aU n Kp w wq d b j m z o ao us
 book:bG wq q th vs
 row:wq.ownsRow 0 60 2 v xs.length (cT xs)
 nq:q≠d
 nv:v.ownBlock≠some d
theorem Jr.step {v:Value} {xs:List En} (h:Jr n Kp w wq d b j m z o ao us q th vs v xs) (hb:Below wq.heap.size wq w'):Jr n Kp w w' d b j m z o ao us q th vs v xs:=by
 have hq:q<wq.heap.size:=(gL h.book.box)
 exact⟨h.st.step hb,h.book.on (vV hb (Y:=Bl.one q) (oK (by omega))) rfl,aZ h.row (vV hb (Y:=fun k=>v.ownBlock=some k) (fun k hk=>aQ h.row hk)) (fun k hk=>hk),h.nq,h.nv⟩
theorem Jr.read {v:Value} {xs:List En} (h:Jr n Kp w wq d b j m z o ao us q th vs v xs) (hs:SkG aU n Kp w w' d b j m z o ao us) (hF:Fr (Bl.one d) wq w'):Jr n Kp w w' d b j m z o ao us q th vs v xs :=
 ⟨hs,⟨hF.heap h.book.box (fun e=>by simp only [Bl.one] at e;exact h.nq e),h.book.lt,h.book.lv⟩,dH h.row hF (fun k hk e=>by simp only [Bl.one] at e;subst e;exact h.nv hk),h.nq,h.nv⟩
theorem Pi (h:SkG aU n Kp w wq d b j m z o ao us)   (hu:us[i]?=some u) (h8:us.length≤8) (hc:kZ aU u.cs) (th:List Bool) (vs:List ByteArray) (ht:Told (aX (dD u.ot) u.cs) th vs) :
  Calls Tryz.prog 20 #[.pointer (some ⟨d,0,none⟩),.int .i64 u.x,.agg (bookC th vs)] wq fun e w'=>e=.returned (.bool true)∧SkG aU n Kp w w' d b j m z o ao us:=by
 obtain⟨W1,hW1⟩:=nM (wq.alloc (.cells (bookC th vs) 30))
 have b1:Below wq.heap.size wq W1:=hW1▸(bA _ _)
 have x1:bG W1 wq.heap.size th vs:=⟨hW1▸aA wq _,ht.lt,ht.lv⟩
 have z1:W1.heap.size=wq.heap.size+1:=by rw [← hW1];simp
 have hd:=h.lies
 obtain⟨fs,hro,_⟩:=h.rooted hu
 have hall:=Fw hro u.cs
 obtain⟨xs,hxs⟩:=nM (aX (dD u.ot) u.cs)
 rw [hxs] at ht hall
 have hlen:xs.length=cnt th 12:=Au ht
 have hl12:xs.length≤12:=hlen▸Rs th ht.lt 12
 have hSc:=qDz (h.step b1) hu h8 hc whole 100 (by decide) (by decide) (by rw [hall];omega) (by decide)
 rw [hall] at hSc
 have HX:Hid (aX (dD u.ot) u.cs=xs):=hxs
 have HL:Hid (xs.length=cnt th 12):=hlen
 have HC:Hid (kZ aU u.cs):=hc
 have HZ:Hid (W1.heap.size=wq.heap.size+1):=z1
 clear hxs hlen hc hall hro z1
 go_enter Tryz.func20,Tryz.ntmps20
 go_wp2_with (go_at_call 28;(with_reducible refine jC hSc ?_);rintro e X ⟨v,rfl,hSX,hFX,hrow,hli⟩;obtain⟨va,vc,rfl⟩:=aO hrow;have HS0:Jr n Kp w X d b j m z o ao us wq.heap.size th vs (.slice va xs.length vc) xs:=⟨hSX,⟨hFX.heap x1.box (oN (by omega)),x1.lt,x1.lv⟩,hrow,by omega,fun e=>by have:=hli _ e;have:=HZ.out;omega⟩)
 go_loopw [7,10] (fun nn kk wr=>∃ k:Nat,kk=.int .i64 k∧k≤12∧nn=.int .i64 (cnt th k:Nat)∧Jr n Kp w wr d b j m z o ao us wq.heap.size th vs (.slice va xs.length vc) xs) (fun _ kk _=>12-(intOf kk).toNat)
 case atStart=>exact⟨0,rfl,by omega,by rw [Nw];rfl,HS0⟩
 case round =>
  obtain⟨k,rfl,hk,rfl,HS⟩:=hrel
  by_cases hlt:k<12
  ·have hki:(k:Int)<12:=by omega
   have hKy:∀ X,Calls Tryz.prog 24 #[.int .i64 (k:Nat)] X fun e w'=>e=.returned (.string (aU[k]'hlt))∧Below X.heap.size X w':=fun X=>sH k hlt X
   have ks:=kE _ (mL k hlt)
   have htl:=ht.tells k hlt
   have hcs:=Nx ht.lt k hlt
   have hta:=Si ht k hlt
   obtain⟨kk,hkk⟩:=nM (aU[k]'hlt)
   simp only [hkk] at hKy ks htl hta
   have HKY:Hid (∀ X,Calls Tryz.prog 24 #[.int .i64 (k:Nat)] X fun e w'=>e=.returned (.string kk)∧Below X.heap.size X w'):=hKy
   have hK1:=hKy wr
   obtain⟨vv,hvv⟩:∃ vv,vs[k]'(by have:=ht.lv;omega)=vv:=⟨_,rfl⟩
   obtain⟨tt,htt⟩:∃ tt,th[k]'(by have:=ht.lt;omega)=tt:=⟨_,rfl⟩
   simp only [hvv,htt] at htl hta hcs
   have HSN:Hid (Jr n Kp w wr d b j m z o ao us wq.heap.size th vs (.slice va xs.length vc) xs):=HS
   have hSV:gS u.ot u.cs kk=if tt=true then some vv.data.toList else none:=by unfold gS;rw [HX.out];exact htl
   clear hKy htl HS hkk
   cases tt with
   | false =>
    have HCN:Hid (cnt th (k+1)=cnt th k):=by show _=_;rw [hcs];rfl
    clear hcs hta
    go_wp2_with (first
     | (go_at_call 24;(with_reducible refine jC hK1 ?_);rintro e X1 ⟨rfl,hb1⟩;have hG:=qDm (HSN.out.step hb1).st hu h8 HC.out kk ks.1 ks.2)
     | (go_at_call 30;(with_reducible refine jC hG ?_);rintro e X2 ⟨v2,y2,rfl,hS2,hF2,hor⟩;obtain rfl:y2=5:=(by rcases hor with⟨_,h2,_⟩|⟨l,h1,_⟩;exact h2;(rw [hSV] at h1;simp at h1));clear hor;have hN2:=(HSN.out.step hb1).read hS2 hF2;have e1:=hN2.book.there k hlt;rw [htt] at e1))
    refine⟨⟨k+1,by go_num,by omega,by rw [HCN.out],hN2⟩,by simp [intOf];omega⟩
   | true =>
    have HCN:Hid (cnt th (k+1)=cnt th k+1):=by show _=_;rw [hcs];rfl
    obtain⟨hci,hck,hcv⟩:=hta rfl
    obtain⟨pc0,pc1⟩:=wG hci
    rw [hck] at pc0
    rw [hcv,qB] at pc1
    rw [if_pos rfl] at hSV
    obtain⟨c,hcn⟩:=nM (cnt th k)
    have HCK:Hid (cnt th k=c):=hcn
    simp only [hcn] at pc0 pc1 hci ⊢
    clear hcs hta hck hcv hcn
    have hci':(c:Int)<(xs.length:Int):=by omega
    go_wp2_with (first
     | (go_at_call 24;(with_reducible refine jC hK1 ?_);rintro e X1 ⟨rfl,hb1⟩;have hG:=qDm (HSN.out.step hb1).st hu h8 HC.out kk ks.1 ks.2)
     | (go_at_call 30;(with_reducible refine jC hG ?_);rintro e X2 ⟨v2,y2,rfl,hS2,hF2,hor⟩;obtain⟨rfl,rfl⟩:y2=0∧v2=vv:=(by rcases hor with⟨h1,_⟩|⟨l,h1,h2,h3⟩;(rw [hSV] at h1;cases h1);(rw [hSV] at h1;cases h1;exact⟨h2,h3.trans (qB vv)⟩));clear hor;have hN2:=(HSN.out.step hb1).read hS2 hF2;have e1:=hN2.book.there k hlt;rw [htt] at e1;have e2:=hN2.book.value k hlt;rw [hvv] at e2;obtain⟨g,hg,hgl,hgc,e3⟩:=nG hN2.row pc0;obtain⟨g',hg',_,_,e4⟩:=nG hN2.row pc1;subst hg;obtain rfl:g=g':=(by simpa using hg');clear hg'))
    have hnge:decide ((xs.length:Int)≤(c:Int))=false:=by simp;omega
    have hnge2:¬ ((xs.length:Int)≤(c:Int)):=by omega
    clear hSV hvv htt pc0 pc1 hK1 hG hS2 hF2
    go_region_held3 (fun X=>X.cell? ⟨wq.heap.size,12+k,none⟩=some (.string v2)∧X.cell? ⟨g,c * 2,none⟩=some (.string kk)∧X.cell? ⟨g,c * 2+1,none⟩=some (.string v2))
     ((first|(with_reducible exact⟨f2,f3,f4⟩)|(with_reducible exact⟨e2,e3,e4⟩)|exact⟨e2,e3,e4⟩))
     ((go_at_call 24;(with_reducible refine jC (HKY.out _) ?_);rintro e X3 ⟨rfl,hb3⟩;have hb3':Below X2.heap.size X2 X3:=(Below.refl _ _).drew.trans hb3;have hN3:=hN2.step hb3';have hq2:wq.heap.size<X2.heap.size:=(gL hN2.book.box);have f2:=(World.cell?_of_block (w:=X2) (a:=⟨wq.heap.size,12+k,none⟩) (hb3'.block _ hq2)).trans e2;have f3:=(World.cell?_of_block (w:=X2) (a:=⟨g,c * 2,none⟩) (hb3'.block _ hgl)).trans e3;have f4:=(World.cell?_of_block (w:=X2) (a:=⟨g,c * 2+1,none⟩) (hb3'.block _ hgl)).trans e4))
    go_wp2
    refine⟨⟨k+1,by go_num,by omega,?_,hN3⟩,by simp [intOf];omega⟩
    rw [HCN.out,HCK.out]
    go_num
  ·obtain rfl:k=12:=by omega
   have hnl:cnt th 12=xs.length:=HL.out.symm
   rw [hnl]
   clear hnl
   go_wp2
   go_ret
   exact⟨rfl,HS.st⟩
theorem xH:(us++[u])[us.length]?=some u:=by simp
theorem xG:(us++[u]).eraseIdx us.length=us:=by
 rw [List.eraseIdx_append_of_length_le (jU _)];simp
theorem qDa {u v:Ut}:(us++[u]).set us.length v=us++[v]:=by
 rw [List.set_append_right _ _ (jU _)];simp
theorem zO (h:SkG aU n Kp w wq d b j m z o ao us) (h8:us.length<8) (th:List Bool) (vs:List ByteArray) (ht:Told (dD o) th vs) (hm:m≤1000000) :
  Calls Tryz.prog 13 #[.pointer (some ⟨d,0,none⟩),.agg (bookC th vs)] wq fun e w'=>e=.returned (.bool true)∧SkG aU n Kp w w' d b j (m+1) (z+1) o ao us:=by
 obtain⟨W1,hW1⟩:=nM (wq.alloc (.cells (bookC th vs) 30))
 have b1:Below wq.heap.size wq W1:=hW1▸(bA _ _)
 have x1:bG W1 wq.heap.size th vs:=⟨hW1▸aA wq _,ht.lt,ht.lv⟩
 have HM:SkG aU n (Bl.or Kp (Bl.one wq.heap.size)) W1 W1 d b j m z o ao us:=hW1▸h.make _
 have hBg:=Jp HM false hm h8
 have HK:Hid (On Kp w W1):=h.kept.trans (vV b1 (fun k hk=>jY (h.below k hk) h.kept.size))
 have HL:Hid (∀ k,Kp k→k<w.heap.size):=h.below
 have HT:Hid (Told (aX (dD o) []) th vs):=by rw [iX ht.rise];exact ht
 have H8:Hid (us.length<8):=h8
 clear h ht HM h8
 go_enter Tryz.func13,Tryz.ntmps13
 go_wp2_with (first
  | (go_at_call 18;(with_reducible refine jC hBg ?_);rintro e X2 ⟨rfl,hS2⟩;have x2:bG X2 wq.heap.size th vs:=x1.on hS2.kept (.inr rfl);have hSe:=Pi hS2 xH (by rw [jK,List.length_singleton];exact H8.out) (Dn aU) th vs HT.out)
  | (refine gR rfl (.tmp 3) rfl wq.heap.size rfl x2 ?_)
  | (go_at_call 20;(with_reducible refine jC hSe ?_);rintro e X3 ⟨rfl,hS3⟩;have hCo:=qAy hS3 xH (by rw [jK,List.length_singleton];exact H8.out) (by simp) 0 (.inl ⟨rfl,rfl⟩))
  | (go_at_call 26;(with_reducible refine jC hCo ?_);rintro e X4 ⟨rfl,hS4⟩))
 go_ret
 rw [xG] at hS4
 exact⟨rfl,hS4.less w (fun k hk=>.inl hk) HK.out HL.out⟩
def Ia (us us':List Ut):Prop:=∃ f:Ut→Ut,(∀ v,(f v).x=v.x∧(f v).wr=v.wr∧(f v).ot=v.ot∧(f v).cs=v.cs)∧us'=us.map f
theorem Ia.refl (us:List Ut):Ia us us:=⟨id,fun v=>⟨rfl,rfl,rfl,rfl⟩,by simp⟩
theorem qEj (hK:KOk aU n)        (h:SkG aU n Kp w wq d b j m z o ao (us++[u])) (h8:us.length<8) (hroom:(us.length+3) * (1+3 * 12)+2≤n) (ho:u.ot=o) (hw:u.wr=true) (hks:∀ y,¬ u.ks y) (hc:kZ aU u.cs) (hj:j≤1000000)   (ht:Told (aX (dD u.ot) u.cs) th vs) :
  Calls Tryz.prog 26 #[.pointer (some ⟨d,0,none⟩),.int .i64 u.x] wq fun e w'=>e=.returned (.int .i64 0)∧∃ j' o' ao' us',SkG aU n Kp w w' d b j' m z o' ao' us'∧Ia us us'∧(j'=j∨j'=j+1)∧Told (dD o') th vs:=by
 subst ho
 obtain⟨fs,hro,_⟩:=h.rooted xH
 have hl8:(us++[u]).length≤8:=by rw [jK,List.length_singleton];exact h8
 by_cases hcs:u.cs=[]
 ·refine(qAy h xH hl8 hc.len 0 (.inl ⟨hcs,rfl⟩)).mono ?_
  rintro e w' ⟨rfl,h'⟩
  rw [xG] at h'
  rw [hcs,iX (dX hro)] at ht
  exact⟨rfl,j,_,ao,us,h',.refl _,.inl rfl,ht⟩
 ·refine(qEk hK h xH hl8 (by rw [jK,List.length_singleton];exact hroom) hc (List.length_pos_iff.2 hcs) hw (fun c _ e=>hks _ e) hj).mono ?_
  rintro e w' ⟨rfl,o1,h',hkv⟩
  obtain⟨fs1,hro1,_⟩:=h'.sure
  rw [xG] at h'
  exact⟨rfl,j+1,o1,_,_,h',⟨Ut.lose u.cs,fun v=>⟨rfl,rfl,rfl,rfl⟩,rfl⟩,.inr rfl,ht.kv hkv (dX hro1)⟩
theorem qI.calm {us us':List Ut} {u u':Ut}    (h:qI n Kp wq d b j m z o ao us' us.length u' q th vs) (hu:us'=(us++[u]).set us.length u') (hx:u'.x=u.x) (ho:u'.ot=u.ot) (hk:u'.ks=u.ks):qI n Kp wq d b j m z o ao (us++[⟨u.x,true,u.ot,u'.cs,u.ks⟩]) us.length ⟨u.x,true,u.ot,u'.cs,u.ks⟩ q th vs:=by
 rw [qDa] at hu
 have e:u'=⟨u.x,true,u.ot,u'.cs,u.ks⟩:=by rw [← hx,← ho,← hk,← h.wr]
 rw [← e,← hu]
 exact h
structure yW (n:Nat) (Kp:Bl) (wq:World) (d b j m:Nat) (z:Int) (o ao:Option (Nat×T)) (us:List Ut) (q:Nat) (th:List Bool) (vs:List ByteArray):Prop where
 st:SkG aU n Kp wq wq d b j m z o ao us
 book:bG wq q th vs
 own:Kp q
 told:Told (dD o) th vs
def qEr (n:Nat) (Kp:Bl) (wq w':World) (d b j m:Nat) (z:Int) (us:List Ut) (q:Nat):Prop:=∃ j' o' ao' us' th' vs',yW n Kp w' d b j' (m+1) (z+1) o' ao' us' q th' vs'∧Ia us us'∧j'≤j+1∧On (fun k=>Kp k∧k≠q) wq w'
theorem vM (hK:KOk aU n)          (h:yW n Kp wq d b j m z o ao us q th vs) (h8:us.length<8) (hroom:(us.length+3) * (1+3 * 12)+2≤n) (hm:m≤1000000) (hj:j≤1000000) (ra:Option Addr) (rc:Nat) (ns:List Int) (B:Nat) (hR:cR wq B ra (ns.map (.int .i64))) (hB:∀ k,k<B→Kp k∧k≠q) (hi64:∀ x∈ns,-9223372036854775808≤x∧x≤9223372036854775807) :
  Calls Tryz.prog 11 #[.pointer (some ⟨d,0,none⟩),.pointer (some ⟨q,0,none⟩),.slice ra ns.length rc] wq fun e w'=>e=.returned (.bool true)∧qEr n Kp wq w' d b j m z us q:=by
 have hBg:=Jp h.st true hm h8
 have H:Hid (yW n Kp wq d b j m z o ao us q th vs):=h
 have H8:Hid (us.length<8):=h8
 have HR8:Hid ((us.length+3) * (1+3 * 12)+2≤n):=hroom
 clear h h8 hroom
 go_enter Tryz.func11,Tryz.ntmps11
 go_wp2_with (first
  | (go_at_call 18;(with_reducible refine jC hBg ?_);rintro e X2 ⟨rfl,hS2⟩;have x2:bG X2 q th vs:=H.out.book.on hS2.kept H.out.own;have xz:=pC X2)
  | (refine gR rfl (.tmp 24) rfl q rfl x2 ?_)
  | (refine nU rfl (.tmp 9) (.tmp 25) rfl X2.heap.size rfl rfl xz x2.lt x2.lv ?_;intro X3 hB3 hF3))
 have hz2:wq.heap.size≤X2.heap.size:=hS2.kept.size
 have hKl:∀ k,Kp k→k<wq.heap.size:=H.out.st.below
 have hbA:Below X2.heap.size X2 (X2.alloc gG):=bA _ _
 have HO3:Hid (On Kp wq X3):=(hS2.kept.trans (vV hbA (fun k hk=>jY (hKl k hk) hz2))).trans (hF3.on (fun k hk=>⟨jY (hKl k hk) (vJ hz2 hbA.size),fun e=>by simp only [Bl.one] at e;have:=hKl k hk;omega⟩))
 have HD3:Hid (qI n (Bl.or Kp (Bl.one X2.heap.size)) X3 d b j (m+1) (z+1) o ao (us++[⟨z+1,true,o,[],fun _=>False⟩]) us.length ⟨z+1,true,o,[],fun _=>False⟩ X2.heap.size th vs):=⟨(hS2.make gG).touch hF3 (.inr rfl),xH,by rw [jK,List.length_singleton];exact H8.out,rfl,Dn aU,hB3,.inr rfl,by rw [iX H.out.told.rise];exact H.out.told⟩
 have HX:Hid (bG X3 q th vs):=H.out.book.on HO3.out H.out.own
 obtain⟨nq,hnq⟩:=nM (X2.heap.size)
 have HQ:Hid (wq.heap.size≤nq):=by show _≤_;omega
 have HKL:Hid (∀ k,Kp k→k<wq.heap.size):=hKl
 rw [hnq] at HD3 ⊢
 clear hS2 x2 xz hB3 hF3 hbA hz2 hnq hBg hKl
 go_loopw [10] (fun i wr=>∃ (k:Nat) (cs:List Ch) (th':List Bool) (vs':List ByteArray),i=.int .i64 k∧k≤8∧Hid (qI n (Bl.or Kp (Bl.one nq)) wr d b j (m+1) (z+1) o ao (us++[⟨z+1,true,o,cs,fun _=>False⟩]) us.length ⟨z+1,true,o,cs,fun _=>False⟩ nq th' vs')∧cs.length≤k∧Hid (On Kp wq wr)) (fun i _=>8-(intOf i).toNat)
 case atStart=>exact⟨0,[],th,vs,rfl,by omega,HD3,by simp,HO3⟩
 case round =>
  obtain⟨k,cs,th',vs',rfl,hk8,HD,hcl,HO⟩:=hrel
  by_cases hlt:k<ns.length∧k<8
  ·have hk1:(k:Int)<(ns.length:Int):=by omega
   have hk2:(k:Int)<8:=by omega
   obtain⟨y,hy⟩:=nM (ns[k]'hlt.1)
   have hyr:=hi64 y (hy▸List.getElem_mem hlt.1)
   rcases cR.onK hR HO.out (fun k hk=>(hB k hk).1) with hR'|⟨rb,off,rfl,hrb,hRc⟩
   ·have h0:(ns.map (Value.int .i64)).length=0:=by rw [hR'];rfl
    rw [List.length_map] at h0
    omega
   have hcell:wr.cell? ⟨rb,off+k,none⟩=some (.int .i64 y):=hRc k _ (by rw [List.getElem?_map,jQ hlt.1,hy];rfl)
   have hDe:=qAp HD.out y hyr.1 hyr.2 (by show cs.length<100;omega)
   clear hy hyr hRc
   go_wp2_with (go_at_call 19;(with_reducible refine jC hDe ?_);rintro e X4 ⟨rfl,hout⟩;have HOut:Hid _:=hout;clear hout)
   obtain⟨us2,u2,th2,vs2,hD2,hus2,hx2,hot2,hk2,hl2,ho2⟩:=HOut.out
   have hD2':qI n (Bl.or Kp (Bl.one nq)) X4 d b j (m+1) (z+1) o ao (us++[⟨z+1,true,o,u2.cs,fun _=>False⟩]) us.length ⟨z+1,true,o,u2.cs,fun _=>False⟩ nq th2 vs2:=hD2.calm hus2 hx2 hot2 hk2
   have hl2':u2.cs.length≤cs.length+1:=hl2
   exact⟨⟨k+1,u2.cs,th2,vs2,by go_num,by omega,hD2',by omega,HO.out.trans (ho2.mono (fun i hi=>⟨.inl hi,fun e=>by subst e;have:=HKL.out _ hi;have:=HQ.out;omega⟩))⟩,by simp [intOf];omega⟩
  ·have hSe:=Pi HD.out.st HD.out.at' HD.out.h8 HD.out.ok th' vs' HD.out.told
   have x4:=HD.out.book
   have hw:IntKind.i64.wrap ((j:Int)+1)=(j:Int)+1:=by rw [IntKind.wrap_i64];omega
   rcases (by omega:ns.length≤k∨(k<ns.length∧8≤k)) with hx|hx
   all_goals
    have hx1:(ns.length:Int)≤(k:Int)∨((k:Int)<(ns.length:Int)∧(8:Int)≤(k:Int)):=by omega
    go_wp2_with (first
     | (refine gR rfl (.tmp 9) rfl nq rfl x4 ?_)
     | (go_at_call 20;(with_reducible refine jC hSe ?_);rintro e X5 ⟨rfl,hS5⟩;have hV5:=qDi hS5)
     | (go_at_call 17;(with_reducible refine jC hV5 ?_);rintro e X6 ⟨rfl,hS6⟩;have hC6:=qEj hK hS6 H8.out HR8.out rfl rfl (fun _ e=>e) HD.out.ok hj HD.out.told)
     | (go_at_call 26;(with_reducible refine jC hC6 ?_);rintro e X7 ⟨rfl,j',o',ao',us',hS7,hSm,hor,hT7⟩;have hV7:=qDi hS7)
     | (go_at_call 17;(with_reducible refine jC hV7 ?_);rintro e X8 ⟨rfl,hS8⟩;have x8:=HD.out.book.on hS8.kept (.inr rfl);have y8:=(H.out.book.on HO.out H.out.own).on hS8.kept (.inl H.out.own))
     | (refine gR rfl (.tmp 9) rfl nq rfl x8 ?_)
     | (refine nU rfl (.tmp 58) (.tmp 57) rfl q rfl rfl y8 x8.lt x8.lv ?_;intro X9 hB9 hF9;rcases hor with rfl|rfl))
    all_goals
     go_ret
     have hL8:=hS8.less wr (fun i hi=>.inl hi) (On.refl _ _) (fun i hi=>jY (HKL.out i hi) HO.out.size)
     exact⟨rfl,_,_,_,_,_,_,⟨hL8.touch hF9 H.out.own,hB9,H.out.own,hT7⟩,hSm,by omega,(HO.out.mono (fun i hi=>hi.1)).trans ((hL8.kept.mono (fun i hi=>hi.1)).trans (hF9.on (fun i hi=>⟨jY (HKL.out i hi.1) (vJ HO.out.size hS8.kept.size),fun e=>by simp only [Bl.one] at e;exact hi.2 e⟩)))⟩
theorem qAi (D:Db) (st:Int) (x:Int) (w:World) (h:aM w st D) (hn:D.ts.length≤1000000) (hx:kS D.ts x = -1) :
  Calls Tryz.prog 42 #[.pointer (some ⟨D.d,0,none⟩),.int .i64 x] w fun e w'=>e=.returned (.tuple #[.pointer none,.int .i64 3])∧Below w.heap.size w w':=by
 have hR:=La D st x w h hn hx
 clear h hx
 go_enter Tryz.func42,Tryz.ntmps42
 go_wp2_with (go_at_call 53;(with_reducible refine jC hR ?_);rintro e w2 ⟨rfl,hb2⟩)
 go_ret2
 exact⟨rfl,hb2⟩
theorem qEq (D:Db) (x y:Int) (p:Value) (b0 b1:Nat) (w:World) (R:World→Prop) (hE:Calls Tryz.prog 42 #[.pointer (some ⟨D.d,0,none⟩),.int .i64 x] w fun e w'=>e=.returned (.tuple #[p,.int .i64 y])∧R w')
  (x0:w.heap[b0]?=some (.cells #[.pointer (some ⟨D.d,0,none⟩)] 23)) (x1:w.heap[b1]?=some (.cells #[.int .i64 x] 3)) :
  Calls Tryz.prog 41 #[.pointer (some ⟨b0,0,none⟩),.pointer (some ⟨b1,0,none⟩)] w fun e w'=>e=.returned (.int .i64 y)∧R w':=by
 have c0:=bF x0
 have c1:=bF x1
 clear x0 x1
 go_enter Tryz.func41,Tryz.ntmps41
 go_wp2_with (go_at_call 42;(with_reducible refine jC hE ?_);rintro e X1 ⟨rfl,hR⟩;have HR:Hid (R X1):=hR;clear hR)
 go_ret
 exact⟨rfl,HR.out⟩
theorem Hz (D:Db) (x:Int) (w:World) (h:aM w 0 D) (R:Int→Db→Prop)
  (hco:∀ X,aM X 1 D→∃ (y:Int) (p:Value),Calls Tryz.prog 42 #[.pointer (some ⟨D.d,0,none⟩),.int .i64 x] X fun e w'=>e=.returned (.tuple #[p,.int .i64 y])∧∃ D',aM w' 1 D'∧D'.d=D.d∧Fr (fpD D) X w'∧aI X (fpD D) (fpD D')∧R y D') :
  Calls Tryz.prog 21 #[.pointer (some ⟨D.d,0,none⟩),.int .i64 x] w fun e w'=>∃ z D',e=.returned (.int .i64 z)∧aM w' 0 D'∧D'.d=D.d∧Fr (fpD D) w w'∧aI w (fpD D) (fpD D')∧R z D':=by
 obtain⟨W1,hW1⟩:=nM ((w.alloc (.cells #[.pointer (some ⟨D.d,0,none⟩)] 23)).alloc (.cells #[.int .i64 x] 3))
 have B1:Below w.heap.size w W1:=hW1▸(bA _ _).alloc (by simp) _
 have x0:W1.heap[w.heap.size]?=some (.cells #[.pointer (some ⟨D.d,0,none⟩)] 23):=hW1▸aB _ (aA w _)
 have x1:W1.heap[w.heap.size+1]?=some (.cells #[.int .i64 x] 3):=by
  rw [← hW1];have:=aA (w.alloc (.cells #[.pointer (some ⟨D.d,0,none⟩)] 23)) (.cells #[.int .i64 x] 3);simpa using this
 have h1:aM W1 0 D:=h.on (vV B1 h.lies)
 have dlt:=(gL h.box)
 have c0:=bF x0
 have hFc:=Ae D 41 #[] #[.pointer (some ⟨w.heap.size,0,none⟩),.pointer (some ⟨w.heap.size+1,0,none⟩)] (enters_of Tryz.func41 (by kernel_rfl) rfl) W1 h1 R (by
  intro W0 hD0 hF0 hs0
  have nd:∀ k,w.heap.size≤k→¬ Bl.one D.d k:=fun k hk e=>by simp only [Bl.one] at e;omega
  obtain⟨y,p,hE⟩:=hco W0 hD0
  refine(qEq D x y p _ _ W0 _ hE (hF0.heap x0 (nd _ (by omega))) (hF0.heap x1 (nd _ (by omega)))).mono ?_
  rintro e w' ⟨rfl,D',a1,a2,a3,a4,a5⟩
  exact⟨y,D',rfl,a1,a2,a3,a4,a5⟩)
 clear x0 x1 hco
 go_enter Tryz.func21,Tryz.ntmps21
 go_wp2_with (go_at_call 35;(with_reducible refine jC hFc ?_);rintro e X ⟨z,D',rfl,hD',hd',hF',hG',hR⟩;have HD':Hid (aM X 0 D'):=hD';have HR':Hid (R z D'):=hR;have HE':Hid (D'.d=D.d):=hd';clear hD' hR hd')
 go_ret
 exact⟨z,D',rfl,HD'.out,HE'.out,(Fr.of_below B1).trans hF',fun k hk=>(hG' k hk).imp id (fun h=>vJ B1.size h),HR'.out⟩
theorem qDd (h:SkG K n Kp w wq d b j m z o ao us)   (hu:us[i]?=some u) (h8:us.length≤8) :
  Calls Tryz.prog 21 #[.pointer (some ⟨d,0,none⟩),.int .i64 u.x] wq fun e w'=>e=.returned (.int .i64 0)∧SkG K n Kp w w' d b j m z o ao (us.eraseIdx i):=by
 obtain⟨D,h,hU,rfl,rfl,rfl⟩:=h
 obtain⟨hi,hidx,hk⟩:=hU.idx hu
 refine(Hz D u.x wq h.db (fun y D'=>y=0∧∃ g c,D'=D.drop i g c) (fun X hX=>⟨0,.pointer (some ⟨(D.ts[i]).b,0,none⟩),(Tm D 1 u.x i D.ts[i] X hX (by rw [hU.len];omega) hi rfl hidx).mono ?_⟩)).mono ?_
 ·rintro e w' ⟨rfl,g,c,hov,hD1,hT1,hF1⟩
  refine⟨rfl,D.drop i g c,hD1,rfl,⟨hF1.os,hF1.tape,hF1.output,hF1.size,fun k hk hn=>hF1.block k hk (fun e=>hn ?_)⟩,fun k hk=>.inl (Mu hov k hk),rfl,g,c,rfl⟩
  rcases e with e|e
  ·exact .inl e
  ·exact .inr (.inr (.inl (by rw [hov,e];rfl)))
 ·rintro e w' ⟨y,D',rfl,hD,hd,hF,hG,rfl,g,c,rfl⟩
  exact⟨rfl,_,⟨hD,h.well,h.failed,h.ver,h.root,h.aroot,h.last0,h.last1,h.store,h.grows hG,h.on hF h.new,h.lies⟩,hU.drop i g c,rfl,rfl,rfl⟩
theorem qBj (h:SkG K n Kp w wq d b j m z o ao []) (x:Int) :
  Calls Tryz.prog 21 #[.pointer (some ⟨d,0,none⟩),.int .i64 x] wq fun e w'=>e=.returned (.int .i64 3)∧SkG K n Kp w w' d b j m z o ao []:=by
 obtain⟨D,h,hU,rfl,rfl,rfl⟩:=h
 have hts:D.ts=[]:=List.eq_nil_of_length_eq_zero hU.len
 refine(Hz D x wq h.db (fun y D'=>y=3∧D'=D) (fun X hX=>⟨3,.pointer none,(qAi D 1 x X hX (by rw [hts];simp) (by rw [hts];rfl)).mono ?_⟩)).mono ?_
 ·rintro e w' ⟨rfl,hb⟩
  exact⟨rfl,D,hX.on (vV hb hX.lies),rfl,Fr.of_below hb,fun k hk=>.inl hk,rfl,rfl⟩
 ·rintro e w' ⟨y,D',rfl,hD,hd,hF,hG,rfl,rfl⟩
  exact⟨rfl,_,⟨hD,h.well,h.failed,h.ver,h.root,h.aroot,h.last0,h.last1,h.store,h.new,h.on hF h.new,h.lies⟩,hU,rfl,rfl,rfl⟩
