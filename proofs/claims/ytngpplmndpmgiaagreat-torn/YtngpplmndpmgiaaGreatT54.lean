/-
  Joined: KFile, KeptW, OpenN, KTorn, TornW.
-/
import Derived.Test.YtngpplmndpmgiaaGreatT52
import Derived.Test.YtngpplmndpmgiaaGreatT53
import Derived.Test.YtngpplmndpmgiaaGreatT25
import Derived.Test.YtngpplmndpmgiaaGreatT16
import Derived.Test.YtngpplmndpmgiaaGreatT41
import Derived.Test.YtngpplmndpmgiaaGreatT50
set_option linter.unusedSimpArgs false
set_option linter.unusedVariables false
set_option maxRecDepth 100000
set_option maxHeartbeats 8000000
namespace Go.Proofs.YtngpplmndpmgiaaGreat.Tree
open Go.RowKit Go.Proofs.YtngpplmndpmgiaaGreat.Pages
def FK (K:List ByteArray) (n:Nat) (Kp:Bl) (w wq:World) (b j:Nat) (o ao:Option (Nat×T)):Prop:=∃ sv lv fs,FileAt wq b sv lv fs∧Store K n fs j o ao∧fs.well∧(∀ k,fpF b sv lv k→¬ Kp k)∧On Kp w wq∧∀ k,Kp k→k<w.heap.size
theorem open_k {K:List ByteArray} {n:Nat} {Kp:Bl} {w wq:World} {b j:Nat} {o ao:Option (Nat×T)} (h:FK K n Kp w wq b j o ao) (hn:40≤n) :
  Calls Tryz.prog 14 #[.pointer (some ⟨b,0,none⟩)] wq fun e w'=>∃ d,e=.returned (.tuple #[.pointer (some ⟨d,0,none⟩),.int .i64 0])∧SkL K n Kp w w' d b j 0 o ao:=by
 obtain⟨sv,lv,fs,hf,hS,hw,hnk,ho,hl⟩:=h
 refine(open_any hS hn hw b sv lv wq hf).mono ?_
 rintro e w' ⟨D,rfl,hD,h1,h2,h3,h4,h5,h6,h7,h8,h9,hF,hG⟩
 refine⟨_,rfl,D,⟨hD,h3▸hw,h7,h4,h5,h6,by rw [h8];exact Int.le_refl _,by rw [h8];exact Int.le_refl _,h3▸hS,fun k hk hp=>?_,ho.trans (hF.on (fun k hk=>⟨jY (hl k hk) ho.size,fun e=>hnk k e hk⟩)),hl⟩,h9,rfl,h1⟩
 rcases hG k hk with h'|h'
 ·exact hnk k h' hp
 ·have:=hl k hp
  have:=ho.size
  omega
theorem fresh_k {n:Nat} (hn:40≤n) (hn2:n≤4096) (w:World) :
  Calls Tryz.prog 8 #[.int .i64 (n:Nat)] w fun e w'=>∃ d b,e=.returned (.tuple #[.pointer (some ⟨d,0,none⟩),.pointer (some ⟨b,0,none⟩)])∧SkL keyL n (fun k=>k<w.heap.size) w w' d b 0 0 none none:=by
 refine(fresh_st (K:=keyL) hn hn2 w).mono ?_
 rintro e w' ⟨D,rfl,h,hi⟩
 exact⟨_,_,rfl,D,⟨h.db,h.well,h.failed,h.ver,h.root,h.aroot,h.last0,h.last1,h.store,fun k hk hp=>by have:=h.new k hk;omega,vV h.below (fun k hk=>hk),fun k hk=>hk⟩,hi,rfl,rfl⟩
theorem partL_mem {raw:List Int} {i size:Nat} {x:Int} (h:x∈partL raw i size):x∈raw:=List.mem_of_mem_drop (List.mem_of_mem_take h)
structure NumsAt (w:World) (B:Nat) (ra:Option Addr) (rc:Nat) (raw:List Int):Prop where
 row:RowAt w B ra (raw.map (.int .i64))
 cap:raw.length≤rc
 some':rc=0∨∃ b off,ra=some ⟨b,off,none⟩
 big:rc≤9223372036854775807
 i64:∀ x∈raw,-9223372036854775808≤x∧x≤9223372036854775807
theorem NumsAt.on {w w':World} {B:Nat} {ra:Option Addr} {rc:Nat} {raw:List Int} (h:NumsAt w B ra rc raw) (ho:On (fun k=>k<B) w w'):NumsAt w' B ra rc raw:=⟨RowAt.onK h.row ho (fun k hk=>hk),h.cap,h.some',h.big,h.i64⟩
theorem part_n {w:World} {B:Nat} {ra:Option Addr} {rc:Nat} {raw:List Int} (h:NumsAt w B ra rc raw) (i size:Nat) (hi:i≤1000) (hs:size≤1000) :
  Calls Tryz.prog 10 #[.slice ra raw.length rc,.int .i64 (i:Nat),.int .i64 (size:Nat)] w fun e w'=>∃ ra' rc',e=.returned (.slice ra' (partL raw i size).length rc')∧RowAt w B ra' ((partL raw i size).map (.int .i64))∧w'=w :=
 part_any ra rc raw i size B w h.row h.cap h.some' hi hs (vJ h.cap h.big) h.big
end Go.Proofs.YtngpplmndpmgiaaGreat.Tree
namespace Go.Proofs.YtngpplmndpmgiaaGreat.Tree
open Go.RowKit Go.ChangeShapes Go.WideShapes Go.ChangeAt Go.Proofs.YtngpplmndpmgiaaGreat.Pages
theorem open_numsAt {H:Type} {enc:TypeId×Value→H} {W:World} {base:Nat} {v:Value} {d:DataW H} {p:List MemPlace} (hv:Value.okWide Tryz.prog W .any base 22 v) (h:DataW.Trod enc Tryz.prog W 0 (fun _=>true) true 22 v d p) :
  ∃ (a:Option Addr) (c:Nat) (ns:List Int),v=.slice a ns.length c∧NumsAt W W.heap.size a c ns:=by
 have hm63:maxLen≤9223372036854775807:=by decide +kernel
 obtain⟨a0,len0,cap0,rfl⟩:=okWide_slice Tryz.underlying22 hv
 obtain⟨fuel,hf⟩:=h
 rcases Go.ChangeShapes.open_ints Tryz.underlying22 Tryz.underlying3 cells3' hf with⟨hcs,hx⟩|⟨a,len,cap,ss,hcs,_,hl,hm,hz,hx,hcell,hws⟩
 ·simp [Value.cells] at hcs
  obtain⟨rfl,rfl,rfl⟩:=hcs
  exact⟨none,0,[],rfl,.inl rfl,Nat.zero_le _,.inl rfl,by omega,by simp⟩
 ·have hlen:(ss.take len).length=len:=by simp at hz ⊢;omega
  simp [Value.cells] at hcs
  obtain⟨rfl,rfl,rfl⟩:=hcs
  have hrow:RowAt W W.heap.size (some a) ((ss.take len0).map (Value.int .i64)):=row_of3 fun i u hu=>by
   simp only [List.getElem?_map,Option.map_eq_some_iff] at hu
   obtain⟨s,hs,rfl⟩:=hu
   rw [List.getElem?_take] at hs
   split at hs
   ·have hi:=(List.getElem?_eq_some_iff.1 hs).1
    rw [hcell i hi]
    simp [List.getD,hs]
   ·cases hs
  have hspot:(0<cap0)→∃ b off,a=⟨b,off,none⟩:=fun hc0=>by
   simp only [if_true] at hz
   have h0:=hcell 0 (by omega)
   obtain⟨b,off,spot⟩:=a
   have hs:spot=none:=by simpa [Addr.add] using World.cell?_spot h0
   exact⟨b,off,by rw [hs]⟩
  refine⟨some a,cap0,ss.take len0,by rw [hlen],hrow,by rw [hlen];exact hl,?_,vJ hm hm63,fun x hx=>i64_of3 (hws x (List.mem_of_mem_take hx))⟩
  rcases Nat.eq_zero_or_pos cap0 with h0|h0
  ·exact .inl h0
  ·obtain⟨b,off,rfl⟩:=hspot h0
   exact .inr ⟨b,off,rfl⟩
end Go.Proofs.YtngpplmndpmgiaaGreat.Tree
namespace Go.Proofs.YtngpplmndpmgiaaGreat.Tree
open Go.RowKit Go.Proofs.YtngpplmndpmgiaaGreat.Pages
theorem torn_store {K:List ByteArray} {n v:Nat} {fs:Fs} {o:Option (Nat×T)} (S:Torn3 K n fs v o) (hv:v<9223372036854775808) (hn:2≤n):Store K n (fs.put ((v+1) % 2) (metaPg (v:Nat) (rootOf o:Nat)).encS).synced v o o:=by
 have hE:(metaPg (v:Nat) (rootOf o:Nat)).encE=0:=enc_meta (v:Nat) _ (by omega) (S.sure.root.imp (fun h=>by rw [h];rfl) id)
 have hf:(fs.put ((v+1) % 2) (metaPg (v:Nat) (rootOf o:Nat)).encS).fits:=Fs.fits_put (fun x hx=>by rw [S.late] at hx;simp at hx) (by rw [S.len];omega) _
 have hat:∀ p,(fs.put ((v+1) % 2) (metaPg (v:Nat) (rootOf o:Nat)).encS).synced.at p=if (v+1) % 2=p then (metaPg (v:Nat) (rootOf o:Nat)).encS else fs.at p:=fun p=>by rw [synced_at _ hf,put_at]
 have hlen:(fs.put ((v+1) % 2) (metaPg (v:Nat) (rootOf o:Nat)).encS).synced.safe.length=n:=(laid_length _ _).trans S.len
 have hs:Tr K (fs.put ((v+1) % 2) (metaPg (v:Nat) (rootOf o:Nat)).encS).synced o:=S.sure.stays (fun p hp g hg=>by
  have:=opages_ge S.sure.rooted S.sure.flat S.sure.root p hp
  refine⟨by rw [hlen,← S.len];exact hg.1,?_⟩
  rw [hat,if_neg (by omega)]
  exact hg.2)
 refine⟨rfl,hlen,?_,⟨v,.inr ?_,.inr ⟨rfl,rfl⟩⟩,hs,hs,laid_size _ _ S.size (fun x hx=>?_)⟩
 ·have:=S.meta0
  unfold MetaAt at this ⊢
  rw [hat,if_neg (by omega)]
  exact this
 ·rw [hat,if_pos rfl]
  exact enc_isPg _ (by show ((v:Nat):Int)<_;omega) hE
 ·simp only [Fs.put,S.late,List.nil_append,List.mem_singleton] at hx
  subst hx
  exact enc_size _ hE
def SkD (K:List ByteArray) (n:Nat) (Kp:Bl) (w wq:World) (d b j:Nat) (o ao:Option (Nat×T)) (x:Int) (cs:List Ch):Prop:=∃ D,DbAt wq 0 D∧D.fs.dy∧D.failed=false∧D.ver=j∧D.root=rootOf o∧D.aroot=rootOf ao∧Store K n D.fs j o ao∧(∀ k,fpD D k→¬ Kp k)∧On Kp w wq∧(∀ k,Kp k→k<w.heap.size)∧(∃ t,D.ts=[t]∧t.num=x∧t.cs=cs∧t.ks=[])∧D.d=d∧D.β=b
theorem die_k {K:List ByteArray} {n:Nat} {Kp:Bl} {w wq:World} {d b j m:Nat} {o ao:Option (Nat×T)} {wr:Bool} {x:Int} {cs:List Ch} (h:SkO K n Kp w wq d b j m o ao wr x cs) (c:Nat) (hc:c≤1000000) :
  Calls Tryz.prog 25 #[.pointer (some ⟨b,0,none⟩),.int .i64 (c:Nat)] wq fun e w'=>(∃ v,e=.returned v)∧SkD K n Kp w w' d b j o ao x cs:=by
 obtain⟨D,h,⟨t,hts,hx,hwr,htr,hcs,hks⟩,rfl,rfl⟩:=h
 refine(die_any D.β D.sv D.lv D.fs c wq h.db.file (by omega)).mono ?_
 rintro e w' ⟨he,hf,hF⟩
 have hD:=h.db.refile hf (hF.mono (fun k hk=>.inl (.inl hk)))
 exact⟨he,_,hD,⟨h.well.1,by show (-1:Int)≤(c:Nat);omega,by show ((c:Nat):Int)≤_;omega⟩,h.failed,h.ver,h.root,h.aroot,h.store.keep (fr:=[]) h.store.late h.store.len h.store.size (fun _ _=>rfl) (by simp) (by simp) (by simp),h.new,h.on hF (fun k hk=>h.new k (.inr (.inl (.inl hk)))),h.lies,⟨t,hts,hx,hcs,hks⟩,rfl,rfl⟩
def Left (K:List ByteArray) (n:Nat) (fs:Fs) (j:Nat) (o:Option (Nat×T)) (cs:List Ch) (r:Bool):Prop:=∃ j1 o1,(Torn3 K n fs j1 o1∨∃ ao1,Store K n fs j1 o1 ao1)∧((r=false∧j1=j∧o1=o)∨((j1=j+1∨(r=true∧j1=j))∧(oents o1).map En.kv=(overE (oents o) cs).map En.kv))
def FB (A:Fs→Prop) (Kp:Bl) (w wq:World) (b:Nat):Prop:=∃ sv lv fs,FileAt wq b sv lv fs∧A fs∧(∀ k,fpF b sv lv k→¬ Kp k)∧On Kp w wq∧∀ k,Kp k→k<w.heap.size
theorem FB.kept {A:Fs→Prop} {Kp:Bl} {w wq:World} {b:Nat} (h:FB A Kp w wq b):On Kp w wq:=by
 obtain⟨_,_,_,_,_,_,h,_⟩:=h
 exact h
theorem FB.left {K:List ByteArray} {n:Nat} {Kp:Bl} {w wq:World} {b j:Nat} {o:Option (Nat×T)} {cs:List Ch} {r:Bool} (h:FB (fun fs=>Left K n fs j o cs r∧fs.well) Kp w wq b):∃ j1 o1,FB (fun fs=>(Torn3 K n fs j1 o1∨∃ ao,Store K n fs j1 o1 ao)∧fs.well) Kp w wq b∧((r=false∧j1=j∧o1=o)∨((j1=j+1∨(r=true∧j1=j))∧(oents o1).map En.kv=(overE (oents o) cs).map En.kv)):=by
 obtain⟨sv,lv,fs,hf,⟨⟨j1,o1,hS,hor⟩,hw⟩,r⟩:=h
 exact⟨j1,o1,⟨sv,lv,fs,hf,⟨hS,hw⟩,r⟩,hor⟩
theorem comd_k {K:List ByteArray} {n:Nat} (hK:KOk K n) {Kp:Bl} {w wq:World} {d b j:Nat} {o ao:Option (Nat×T)} {x:Int} {cs:List Ch} (h:SkD K n Kp w wq d b j o ao x cs) (hc:CsOk K cs) (hj:j≤1000000) :
  ∃ r:Bool,Calls Tryz.prog 24 #[.pointer (some ⟨d,0,none⟩),.int .i64 x] wq fun e w'=>e=.returned (.int .i64 (if r then 0 else 9))∧FB (fun fs=>Tidy fs∧∀ fs2:Fs,Crashed fs.safe fs.late fs2.safe→fs2.late=[]→Left K n fs2 j o cs r) Kp w w' b:=by
 obtain⟨D,hD,hdy,hfd,hv,hr,har,S,hnew,hon,hlies,⟨t,hts,hx,hcs,hks⟩,rfl,rfl⟩:=h
 have hF':∀ {D':Db} {w':World},Fr (fpD D) wq w'→Grows wq (fpD D) (fpD D')→(∀ k,fpF D'.β D'.sv D'.lv k→¬ Kp k)∧On Kp w w':=fun hF hG=>by
  refine⟨fun k hk hp=>?_,hon.trans (hF.on (fun k hk=>⟨jY (hlies k hk) hon.size,fun e=>hnew k e hk⟩))⟩
  rcases hG k (.inr (.inl hk)) with h1|h1
  ·exact hnew k h1 hp
  ·have:=hlies k hp
   have:=hon.size
   omega
 by_cases hne:cs=[]
 ·subst hne
  refine⟨true,(com0_any D x t wq hD hts hx hcs).mono ?_⟩
  rintro e w' ⟨z,D',rfl,hD',hd,hF,hG,rfl,g,c,hov,rfl⟩
  obtain⟨h1,h2⟩:=hF' hF hG
  refine⟨rfl,D.sv,D.lv,D.fs,hD'.file,⟨S.tidy,fun fs2 hcr hl=>?_⟩,h1,h2,hlies⟩
  rw [S.late] at hcr
  have e:=crash_none hcr S.size
  exact⟨j,o,.inr ⟨ao,S.keep (fr:=[]) hl (by rw [e];exact S.len) (by rw [e];exact S.size) (fun p _=>by rw [at_none hl,at_none S.late,e]) (by simp) (by simp) (by simp)⟩,.inr ⟨.inr ⟨rfl,rfl⟩,by rw [over_none (oents_rise S.sure.rooted)]⟩⟩
 ·subst hcs
  have hne':0<t.cs.length:=List.length_pos_iff.2 hne
  obtain⟨hP,hA⟩:=plan_of (K:=K) (n:=n) (fs:=D.fs) (o:=o) (cs:=t.cs) (os:=[o,ao]) S.len hK.small (fun o' ho'=>by
   rcases List.mem_cons.1 ho' with rfl|ho'
   ·exact S.sure
   ·rw [List.mem_singleton] at ho';subst ho';exact S.ahead) (by simp) hc.rise hc.good hc.keys hK.k24 hK.ksum (by simp only [List.length_cons,List.length_nil];exact hK.room)
  have hn40:=hK.n40
  rw [← S.len] at hA
  have hP':Plan K n D.fs o t.cs (freeP D.fs.safe.length (usedP [o,ao])):=by rw [S.len];exact hP
  obtain⟨_,_,_,c4,_⟩:=commit_store S hP' (by omega) (by omega)
  obtain⟨⟨r,fs'⟩,hRR⟩:∃ R,D.fs.sureA (planP o t.cs (freeP D.fs.safe.length (usedP [o,ao]))).2 ((j+1) % 2) (metaPg (j+1:Nat) (rootOf (planP o t.cs (freeP D.fs.safe.length (usedP [o,ao]))).1:Nat))=R:=⟨_,rfl⟩
  have hFo:=sure_fore S hP' (hA ao (by simp)) (by omega) (by omega) hRR
  refine⟨r,(com_d (K:=K) (n:=n) D x j o ao t wq hD hts hx hne' hks hc.len hdy hfd hv (by omega) S (by omega) hr har hP' r fs' hRR).mono ?_⟩
  rintro e w' ⟨z,D',rfl,hD',hd,hF,hG,rfl,rfl,hβ⟩
  obtain⟨h1,h2⟩:=hF' hF hG
  rw [← hβ]
  refine⟨rfl,D'.sv,D'.lv,D'.fs,hD'.file,⟨hFo.tidy,fun fs2 hcr hl=>?_⟩,h1,h2,hlies⟩
  have hAf:=hFo.aft fs2 hcr hl
  cases hAf with
  | old h=>exact⟨j,o,.inr ⟨ao,h⟩,.inl ⟨rfl,rfl,rfl⟩⟩
  | torn h=>exact⟨j,o,.inl h,.inl ⟨rfl,rfl,rfl⟩⟩
  | new b h=>exact⟨j+1,_,.inr ⟨o,h⟩,.inr ⟨.inl rfl,c4⟩⟩
theorem crash_t {A:Fs→Prop} {Kp:Bl} {w wq:World} {b:Nat} (h:FB (fun fs=>Tidy fs∧∀ fs2:Fs,Crashed fs.safe fs.late fs2.safe→fs2.late=[]→A fs2) Kp w wq b) (ka:Option Addr) (kc:Nat) (keep:List Int) (B:Nat) (hR:RowAt wq B ka (keep.map (.int .i64))) (hB:∀ k,k<B→Kp k) (hn:keep.length≤9223372036854775807) :
  Calls Tryz.prog 13 #[.pointer (some ⟨b,0,none⟩),.slice ka keep.length kc] wq fun e w'=>(∃ v,e=.returned v)∧FB (fun fs=>A fs∧fs.well) Kp w w' b:=by
 obtain⟨sv,lv,fs,hf,⟨hT,hA⟩,hnew,hon,hlies⟩:=h
 refine(crash_any b sv lv fs ka kc keep (fun k=>k<B) wq hf (fun p hp=>hT.size _ (List.getElem_mem hp)) hT.late hT.fits hR (fun k hk=>⟨jY (hlies k (hB k hk)) hon.size,fun e=>hnew k e (hB k hk)⟩) hn).mono ?_
 rintro e w' ⟨he,safe',hcr,hf',hF⟩
 refine⟨he,sv,_,_,hf',⟨hA _ hcr rfl,rfl,rfl⟩,fun k hk=>?_,hon.trans (hF.on (fun k hk=>⟨jY (hlies k hk) hon.size,fun e=>hnew k e hk⟩)),hlies⟩
 rcases hk with hk|hk|hk
 ·exact hnew k (.inl hk)
 ·exact hnew k (.inr (.inl hk))
 ·simp [Value.ownBlock] at hk
theorem open_t {K:List ByteArray} {n:Nat} {Kp:Bl} {w wq:World} {b j:Nat} {o:Option (Nat×T)} (h:FB (fun fs=>(Torn3 K n fs j o∨∃ ao,Store K n fs j o ao)∧fs.well) Kp w wq b) (hn:40≤n) (hj:j≤1000000) :
  Calls Tryz.prog 14 #[.pointer (some ⟨b,0,none⟩)] wq fun e w'=>∃ d ao,e=.returned (.tuple #[.pointer (some ⟨d,0,none⟩),.int .i64 0])∧SkL K n Kp w w' d b j 0 o ao:=by
 obtain⟨sv,lv,fs,hf,⟨hS,hw⟩,hnk,ho,hl⟩:=h
 rcases hS with hS|⟨ao,hS⟩
 ·refine(open_bad hS hn hw b sv lv wq hf).mono ?_
  rintro e w' ⟨D,rfl,hD,h1,h2,h3,h4,h5,h6,h7,h8,h9,hF,hG⟩
  refine⟨_,o,rfl,D,⟨hD,h3▸hw,h7,h4,h5,h6,by rw [h8];exact Int.le_refl _,by rw [h8];exact Int.le_refl _,h3▸torn_store hS (by omega) (by omega),fun k hk hp=>?_,ho.trans (hF.on (fun k hk=>⟨jY (hl k hk) ho.size,fun e=>hnk k e hk⟩)),hl⟩,h9,rfl,h1⟩
  rcases hG k hk with h'|h'
  ·exact hnk k h' hp
  ·have:=hl k hp
   have:=ho.size
   omega
 ·refine(open_k ⟨sv,lv,fs,hf,hS,hw,hnk,ho,hl⟩ hn).mono ?_
  rintro e w' ⟨d,he,h⟩
  exact⟨d,ao,he,h⟩
theorem SkL.tells {K:List ByteArray} {n:Nat} {Kp:Bl} {w wq:World} {d b j m:Nat} {o ao:Option (Nat×T)} {xs:List En} {th:List Bool} {vs:List ByteArray} (h:SkL K n Kp w wq d b j m o ao) (ht:Told xs th vs) (hkv:(oents o).map En.kv=xs.map En.kv):Told (oents o) th vs:=by
 obtain⟨D,hD,_⟩:=h
 exact ht.kv hkv (oents_rise hD.store.sure.rooted)
theorem torn_walk (ra la ka:Option Addr) (rc lc kc:Nat) (raw last keep:List Int) (die:Int) (w:World) (hR:NumsAt w w.heap.size ra rc raw) (hL:NumsAt w w.heap.size la lc last) (hK:NumsAt w w.heap.size ka kc keep) (hd0 : -9223372036854775808≤die) (hd1:die≤9223372036854775807) :
  Calls Tryz.prog 7 #[.slice ra raw.length rc,.slice la last.length lc,.int .i64 die,.slice ka keep.length kc] w fun e w'=>e=.returned (.bool true)∧Below w.heap.size w w':=by
 have hFr:=fresh_k (n:=400) (by omega) (by omega) w
 have HR:Hid (NumsAt w w.heap.size ra rc raw):=hR
 have HL:Hid (NumsAt w w.heap.size la lc last):=hL
 have HK:Hid (NumsAt w w.heap.size ka kc keep):=hK
 clear hR hL hK
 go_enter Tryz.func7,Tryz.ntmps7
 go_wp2_with (go_at_call 8;(with_reducible refine Calls.mono hFr ?_);rintro e X0 ⟨d0,b0,rfl,hL0⟩)
 clear hFr
 have HB0:Hid (BookSt 400 (Bl.or (fun k=>k<w.heap.size) (Bl.one X0.heap.size)) (X0.alloc zeroBook) d0 b0 0 0 none none X0.heap.size (List.replicate 12 false) (List.replicate 12 ⟨#[]⟩)):=⟨hL0.make zeroBook,book_zero X0,.inr rfl,told_none⟩
 have HO0:Hid (On (fun k=>k<w.heap.size) w (X0.alloc zeroBook)):=hL0.kept.alloc (fun k hk=>jY hk hL0.kept.size) _
 have HQ:Hid (w.heap.size≤X0.heap.size):=hL0.kept.size
 obtain⟨q,hq⟩:∃ q,X0.heap.size=q:=⟨_,rfl⟩
 rw [hq] at HB0 HQ ⊢
 clear hL0 hq
 go_loopw [12] (fun i wr=>∃ (k j m:Nat) (o ao:Option (Nat×T)) (th:List Bool) (vs:List ByteArray),i=.int .i64 k∧k≤3∧j≤k∧m≤k∧Hid (BookSt 400 (Bl.or (fun k=>k<w.heap.size) (Bl.one q)) wr d0 b0 j m o ao q th vs)∧Hid (On (fun k=>k<w.heap.size) w wr)) (fun i _=>3-(intOf i).toNat)
 case atStart=>exact⟨0,0,0,none,none,_,_,rfl,by omega,by omega,by omega,HB0,HO0⟩
 case round =>
  obtain⟨k,j,m,o,ao,th,vs,rfl,hk3,hjk,hmk,HB,HO⟩:=hrel
  clear HB0 HO0
  by_cases hlt:k<3
  ·have hki:(k:Int)<3:=by omega
   have hP1:=part_n (HR.out.on HO.out) k 6 (by omega) (by omega)
   rw [show ((6:Nat):Int)=6 from rfl] at hP1
   go_wp2_with (first
    | (go_at_call 10;(with_reducible refine Calls.mono hP1 ?_);rintro e X ⟨ra1,rc1,rfl,hR1,hX⟩;subst X;have hCm:=commit_any (kOk (n:=400) (by omega) (by omega)) HB.out (by omega) (by omega) ra1 rc1 (partL raw k 6) w.heap.size hR1 (fun i hi=>⟨.inl hi,fun e=>by have:=HQ.out;omega⟩) (fun x hx=>HR.out.i64 x (partL_mem hx));clear hP1)
    | (go_at_call 9;(with_reducible refine Calls.mono hCm ?_);rintro e X1 ⟨rfl,j1,o1,ao1,th1,vs1,hB1,hj1,hO1⟩;clear hCm))
   exact⟨⟨k+1,j1,m+1,o1,ao1,th1,vs1,by go_num,by omega,by omega,by omega,hB1,HO.out.trans (hO1.mono (fun i hi=>⟨.inl hi,fun e=>by have:=HQ.out;omega⟩))⟩,by simp [intOf];omega⟩
  ·obtain rfl:k=3:=by omega
   have hV:=ver_i HB.out.st
   go_wp2_with (first
    | (go_at_call 15;(with_reducible refine Calls.mono hV ?_);rintro e X1 ⟨rfl,hS1⟩;have x1:BookAt X1 q th vs:=HB.out.book.on hS1.kept HB.out.own;have xz:=book_zero X1;clear hV)
    | (refine wp_book rfl (.tmp 11) rfl q rfl x1 ?_)
    | (refine wp_bookst rfl (.tmp 15) (.tmp 43) rfl X1.heap.size rfl rfl xz x1.lt x1.lv ?_;intro X3 hB3 hF3;have hBg:=begin_k ((hS1.make zeroBook).touch hF3 (.inr rfl)) true (by omega))
    | (go_at_call 16;(with_reducible refine Calls.mono hBg ?_);rintro e X4 ⟨x,rfl,hS4⟩))
   have hz1:wr.heap.size≤X1.heap.size:=hS1.kept.size
   have hKl:=HB.out.st.below
   have hbA:Below X1.heap.size X1 (X1.alloc zeroBook):=(Below.refl _ _).alloc (jU _) _
   have HO3:Hid (On (Bl.or (fun k=>k<w.heap.size) (Bl.one q)) wr X3):=(hS1.kept.trans (vV hbA (fun k hk=>jY (hKl k hk) hz1))).trans (hF3.on (fun k hk=>⟨jY (hKl k hk) (vJ hz1 hbA.size),fun e=>by simp only [Bl.one] at e;have:=hKl k hk;omega⟩))
   have HO4:Hid (On (Bl.or (fun k=>k<w.heap.size) (Bl.one q)) wr X4):=HO3.out.trans (hS4.kept.mono (fun i hi=>.inl hi))
   obtain⟨nq,hnq⟩:∃ nq,X1.heap.size=nq:=⟨_,rfl⟩
   have HNQ:Hid (∀ k,(Bl.or (fun k=>k<w.heap.size) (Bl.one q)) k→k<nq):=fun k hk=>by have:=hKl k hk;omega
   have HD4:Hid (DeedSt 400 (Bl.or (Bl.or (fun k=>k<w.heap.size) (Bl.one q)) (Bl.one nq)) X4 d0 b0 j (m+1) o ao x [] nq th vs):=by
    rw [hnq] at hS4 hB3
    exact⟨hS4.now,⟨.nil,by simp,by simp,by simp⟩,hB3.on hS4.kept (.inr rfl),.inr rfl,by rw [over_none HB.out.told.rise];exact HB.out.told⟩
   rw [hnq]
   clear hS1 x1 xz hB3 hF3 hbA hz1 hKl hBg hS4 HO3 hnq
   go_loopw [18] (fun i wq=>∃ (k:Nat) (cs:List Ch) (th':List Bool) (vs':List ByteArray),i=.int .i64 k∧k≤8∧Hid (DeedSt 400 (Bl.or (Bl.or (fun k=>k<w.heap.size) (Bl.one q)) (Bl.one nq)) wq d0 b0 j (m+1) o ao x cs nq th' vs')∧cs.length≤k∧Hid (On (Bl.or (fun k=>k<w.heap.size) (Bl.one q)) wr wq)) (fun i _=>8-(intOf i).toNat)
   case atStart=>exact⟨0,[],th,vs,rfl,by omega,HD4,by simp,HO4⟩
   case round =>
    obtain⟨k,cs,th',vs',rfl,hk8,HD,hcl,HOq⟩:=hrel
    clear HD4 HO4
    have HOw:Hid (On (fun k=>k<w.heap.size) w wr):=HO.out.trans (HOq.out.mono (fun i hi=>.inl hi))
    by_cases hlt:k<last.length∧k<8
    ·have hk1:(k:Int)<(last.length:Int):=by omega
     have hk2:(k:Int)<8:=by omega
     obtain⟨y,hy⟩:∃ y,last[k]'hlt.1=y:=⟨_,rfl⟩
     have hyr:=HL.out.i64 y (hy▸List.getElem_mem hlt.1)
     rcases (HL.out.on HOw.out).row with hR'|⟨rb,off,rfl,hrb,hRc⟩
     ·have h0:(last.map (Value.int .i64)).length=0:=by rw [hR'];rfl
      rw [List.length_map] at h0
      omega
     have hcell:wr.cell? ⟨rb,off+k,none⟩=some (.int .i64 y):=hRc k _ (by rw [List.getElem?_map,jQ hlt.1,hy];rfl)
     have hDe:=deed_any HD.out y hyr.1 hyr.2 (by omega)
     have hlcp:last.length≤lc:=HL.out.cap
     clear hy hyr hRc
     go_wp2_with (go_at_call 17;(with_reducible refine Calls.mono hDe ?_);rintro e X5 ⟨rfl,cs2,th2,vs2,hD2,hl2,ho2⟩)
     exact⟨⟨k+1,cs2,th2,vs2,by go_num,by omega,hD2,by omega,HOq.out.trans (ho2.mono (fun i hi=>⟨.inl hi,fun e=>by subst e;have:=HNQ.out _ hi;omega⟩))⟩,by simp [intOf];omega⟩
    ·obtain⟨c,hc⟩:∃ c:Nat,pickV die 40=c:=⟨(pickV die 40).toNat,(Int.toNat_of_nonneg (pickV_range die 40 (by omega)).1).symm⟩
     have hc40:c<40:=by have:=(pickV_range die 40 (by omega)).2;omega
     have HPk:Hid (∀ X,Calls Tryz.prog 20 #[.int .i64 die,.int .i64 40] X fun e w'=>e=.returned (.int .i64 (c:Nat))∧w'=X):=fun X=>by rw [← hc];exact pick_val die 40 X hd0 hd1 (by omega)
     have hPk:=HPk.out wr
     have hDi:=die_k HD.out.st c (by omega)
     have hw:IntKind.i64.wrap ((j:Int)+1)=(j:Int)+1:=by rw [IntKind.wrap_i64];omega
     have hKn:keep.length≤9223372036854775807:=vJ HK.out.cap HK.out.big
     clear hc
     rcases (by omega:last.length≤k∨(k<last.length∧8≤k)) with hx|hx
     all_goals
      have hx1:(last.length:Int)≤(k:Int)∨((k:Int)<(last.length:Int)∧(8:Int)≤(k:Int)):=by omega
      go_wp2_with (first
       | (go_at_call 20;(with_reducible refine Calls.mono hPk ?_);rintro e X ⟨rfl,hX⟩;subst X;clear hPk)
       | (go_at_call 25;(with_reducible refine Calls.mono hDi ?_);rintro e X5 ⟨⟨v5,rfl⟩,hS5⟩;obtain⟨r,hCm⟩:=comd_k (kOk (n:=400) (by omega) (by omega)) hS5 HD.out.ok (by omega);clear hDi hS5;cases r)
       | (go_at_call 24;(with_reducible refine Calls.mono hCm ?_);rintro e X6 ⟨rfl,hB6⟩;have hCr:=crash_t hB6 ka kc keep w.heap.size (HK.out.on (HOw.out.trans (hB6.kept.mono (fun i hi=>.inl (.inl hi))))).row (fun i hi=>.inl (.inl hi)) hKn;clear hCm hB6)
       | (go_at_call 13;(with_reducible refine Calls.mono hCr ?_);rintro e X7 ⟨⟨v7,rfl⟩,hF7⟩;obtain⟨j1,o1,hB7,hor⟩:=hF7.left;have hOp:=open_t hB7 (by omega) (by omega);clear hCr hF7 hB7)
       | (go_at_call 14;(with_reducible refine Calls.mono hOp ?_);rintro e X8 ⟨d8,ao8,rfl,hS8⟩;have hV8:=ver_i hS8;clear hOp)
       | (go_at_call 15;(with_reducible refine Calls.mono hV8 ?_);rintro e X9 ⟨rfl,hS9⟩;clear hV8;have y9:=HD.out.book.on hS9.kept (.inr rfl);have z9:=(HB.out.book.on HOq.out (.inr rfl)).on hS9.kept (.inl (.inr rfl));(rcases hor with⟨hr,hj1,ho1⟩|⟨hj1|⟨hr,hj1⟩,hkv⟩)<;>(first|(exact absurd hr (by decide))|(have hSh:=shows_any hS9 th vs (ho1▸HB.out.told) (by omega);subst hj1)|(have hSh:=shows_any hS9 th' vs' (hS9.tells HD.out.told hkv) (by omega);subst hj1)))
       | (refine wp_book rfl (.tmp 15) rfl nq rfl y9 ?_)
       | (refine wp_book_g rfl (.tmp 15) rfl nq rfl y9 ?_)
       | (refine wp_book_g rfl (.tmp 11) rfl q rfl z9 ?_)
       | (go_at_call 11;(with_reducible refine Calls.mono hSh ?_);rintro e X10 ⟨rfl,hS10⟩))
      all_goals
       go_ret
       have hOf:=HOw.out.trans (hS10.kept.mono (fun i hi=>.inl (.inl hi)))
       exact⟨rfl,hOf.os,hOf.tape,hOf.output,hOf.size,hOf.block⟩
end Go.Proofs.YtngpplmndpmgiaaGreat.Tree
