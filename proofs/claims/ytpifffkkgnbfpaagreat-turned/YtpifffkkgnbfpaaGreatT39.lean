import Derived.Test.YtpifffkkgnbfpaaGreatT37
import Derived.Test.YtpifffkkgnbfpaaGreatT38
import Derived.Test.YtpifffkkgnbfpaaGreatT29
set_option linter.unusedSimpArgs false
set_option linter.unusedVariables false
set_option maxRecDepth 100000
set_option maxHeartbeats 8000000
namespace Go.Proofs.YtpifffkkgnbfpaaGreat.Tree
open Go.RowKit Pages
variable {raw:List Int}
theorem qDi {n:Nat} (hn:40≤n) (hn2:n≤4096) (w:World) :
  Calls Tryz.prog 10 #[.int .i64 (n:Nat)] w fun e w'=>∃ d b,e=.returned (.tuple #[.pointer (some ⟨d,0,none⟩),.pointer (some ⟨b,0,none⟩)])∧SkL bT n (fun k=>k<w.heap.size) w w' d b 0 0 none none:=by
 refine(qAs (K:=bT) hn hn2 w).mono ?_
 rintro e w' ⟨D,rfl,h,hi⟩
 exact⟨_,_,rfl,D,⟨h.db,h.well,h.failed,h.ver,h.root,h.aroot,h.last0,h.last1,h.store,fun k hk hp=>by have:=h.new k hk;omega,vV h.below (fun k hk=>hk),fun k hk=>hk⟩,hi,rfl,rfl⟩
theorem Vh {i size:Nat} {x:Int} (h:x∈kD raw i size):x∈raw:=List.mem_of_mem_drop (List.mem_of_mem_take h)
structure uH (w:World) (B:Nat) (ra:Option Addr) (rc:Nat) (raw:List Int):Prop where
 row:cW w B ra (raw.map (.int .i64))
 cap:raw.length≤rc
 some':rc=0∨∃ b off,ra=some ⟨b,off,none⟩
 big:rc≤9223372036854775807
 i64:∀ x∈raw,-9223372036854775808≤x∧x≤9223372036854775807
theorem uH.on {w w':World} {B:Nat} {ra:Option Addr} {rc:Nat}  (h:uH w B ra rc raw) (ho:On (fun k=>k<B) w w'):uH w' B ra rc raw:=⟨cW.onK h.row ho (fun k hk=>hk),h.cap,h.some',h.big,h.i64⟩
theorem qEl {w:World} {B:Nat} {ra:Option Addr} {rc:Nat}  (h:uH w B ra rc raw) (i size:Nat) (hi:i≤1000) (hs:size≤1000) :
  Calls Tryz.prog 12 #[.slice ra raw.length rc,.int .i64 (i:Nat),.int .i64 (size:Nat)] w fun e w'=>∃ ra' rc',e=.returned (.slice ra' (kD raw i size).length rc')∧cW w B ra' ((kD raw i size).map (.int .i64))∧w'=w :=
 Zj ra rc raw i size B w h.row h.cap h.some' hi hs (vJ h.cap h.big) h.big
open Go.ChangeShapes Go.WideShapes Go.ChangeAt
theorem Li {H:Type} {enc:TypeId×Value→H} {W:World} {base:Nat} {v:Value} {d:DataW H} {p:List MemPlace} (hv:Value.okWide Tryz.prog W .any base 22 v) (h:DataW.Trod enc Tryz.prog W 0 (fun _=>true) true 22 v d p) :
  ∃ (a:Option Addr) (c:Nat) (ns:List Int),v=.slice a ns.length c∧uH W W.heap.size a c ns:=by
 have hm63:maxLen≤9223372036854775807:=by decide +kernel
 obtain⟨a0,len0,cap0,rfl⟩:=okWide_slice Tryz.underlying22 hv
 obtain⟨fuel,hf⟩:=h
 rcases Go.ChangeShapes.open_ints Tryz.underlying22 Tryz.underlying3 qDq hf with⟨hcs,hx⟩|⟨a,len,cap,ss,hcs,_,hl,hm,hz,hx,hcell,hws⟩
 ·simp [Value.cells] at hcs
  obtain⟨rfl,rfl,rfl⟩:=hcs
  exact⟨none,0,[],rfl,.inl rfl,Nat.zero_le _,.inl rfl,by omega,by simp⟩
 ·have hlen:(ss.take len).length=len:=by simp at hz ⊢;omega
  simp [Value.cells] at hcs
  obtain⟨rfl,rfl,rfl⟩:=hcs
  have hrow:cW W W.heap.size (some a) ((ss.take len0).map (Value.int .i64)):=qCp fun i u hu=>by
   simp only [List.getElem?_map,Option.map_eq_some_iff] at hu
   obtain⟨s,hs,rfl⟩:=hu
   rw [List.getElem?_take] at hs
   split at hs
   ·have hi:=(List.getElem?_eq_some_iff.1 hs).1
    rw [hcell i hi]
    simp [List.getD,hs]
   ·cases hs
  have hspot:(0<cap0)→∃ b off,a=⟨b,off,none⟩:=fun hc0=>by
   simp only [if_true] at hz
   have h0:=hcell 0 (by omega)
   obtain⟨b,off,spot⟩:=a
   have hs:spot=none:=by simpa [Addr.add] using World.cell?_spot h0
   exact⟨b,off,by rw [hs]⟩
  refine⟨some a,cap0,ss.take len0,by rw [hlen],hrow,by rw [hlen];exact hl,?_,vJ hm hm63,fun x hx=>zY (hws x (List.mem_of_mem_take hx))⟩
  rcases Nat.eq_zero_or_pos cap0 with h0|h0
  ·exact .inl h0
  ·obtain⟨b,off,rfl⟩:=hspot h0
   exact .inr ⟨b,off,rfl⟩
variable {K:List ByteArray} {Kp:Bl} {ao o x:Option (Nat×T)} {b j n q r:Nat} {w wq:World}
def FK (K:List ByteArray) (n:Nat) (Kp:Bl) (w wq:World) (b j:Nat) (o ao:Option (Nat×T)):Prop:=∃ sv lv fs,aD wq b sv lv fs∧gK K n fs j o ao∧fs.well∧(∀ k,fpF b sv lv k→¬ Kp k)∧On Kp w wq∧∀ k,Kp k→k<w.heap.size
theorem qBn {d b j m:Nat}  (h:SkL K n Kp w wq d b j m o ao) :
  Calls Tryz.prog 14 #[.pointer (some ⟨b,0,none⟩)] wq fun e w'=>∃ b' D,e=.returned (.pointer (some ⟨b',0,none⟩))∧aO w' 0 D∧D.d=d∧D.ver=j∧FK K n (Bl.or Kp (fpD D)) w' w' b' j o ao∧Below wq.heap.size wq w':=by
 obtain⟨D,h,hi,rfl,rfl⟩:=h
 refine(Np D.β D.sv D.lv D.fs wq h.db.file).mono ?_
 rintro e w' ⟨b',sv',lv',rfl,hf',hb',hn⟩
 have hl:∀ k,(Bl.or Kp (fpD D)) k→k<wq.heap.size:=by
  rintro k (hk|hk)
  ·exact jY (h.lies k hk) h.kept.size
  ·exact h.db.lies k hk
 refine⟨b',D,rfl,h.db.on (vV hb' h.db.lies),rfl,h.ver,⟨sv',lv',D.fs,hf',h.store,h.well,fun k hk hp=>?_,On.refl _ _,fun k hk=>jY (hl k hk) hb'.size⟩,hb'⟩
 have:=hn k hk
 have:=hl k hp
 omega
def Fs.turn (fs:Fs) (p k:Nat) (t:UInt8):Fs:={ fs with safe:=fs.safe.set p (kX (fs.safe.getD p ⟨#[]⟩) k t) }
variable {fs:Fs}
theorem Sl (hl:fs.late=[]) {p:Nat} (hp:p<fs.safe.length) (k:Nat) (t:UInt8) (q:Nat):(fs.turn p k t).at q=if p=q then kX (fs.at p) k t else fs.at q:=by
 have h':(fs.turn p k t).late=[]:=hl
 rw [Ae h',Ae hl,Ae hl]
 show (fs.safe.set p _).getD q _=_
 rw [List.getD_eq_getElem?_getD,List.getElem?_set]
 by_cases e:p=q
 ·subst e
  rw [if_pos rfl,if_pos hp,if_pos rfl]
  rfl
 ·rw [if_neg e,if_neg e,List.getD_eq_getElem?_getD]
structure kB (K:List ByteArray) (n:Nat) (fs:Fs) (p k:Nat) (t:UInt8) (j:Nat) (o ao:Option (Nat×T)):Prop where
 store:gK K n fs j o ao
 well:fs.well
 lt:p<n
 k256:k<256
 other:(fs.at p).data.toList[k]?≠some t
def FT (K:List ByteArray) (n:Nat) (Kp:Bl) (w wq:World) (b p j:Nat) (o ao:Option (Nat×T)):Prop:=∃ sv lv fs k t,aD wq b sv lv (fs.turn p k t)∧kB K n fs p k t j o ao∧(∀ k,fpF b sv lv k→¬ Kp k)∧On Kp w wq∧∀ k,Kp k→k<w.heap.size
theorem Su (h:FK K n Kp w wq b j o ao) (p k:Nat) (m:Int) (hp:p<n) (hk:k<256) (h0:0≤m) (h1:m<255) :
  Calls Tryz.prog 31 #[.pointer (some ⟨b,0,none⟩),.int .i64 (p:Nat),.int .i64 (k:Nat),.int .i64 (1+m)] wq fun e w'=>(∃ v,e=.returned v)∧FT K n Kp w w' b p j o ao:=by
 obtain⟨sv,lv,fs,hf,hS,hw,hn,ho,hl⟩:=h
 have hpl:p<fs.safe.length:=by rw [hS.len];exact hp
 refine(Us b sv lv fs p k m wq hf h0 h1 hpl hk (hS.size _ (List.getElem_mem hpl))).mono ?_
 rintro e w' ⟨he,t,ht,hf',hF⟩
 have e1:fs.safe.getD p ⟨#[]⟩=fs.safe[p]:=getD_in hpl
 refine⟨he,sv,lv,fs,k,t,by unfold Fs.turn;rw [e1];exact hf',⟨hS,hw,hp,hk,by rw [Ae hS.late,e1];exact ht⟩,hn,ho.trans (hF.on (fun k hk=>⟨jY (hl k hk) ho.size,fun e=>hn k e hk⟩)),hl⟩
section
variable {K:List ByteArray} {n:Nat} {fs:Fs} {p k:Nat} {t:UInt8} {j:Nat} {o ao:Option (Nat×T)}
theorem kB.sizes (h:kB K n fs p k t j o ao):∀ s∈(fs.turn p k t).safe,s.size=256:=fun s hs=>by
 have hpl:p<fs.safe.length:=by rw [h.store.len];exact h.lt
 rcases List.mem_or_eq_of_mem_set hs with hs|rfl
 ·exact h.store.size s hs
 ·rw [Ov,getD_in hpl];exact h.store.size _ (List.getElem_mem hpl)
theorem kB.len (h:kB K n fs p k t j o ao):(fs.turn p k t).safe.length=n:=by
 show (fs.safe.set _ _).length=n
 rw [List.length_set];exact h.store.len
theorem kB.same (h:kB K n fs p k t j o ao)  (hq:q≠p):(fs.turn p k t).at q=fs.at q:=by
 rw [Sl h.store.late (by rw [h.store.len];exact h.lt),if_neg (fun e=>hq e.symm)]
theorem kB.self (h:kB K n fs p k t j o ao):(fs.turn p k t).at p=kX (fs.at p) k t:=by
 rw [Sl h.store.late (by rw [h.store.len];exact h.lt),if_pos rfl]
theorem kB.tr (h:kB K n fs p k t j o ao)  (hx:Tr K fs x) (hp:p ∉ bH x):Tr K (fs.turn p k t) x :=
 hx.stays (fun q hq g hg=>⟨by rw [h.len,← h.store.len];exact hg.1,by rw [h.same (fun e=>hp (e▸hq))];exact hg.2⟩)
theorem kB.low (h:kB K n fs p k t j o ao) (h2:p<2)  (hx:Tr K fs x):p ∉ bH x:=fun hp=>by
 have:=lQ hx.rooted hx.flat hx.root p hp
 omega
theorem kB.metaS (h:kB K n fs p k t j o ao) {q v r:Nat} (hq:q≠p) (hm:dO fs q v r):dO (fs.turn p k t) q v r:=by unfold dO;rw [h.same hq];exact hm
theorem kB.sole (h:kB K n fs p k t j o ao) (h2:p<2) {v r:Nat} (hb:dO fs p v r) {v':Nat}  (hx:Tr K fs x) (hm:dO fs (1-p) v' (rootOf x)):Yb K n (fs.turn p k t) (1-p) v' x :=
 ⟨by omega,h.store.late,h.len,h.metaS (by omega) hm,by rw [show 1-(1-p)=p by omega,h.self];exact Vt hb h.k256 h.other,h.tr hx (h.low h2 hx),h.sizes⟩
theorem Fu:∀ {h:Nat} {t:T} {s:Sp},aT fs h t s→∀ q∈T.pages h t,∃ g,fs.has q g
 | 0,.leaf p es,s,ht,q,hq=>by
  obtain⟨g,hg,_,_,_,_,hok⟩:=ht
  simp only [T.pages,List.mem_cons,List.mem_flatMap] at hq
  rcases hq with rfl|⟨x,hx,hq⟩
  ·exact⟨g,hg⟩
  ·obtain⟨g',h',_⟩:=kA (hok x hx) q hq
   exact⟨g',h'⟩
 | 0,.branch ..,_,ht,_,_=>ht.elim
 | h+1,.leaf ..,_,ht,_,_=>ht.elim
 | h+1,.branch p ks kids,s,ht,q,hq=>by
  obtain⟨g,hg,_,_,_,_,_,hall⟩:=ht
  simp only [T.pages,List.mem_cons,List.mem_flatMap] at hq
  rcases hq with rfl|⟨x,hx,hq⟩
  ·exact⟨g,hg⟩
  ·obtain⟨s',hs'⟩:=iZ (s:=s) (ks:=ks) hx
   exact Fu (hall _ hs') q hq
theorem Pt (h:aY fs r x)  (hq:q∈bH x):∃ g,fs.has q g:=by
 cases x with
 | none=>simp [bH] at hq
 | some y=>obtain⟨_,_,hs⟩:=h;exact Fu hs q hq
theorem kB.spoilt (h:kB K n fs p k t j o ao)  (hx:Tr K fs x) (hp:p∈bH x):fZ fs (fs.turn p k t) p:=by
 obtain⟨g,hg⟩:=Pt hx.rooted hp
 exact⟨h.len.trans h.store.len.symm,Fs.well_alive h.well,hg.1,by rw [h.self];exact Fv hg.2 h.k256 h.other,fun q hq=>h.same hq⟩
end
theorem Zp {b p j:Nat}  (h:FT K n Kp w wq b p j o ao) (hn:40≤n) (hj:j≤1000000) :
  Calls Tryz.prog 16 #[.pointer (some ⟨b,0,none⟩)] wq fun e w'=>(e=.returned (.tuple #[.pointer none,.int .i64 10])∧2≤p∧On Kp w w') ∨
   ∃ d j' o' ao',e=.returned (.tuple #[.pointer (some ⟨d,0,none⟩),.int .i64 0])∧SkL K n Kp w w' d b j' 0 o' ao'∧((j'=j∧o'=o)∨(p<2∧j'+1=j∧o'=ao)):=by
 obtain⟨sv,lv,fs,k,t,hf,hT,hnk,ho,hl⟩:=h
 have hw:(fs.turn p k t).well:=hT.well
 have mk:∀ {D:Db} {w':World} {fs2:Fs} {j':Nat} {o' ao':Option (Nat×T)},aO w' 0 D→D.β=b→D.fs=fs2→fs2.well→D.ver=j'→D.root=rootOf o'→D.aroot=rootOf ao'→D.failed=false→D.last=0→D.ts=[]→Fr (fpF b sv lv) wq w'→aH wq (fpF b sv lv) (fpD D)→gK K n fs2 j' o' ao'→SkL K n Kp w w' D.d b j' 0 o' ao':=by
  intro D w' fs2 j' o' ao' hD h1 h3 hw2 h4 h5 h6 h7 h8 h9 hF hG hS
  refine⟨D,⟨hD,h3▸hw2,h7,h4,h5,h6,by rw [h8];exact Int.le_refl _,by rw [h8];exact Int.le_refl _,h3▸hS,fun k hk hp=>?_,ho.trans (hF.on (fun k hk=>⟨jY (hl k hk) ho.size,fun e=>hnk k e hk⟩)),hl⟩,h9,rfl,h1⟩
  rcases hG k hk with h'|h'
  ·exact hnk k h' hp
  ·have:=hl k hp
   have:=ho.size
   omega
 have sole:∀ {q v':Nat} {x:Option (Nat×T)},Yb K n (fs.turn p k t) q v' x→v'≤j→((v'=j∧x=o)∨(p<2∧v'+1=j∧x=ao))→Calls Tryz.prog 16 #[.pointer (some ⟨b,0,none⟩)] wq fun e w'=>(e=.returned (.tuple #[.pointer none,.int .i64 10])∧2≤p∧On Kp w w')∨∃ d j' o' ao',e=.returned (.tuple #[.pointer (some ⟨d,0,none⟩),.int .i64 0])∧SkL K n Kp w w' d b j' 0 o' ao'∧((j'=j∧o'=o)∨(p<2∧j'+1=j∧o'=ao)):=by
  intro q v' x S hv hor
  refine(Zs S hn hw b sv lv wq hf).mono ?_
  rintro e w' ⟨D,rfl,hD,h1,h2,h3,h4,h5,h6,h7,h8,h9,hF,hG⟩
  exact .inr ⟨D.d,v',x,x,rfl,mk hD h1 h3 hw h4 h5 h6 h7 h8 h9 hF hG (S.store (by omega) (by omega)),hor⟩
 have hS:=hT.store
 obtain⟨v',hm1,hv'⟩:=hS.meta1
 by_cases h2:p<2
 ·by_cases hpj:p=j % 2
  ·have hm0:=hS.meta0
   rw [← hpj] at hm0
   rw [show (j+1) % 2=1-p by omega] at hm1
   rcases hv' with hv'|⟨rfl,hr⟩
   ·exact sole (hT.sole h2 hm0 hS.ahead hm1) (by omega) (.inr ⟨h2,hv',rfl⟩)
   ·exact sole (hT.sole h2 hm0 hS.sure (hr▸hm1)) (jU _) (.inl ⟨rfl,rfl⟩)
  ·have hp1:(j+1) % 2=p:=by omega
   have hm0:=hS.meta0
   rw [show j % 2=1-p by omega] at hm0
   rw [hp1] at hm1
   exact sole (hT.sole h2 hm1 hS.sure hm0) (jU _) (.inl ⟨rfl,rfl⟩)
 ·by_cases hin:p∈bH o
  ·refine(Zr hS (hT.spoilt hS.sure hin) (by omega) hin hS.late hn hw b sv lv wq hf).mono ?_
   rintro e w' ⟨he,hF⟩
   exact .inl ⟨he,by omega,ho.trans (hF.on (fun k hk=>⟨jY (hl k hk) ho.size,fun e=>hnk k e hk⟩))⟩
  ·by_cases hia:p∈bH ao
   ·refine(Zq hS (hT.spoilt hS.ahead hia) (by omega) hia hin hS.late hn hw b sv lv wq hf).mono ?_
    rintro e w' ⟨D,rfl,hD,h1,h2',h3,h4,h5,h6,h7,h8,h9,hF,hG⟩
    exact .inr ⟨D.d,j,o,o,rfl,mk hD h1 h3 hw h4 h5 h6 h7 h8 h9 hF hG (Aw (Nat.mod_lt _ (by decide)) hS.late hT.len (hT.metaS (by have:=Nat.mod_lt j (show 0<2 by decide);omega) hS.meta0) (hT.tr hS.sure hin) hT.sizes (by omega) (by omega)),.inl ⟨rfl,rfl⟩⟩
   ·have hS':gK K n (fs.turn p k t) j o ao:=hS.keep (fr:=[p]) hS.late hT.len hT.sizes (fun q hq=>hT.same (fun e=>hq (by simp [e]))) (fun q hq=>by simp at hq;omega) (fun q hq e=>hin (by simp at e;exact e▸hq)) (fun q hq e=>hia (by simp at e;exact e▸hq))
    refine(Lj hS' hn hw b sv lv wq hf).mono ?_
    rintro e w' ⟨D,rfl,hD,h1,h2',h3,h4,h5,h6,h7,h8,h9,hF,hG⟩
    exact .inr ⟨D.d,j,o,ao,rfl,mk hD h1 h3 hw h4 h5 h6 h7 h8 h9 hF hG hS',.inl ⟨rfl,rfl⟩⟩
theorem Ke (ra:Option Addr) (rc:Nat) (raw:List Int) (at_ place by_:Int) (w:World) (hR:uH w w.heap.size ra rc raw) (a0 : -9223372036854775808≤at_) (a1:at_≤9223372036854775807) (p0 : -9223372036854775808≤place) (p1:place≤9223372036854775807) (b0 : -9223372036854775808≤by_) (b1:by_≤9223372036854775807) :
  Calls Tryz.prog 9 #[.slice ra raw.length rc,.int .i64 at_,.int .i64 place,.int .i64 by_] w fun e w'=>e=.returned (.bool true)∧Below w.heap.size w w':=by
 have hFr:=qDi (n:=260) (by omega) (by omega) w
 have HR:Hid (uH w w.heap.size ra rc raw):=hR
 clear hR
 go_enter Tryz.func9,Tryz.ntmps9
 go_wp2_with (go_at_call 10;(with_reducible refine jC hFr ?_);rintro e X0 ⟨d0,f0,rfl,hL0⟩)
 clear hFr
 obtain⟨X1,hX1⟩:=nM ((X0.alloc gA).alloc gA)
 obtain⟨q,hq⟩:=nM (X0.heap.size)
 have zq:(X0.alloc gA).heap.size=q+1:=by simp [← hq]
 have hL1:=(hL0.make gA).make gA
 have k1:bJ X1 q (List.replicate 12 false) (List.replicate 12 ⟨#[]⟩):=by rw [← hX1,← hq];exact⟨aB _ (sN X0).box,by simp,by simp⟩
 have k2:bJ X1 (q+1) (List.replicate 12 false) (List.replicate 12 ⟨#[]⟩):=by rw [← hX1,← zq];exact sN _
 rw [hX1,zq,hq] at hL1
 obtain⟨Kp,hKp⟩:∃ Kp:Bl,Bl.or (Bl.or (fun k=>k<w.heap.size) (Bl.one q)) (Bl.one (q+1))=Kp:=⟨_,rfl⟩
 rw [hKp] at hL1
 have HB0:Hid (uJ 260 Kp X1 d0 f0 0 0 none none q (List.replicate 12 false) (List.replicate 12 ⟨#[]⟩)):=⟨hL1,k1,hKp▸.inl (.inr rfl),told_none⟩
 have HA0:Hid (bJ X1 (q+1) (List.replicate 12 false) (List.replicate 12 ⟨#[]⟩)∧Told (eY none) (List.replicate 12 false) (List.replicate 12 ⟨#[]⟩)):=⟨k2,told_none⟩
 have HO0:Hid (On (fun k=>k<w.heap.size) w X1):=by
  rw [← hX1]
  exact(hL0.kept.alloc (fun k hk=>jY hk hL0.kept.size) _).alloc (fun k hk=>by have:=hL0.kept.size;simp;omega) _
 have HQ:Hid (w.heap.size≤q):=by show _≤_;rw [← hq];exact hL0.kept.size
 have HKw:Hid (∀ k,k<w.heap.size→Kp k∧k≠q∧k≠q+1):=fun k hk=>⟨hKp▸.inl (.inl hk),by have:=HQ.out;omega,by have:=HQ.out;omega⟩
 have HKq:Hid (Kp q∧Kp (q+1)):=⟨hKp▸.inl (.inr rfl),hKp▸.inr rfl⟩
 rw [hX1,hq]
 clear hL0 hL1 k1 k2 hX1 zq hq hKp
 go_loopw [13] (fun i wr=>∃ (k j m:Nat) (o ao:Option (Nat×T)) (th tha:List Bool) (vs vsa:List ByteArray),i=.int .i64 k∧k≤3∧j≤k∧m≤k∧Hid (uJ 260 Kp wr d0 f0 j m o ao q th vs)∧Hid (bJ wr (q+1) tha vsa∧Told (eY ao) tha vsa)∧Hid (On (fun k=>k<w.heap.size) w wr)) (fun i _=>3-(intOf i).toNat)
 case atStart=>exact⟨0,0,0,none,none,_,_,_,_,rfl,by omega,by omega,by omega,HB0,HA0,HO0⟩
 case round =>
  obtain⟨k,j,m,o,ao,th,tha,vs,vsa,rfl,hk3,hjk,hmk,HB,HA,HO⟩:=hrel
  clear HB0 HO0 HA0
  by_cases hlt:k<3
  ·have hki:(k:Int)<3:=by omega
   have xb:=HB.out.book
   have xz:=sN wr
   have lq:q+1<wr.heap.size:=(gL HA.out.1.box)
   have hKl:=HB.out.st.below
   obtain⟨sq,hsq⟩:=nM (wr.heap.size)
   have hbA:Below wr.heap.size wr (wr.alloc gA):=bA _ _
   rw [hsq] at xz
   have OA:On Kp wr (wr.alloc gA):=vV hbA hKl
   have HK2:Hid (∀ k,Kp k→k<sq):=fun k hk=>hsq▸hKl k hk
   have HOA:Hid (∀ X3,Fr (Bl.one sq) (wr.alloc gA) X3→On Kp wr X3):=fun X3 hF3=>OA.trans (hF3.on (fun i hi=>⟨by have:=HK2.out i hi;simp [hsq];omega,fun e=>by simp only [Bl.one] at e;have:=HK2.out i hi;omega⟩))
   clear OA hbA hKl
   go_wp2_with (first
    | (refine pK rfl (.tmp 11) rfl q rfl xb ?_)
    | (refine rN rfl (.tmp 14) (.tmp 32) rfl sq rfl rfl xz xb.lt xb.lv ?_;intro X3 hB3 hF3;have hS3:=(HB.out.st.make gA).touch hF3 (.inr hsq.symm);rw [hsq] at hS3;have hV3:=xS hS3)
    | (go_at_call 17;(with_reducible refine jC hV3 ?_);rintro e X4 ⟨rfl,hS4⟩;clear hV3;have O14:On Kp wr X4:=((HOA.out X3 hF3).trans (hS4.kept.mono (fun i hi=>.inl hi)));have HB4:uJ 260 (Bl.or Kp (Bl.one sq)) X4 d0 f0 j m o ao q th vs:=⟨hS4.now,xb.on O14 HKq.out.1,.inl HKq.out.1,HB.out.told⟩;have HW4:Hid (bJ X4 sq th vs):=hB3.on hS4.kept (.inr rfl);have HA4:Hid (bJ X4 (q+1) tha vsa):=HA.out.1.on O14 HKq.out.2;have HO4:Hid (On (fun k=>k<w.heap.size) w X4):=HO.out.trans (O14.mono (fun i hi=>(HKw.out i hi).1));have hP:=qEl (HR.out.on HO4.out) k 5 (by omega) (by omega);rw [show ((5:Nat):Int)=5 from rfl] at hP;clear hB3 hF3 hS3 O14)
    | (go_at_call 12;(with_reducible refine jC hP ?_);rintro e X ⟨ra1,rc1,rfl,hR1,hX⟩;subst X;have hCm:=Rx (kOk (n:=260) (by omega) (by omega)) HB4 (by omega) (by omega) ra1 rc1 (kD raw k 5) w.heap.size hR1 (fun i hi=>⟨.inl (HKw.out i hi).1,(HKw.out i hi).2.1⟩) (fun x hx=>HR.out.i64 x (Vh hx));clear hP)
    | (go_at_call 11;(with_reducible refine jC hCm ?_);rintro e X5 ⟨rfl,j1,o1,ao1,th1,vs1,hB5,hor,hO5⟩;clear hCm;have hV5:=xS hB5.st)
    | (go_at_call 17;(with_reducible refine jC hV5 ?_);rintro e X6 ⟨rfl,hS6⟩;clear hV5;have y6:bJ X6 sq th vs:=((HW4.out.on hO5 ⟨.inr rfl,by omega⟩).on hS6.kept (.inr rfl));have z6:bJ X6 (q+1) tha vsa:=((HA4.out.on hO5 ⟨.inl HKq.out.2,by omega⟩).on hS6.kept (.inl HKq.out.2));have HS6:Hid (SkL bT 260 (Bl.or Kp (Bl.one sq)) X5 X6 d0 f0 j1 (m+1) o1 ao1):=hS6;have HB5:Hid (uJ 260 (Bl.or Kp (Bl.one sq)) X5 d0 f0 j1 (m+1) o1 ao1 q th1 vs1):=hB5;have HO6:Hid (On (fun k=>k<w.heap.size) w X6):=(HO4.out.trans (hO5.mono (fun i hi=>⟨.inl (HKw.out i hi).1,(HKw.out i hi).2.1⟩))).trans (hS6.kept.mono (fun i hi=>.inl (HKw.out i hi).1));clear hS6 hB5 hO5 HB4;rcases hor with⟨rfl,rfl,rfl⟩|⟨rfl,rfl⟩)
    | (refine pK rfl (.tmp 14) rfl sq rfl y6 ?_)
    | (refine rN rfl (.tmp 12) (.tmp 46) rfl (q+1) rfl rfl z6 y6.lt y6.lv ?_;intro X7 hB7 hF7))
   ·have SL:=HS6.out.now.less X6 (fun i hi=>.inl hi) (On.refl Kp X6) (fun i hi=>HS6.out.now.below i (.inl hi))
    exact⟨⟨k+1,_,m+1,_,_,_,_,_,_,by go_num,by omega,by omega,by omega,⟨SL,HB5.out.book.on HS6.out.kept (.inl HKq.out.1),HKq.out.1,HB5.out.told⟩,⟨z6,HA.out.2⟩,HO6⟩,by simp [intOf];omega⟩
   ·have SL:=HS6.out.now.less X6 (fun i hi=>.inl hi) (On.refl Kp X6) (fun i hi=>HS6.out.now.below i (.inl hi))
    have b7:=HB5.out.book.on HS6.out.kept (.inl HKq.out.1)
    exact⟨⟨k+1,_,m+1,_,_,_,_,_,_,by go_num,by omega,by omega,by omega,⟨SL.touch hF7 HKq.out.2,⟨hF7.heap b7.box (oN (by omega)),b7.lt,b7.lv⟩,HKq.out.1,HB5.out.told⟩,⟨hB7,HB.out.told⟩,HO6.out.trans (hF7.on (fun i hi=>⟨jY hi HO6.out.size,fun e=>by simp only [Bl.one] at e;exact(HKw.out i hi).2.2 e⟩))⟩,by simp [intOf];omega⟩
  ·obtain rfl:k=3:=by omega
   have hV:=xS HB.out.st
   obtain⟨c,hc⟩:∃ c:Nat,kR at_ 30=c:=⟨(kR at_ 30).toNat,(Int.toNat_of_nonneg (eA at_ 30 (by omega)).1).symm⟩
   have hc30:c<30:=by have:=(eA at_ 30 (by omega)).2;omega
   obtain⟨kx,hkx⟩:∃ c:Nat,kR place 256=c:=⟨(kR place 256).toNat,(Int.toNat_of_nonneg (eA place 256 (by omega)).1).symm⟩
   have hkx2:kx<256:=by have:=(eA place 256 (by omega)).2;omega
   obtain⟨mx,hmx⟩:∃ c:Nat,kR by_ 255=c:=⟨(kR by_ 255).toNat,(Int.toNat_of_nonneg (eA by_ 255 (by omega)).1).symm⟩
   have hmx2:mx<255:=by have:=(eA by_ 255 (by omega)).2;omega
   have HP1:Hid (∀ X,Calls Tryz.prog 22 #[.int .i64 at_,.int .i64 30] X fun e w'=>e=.returned (.int .i64 (c:Nat))∧w'=X):=fun X=>by rw [← hc];exact oM at_ 30 X a0 a1 (by omega)
   have HP2:Hid (∀ X,Calls Tryz.prog 22 #[.int .i64 place,.int .i64 256] X fun e w'=>e=.returned (.int .i64 (kx:Nat))∧w'=X):=fun X=>by rw [← hkx];exact oM place 256 X p0 p1 (by omega)
   have HP3:Hid (∀ X,Calls Tryz.prog 22 #[.int .i64 by_,.int .i64 255] X fun e w'=>e=.returned (.int .i64 (mx:Nat))∧w'=X):=fun X=>by rw [← hmx];exact oM by_ 255 X b0 b1 (by omega)
   have hwm:IntKind.i64.wrap (1+(mx:Int))=1+(mx:Int):=by rw [IntKind.wrap_i64];omega
   have hwj:IntKind.i64.wrap ((j:Int)-1)=(j:Int)-1:=by rw [IntKind.wrap_i64];omega
   clear hc hkx hmx
   rcases (by omega:c≤20∨20<c) with hcc|hcc
   ·have hci:¬ ((20:Int)<(c:Int)):=by omega
    go_wp2_with (first
     | (go_at_call 17;(with_reducible refine jC hV ?_);rintro e X1 ⟨rfl,hS1⟩;clear hV;have hCp:=qBn hS1;have HBX:Hid (∀ X2,Below X1.heap.size X1 X2→bJ X2 q th vs∧bJ X2 (q+1) tha vsa):=(fun X2 hb=>⟨(HB.out.book.on hS1.kept HKq.out.1).on (vV hb (Y:=fun k=>k<X1.heap.size) (fun k hk=>hk)) (jY (HB.out.st.below _ HKq.out.1) hS1.kept.size),(HA.out.1.on hS1.kept HKq.out.2).on (vV hb (Y:=fun k=>k<X1.heap.size) (fun k hk=>hk)) (jY (HB.out.st.below _ HKq.out.2) hS1.kept.size)⟩);have HOX:Hid (∀ X2,Below X1.heap.size X1 X2→∀ {Y:Bl} X,On (Bl.or Kp Y) X2 X→On (fun k=>k<w.heap.size) w X):=(fun X2 hb _ X hX=>((HO.out.trans (hS1.kept.mono (fun i hi=>(HKw.out i hi).1))).trans (vV hb (fun k hk=>jY (HB.out.st.below k (HKw.out k hk).1) hS1.kept.size))).trans (hX.mono (fun i hi=>.inl (HKw.out i hi).1))))
     | (go_at_call 14;(with_reducible refine jC hCp ?_);rintro e X2 ⟨b',D,rfl,hD2,hDd,hDv,hF2,hb2⟩;clear hCp;have hQ1:=HP1.out X2)
     | (go_at_call 22;(with_reducible refine jC hQ1 ?_);rintro e X ⟨rfl,hX⟩;subst X;clear hQ1;have hQ2:=HP2.out X2)
     | (go_at_call 22;(with_reducible refine jC hQ2 ?_);rintro e X ⟨rfl,hX⟩;subst X;clear hQ2;have hQ3:=HP3.out X2)
     | (go_at_call 22;(with_reducible refine jC hQ3 ?_);rintro e X ⟨rfl,hX⟩;subst X;clear hQ3;have hSp:=Su hF2 c kx (mx:Int) (by omega) hkx2 (by omega) (by omega))
     | (go_at_call 31;(with_reducible refine jC hSp ?_);rintro e X3 ⟨⟨v3,rfl⟩,hF3⟩;clear hSp;have hOp:=Zp hF3 (by omega) (by omega))
     | (go_at_call 16;(with_reducible refine jC hOp ?_);rintro e X4 (⟨rfl,hp2,hO4⟩|⟨d4,j4,o4,ao4,rfl,hS4,hor⟩)<;>(first|(have hV4:=xS hS4;clear hOp hO4)|(have hV4:=xS hS4;clear hOp)|(have hp1:(1:Int)<(c:Int):=(by omega);have hOE:On (fun k=>k<w.heap.size) w X4:=HOX.out X2 hb2 X4 hO4;clear hOp)))
     | (go_at_call 17;(with_reducible refine jC hV4 ?_);rintro e X5 ⟨rfl,hS5⟩;clear hV4;have y5:bJ X5 q th vs:=(HBX.out X2 hb2).1.on hS5.kept (.inl HKq.out.1);have z5:bJ X5 (q+1) tha vsa:=(HBX.out X2 hb2).2.on hS5.kept (.inl HKq.out.2);rcases hor with⟨rfl,rfl⟩|⟨hp2,hj4,rfl⟩<;>(first|(have hjt:((j4:Int)==(j:Int)-1)=true:=(by rw [beq_iff_eq];omega);have hp1:(c:Int)<(2:Int):=(by omega);have hTl:=uN hS5 tha vsa HA.out.2 (by omega);clear hj4)|(have hjt:((j4:Int)==(j4:Int)-1)=false:=(by apply Bool.eq_false_iff.2;rw [ne_eq,beq_iff_eq];omega);have hTl:=uN hS5 th vs HB.out.told (by omega))))
     | (refine pK rfl (.tmp 12) rfl (q+1) rfl z5 ?_)
     | (refine Er rfl (.tmp 11) rfl q rfl y5 ?_)
     | (go_at_call 32;(with_reducible refine jC hTl ?_);rintro e X6 ⟨rfl,hO6⟩;have hOE:On (fun k=>k<w.heap.size) w X6:=HOX.out X2 hb2 X6 hO6))
    all_goals
     go_ret
     exact⟨rfl,hOE.os,hOE.tape,hOE.output,hOE.size,hOE.block⟩
   ·have hci:(20:Int)<(c:Int):=by omega
    go_wp2_with (first
     | (go_at_call 17;(with_reducible refine jC hV ?_);rintro e X1 ⟨rfl,hS1⟩;clear hV;have hCp:=qBn hS1;have HBX:Hid (∀ X2,Below X1.heap.size X1 X2→bJ X2 q th vs∧bJ X2 (q+1) tha vsa):=(fun X2 hb=>⟨(HB.out.book.on hS1.kept HKq.out.1).on (vV hb (Y:=fun k=>k<X1.heap.size) (fun k hk=>hk)) (jY (HB.out.st.below _ HKq.out.1) hS1.kept.size),(HA.out.1.on hS1.kept HKq.out.2).on (vV hb (Y:=fun k=>k<X1.heap.size) (fun k hk=>hk)) (jY (HB.out.st.below _ HKq.out.2) hS1.kept.size)⟩);have HOX:Hid (∀ X2,Below X1.heap.size X1 X2→∀ {Y:Bl} X,On (Bl.or Kp Y) X2 X→On (fun k=>k<w.heap.size) w X):=(fun X2 hb _ X hX=>((HO.out.trans (hS1.kept.mono (fun i hi=>(HKw.out i hi).1))).trans (vV hb (fun k hk=>jY (HB.out.st.below k (HKw.out k hk).1) hS1.kept.size))).trans (hX.mono (fun i hi=>.inl (HKw.out i hi).1))))
     | (go_at_call 14;(with_reducible refine jC hCp ?_);rintro e X2 ⟨b',D,rfl,hD2,hDd,hDv,hF2,hb2⟩;clear hCp;have hQ1:=HP1.out X2)
     | (go_at_call 22;(with_reducible refine jC hQ1 ?_);rintro e X ⟨rfl,hX⟩;subst X;clear hQ1;have hQ2:=HP2.out X2)
     | (go_at_call 22;(with_reducible refine jC hQ2 ?_);rintro e X ⟨rfl,hX⟩;subst X;clear hQ2;have hQ3:=HP3.out X2)
     | (go_at_call 22;(with_reducible refine jC hQ3 ?_);rintro e X ⟨rfl,hX⟩;subst X;clear hQ3;have hSp:=Su hF2 (c % 2) kx (mx:Int) (by omega) hkx2 (by omega) (by omega);rw [show ((c % 2:Nat):Int)=(c:Int) % 2 by simp] at hSp)
     | (go_at_call 31;(with_reducible refine jC hSp ?_);rintro e X3 ⟨⟨v3,rfl⟩,hF3⟩;clear hSp;have hOp:=Zp hF3 (by omega) (by omega))
     | (go_at_call 16;(with_reducible refine jC hOp ?_);rintro e X4 (⟨rfl,hp2,hO4⟩|⟨d4,j4,o4,ao4,rfl,hS4,hor⟩)<;>(first|(have hV4:=xS hS4;clear hOp hO4)|(have hV4:=xS hS4;clear hOp)|(have hp1:(1:Int)<((c:Int) % 2):=(by omega);have hOE:On (fun k=>k<w.heap.size) w X4:=HOX.out X2 hb2 X4 hO4;clear hOp)))
     | (go_at_call 17;(with_reducible refine jC hV4 ?_);rintro e X5 ⟨rfl,hS5⟩;clear hV4;have y5:bJ X5 q th vs:=(HBX.out X2 hb2).1.on hS5.kept (.inl HKq.out.1);have z5:bJ X5 (q+1) tha vsa:=(HBX.out X2 hb2).2.on hS5.kept (.inl HKq.out.2);rcases hor with⟨rfl,rfl⟩|⟨hp2,hj4,rfl⟩<;>(first|(have hjt:((j4:Int)==(j:Int)-1)=true:=(by rw [beq_iff_eq];omega);have hp1:((c:Int) % 2)<(2:Int):=(by omega);have hTl:=uN hS5 tha vsa HA.out.2 (by omega);clear hj4)|(have hjt:((j4:Int)==(j4:Int)-1)=false:=(by apply Bool.eq_false_iff.2;rw [ne_eq,beq_iff_eq];omega);have hTl:=uN hS5 th vs HB.out.told (by omega))))
     | (refine pK rfl (.tmp 12) rfl (q+1) rfl z5 ?_)
     | (refine Er rfl (.tmp 11) rfl q rfl y5 ?_)
     | (go_at_call 32;(with_reducible refine jC hTl ?_);rintro e X6 ⟨rfl,hO6⟩;have hOE:On (fun k=>k<w.heap.size) w X6:=HOX.out X2 hb2 X6 hO6))
    all_goals
     go_ret
     exact⟨rfl,hOE.os,hOE.tape,hOE.output,hOE.size,hOE.block⟩
