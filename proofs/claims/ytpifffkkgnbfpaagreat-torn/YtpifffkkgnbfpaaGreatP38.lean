import Derived.Test.YtpifffkkgnbfpaaGreatP36
import Derived.Test.YtpifffkkgnbfpaaGreatP37
set_option linter.unusedSimpArgs false
set_option linter.unusedVariables false
set_option maxRecDepth 100000
set_option maxHeartbeats 8000000
namespace Go.Proofs.YtpifffkkgnbfpaaGreat.Tree
open Go.RowKit Pages
variable {raw:List Int}
theorem Jv {n:Nat} (hn:40≤n) (hn2:n≤4096) (w:World) :
  Calls Tryz.prog 10 #[.int .i64 (n:Nat)] w fun e w'=>∃ d b,e=.returned (.tuple #[.pointer (some ⟨d,0,none⟩),.pointer (some ⟨b,0,none⟩)])∧SkL aQ n (fun k=>k<w.heap.size) w w' d b 0 0 none none:=by
 refine(Nj (K:=aQ) hn hn2 w).mono ?_
 rintro e w' ⟨D,rfl,h,hi⟩
 exact⟨_,_,rfl,D,⟨h.db,h.well,h.failed,h.ver,h.root,h.aroot,h.last0,h.last1,h.store,fun k hk hp=>by have:=h.new k hk;omega,vV h.below (fun k hk=>hk),fun k hk=>hk⟩,hi,rfl,rfl⟩
theorem wW {i size:Nat} {x:Int} (h:x∈iQ raw i size):x∈raw:=List.mem_of_mem_drop (List.mem_of_mem_take h)
structure iF (w:World) (B:Nat) (ra:Option Addr) (rc:Nat) (raw:List Int):Prop where
 row:cT w B ra (raw.map (.int .i64))
 cap:raw.length≤rc
 some':rc=0∨∃ b off,ra=some ⟨b,off,none⟩
 big:rc≤9223372036854775807
 i64:∀ x∈raw,-9223372036854775808≤x∧x≤9223372036854775807
theorem iF.on {w w':World} {B:Nat} {ra:Option Addr} {rc:Nat}  (h:iF w B ra rc raw) (ho:On (fun k=>k<B) w w'):iF w' B ra rc raw:=⟨cT.onK h.row ho (fun k hk=>hk),h.cap,h.some',h.big,h.i64⟩
theorem Jl {w:World} {B:Nat} {ra:Option Addr} {rc:Nat}  (h:iF w B ra rc raw) (i size:Nat) (hi:i≤1000) (hs:size≤1000) :
  Calls Tryz.prog 12 #[.slice ra raw.length rc,.int .i64 (i:Nat),.int .i64 (size:Nat)] w fun e w'=>∃ ra' rc',e=.returned (.slice ra' (iQ raw i size).length rc')∧cT w B ra' ((iQ raw i size).map (.int .i64))∧w'=w :=
 Zp ra rc raw i size B w h.row h.cap h.some' hi hs (vJ h.cap h.big) h.big
open Go.ChangeShapes Go.WideShapes Go.ChangeAt
theorem jI {H:Type} {enc:TypeId×Value→H} {W:World} {base:Nat} {v:Value} {d:DataW H} {p:List MemPlace} (hv:Value.okWide Tryz.prog W .any base 22 v) (h:DataW.Trod enc Tryz.prog W 0 (fun _=>true) true 22 v d p) :
  ∃ (a:Option Addr) (c:Nat) (ns:List Int),v=.slice a ns.length c∧iF W W.heap.size a c ns:=by
 have hm63:maxLen≤9223372036854775807:=by decide +kernel
 obtain⟨a0,len0,cap0,rfl⟩:=okWide_slice Tryz.underlying22 hv
 obtain⟨fuel,hf⟩:=h
 rcases Go.ChangeShapes.open_ints Tryz.underlying22 Tryz.underlying3 Uk hf with⟨hcs,hx⟩|⟨a,len,cap,ss,hcs,_,hl,hm,hz,hx,hcell,hws⟩
 ·simp [Value.cells] at hcs
  obtain⟨rfl,rfl,rfl⟩:=hcs
  exact⟨none,0,[],rfl,.inl rfl,Nat.zero_le _,.inl rfl,by omega,by simp⟩
 ·have hlen:(ss.take len).length=len:=by simp at hz ⊢;omega
  simp [Value.cells] at hcs
  obtain⟨rfl,rfl,rfl⟩:=hcs
  have hrow:cT W W.heap.size (some a) ((ss.take len0).map (Value.int .i64)):=Tg fun i u hu=>by
   simp only [List.getElem?_map,Option.map_eq_some_iff] at hu
   obtain⟨s,hs,rfl⟩:=hu
   rw [List.getElem?_take] at hs
   split at hs
   ·have hi:=(List.getElem?_eq_some_iff.1 hs).1
    rw [hcell i hi]
    simp [List.getD,hs]
   ·cases hs
  have hspot:(0<cap0)→∃ b off,a=⟨b,off,none⟩:=fun hc0=>by
   simp only [if_true] at hz
   have h0:=hcell 0 (by omega)
   obtain⟨b,off,spot⟩:=a
   have hs:spot=none:=by simpa [Addr.add] using World.cell?_spot h0
   exact⟨b,off,by rw [hs]⟩
  refine⟨some a,cap0,ss.take len0,by rw [hlen],hrow,by rw [hlen];exact hl,?_,vJ hm hm63,fun x hx=>vP (hws x (List.mem_of_mem_take hx))⟩
  rcases Nat.eq_zero_or_pos cap0 with h0|h0
  ·exact .inl h0
  ·obtain⟨b,off,rfl⟩:=hspot h0
   exact .inr ⟨b,off,rfl⟩
variable {K:List ByteArray} {Kp:Bl} {ao o:Option (Nat×T)} {b j n:Nat} {w wq:World}
def FK (K:List ByteArray) (n:Nat) (Kp:Bl) (w wq:World) (b j:Nat) (o ao:Option (Nat×T)):Prop:=∃ sv lv fs,aG wq b sv lv fs∧dV K n fs j o ao∧fs.well∧(∀ k,fpF b sv lv k→¬ Kp k)∧On Kp w wq∧∀ k,Kp k→k<w.heap.size
theorem qFh {d b j m:Nat}  (h:SkL K n Kp w wq d b j m o ao) :
  Calls Tryz.prog 14 #[.pointer (some ⟨b,0,none⟩)] wq fun e w'=>∃ b' D,e=.returned (.pointer (some ⟨b',0,none⟩))∧aN w' 0 D∧D.d=d∧D.ver=j∧FK K n (Bl.or Kp (fpD D)) w' w' b' j o ao∧Below wq.heap.size wq w':=by
 obtain⟨D,h,hi,rfl,rfl⟩:=h
 refine(Oi D.β D.sv D.lv D.fs wq h.db.file).mono ?_
 rintro e w' ⟨b',sv',lv',rfl,hf',hb',hn⟩
 have hl:∀ k,(Bl.or Kp (fpD D)) k→k<wq.heap.size:=by
  rintro k (hk|hk)
  ·exact jY (h.lies k hk) h.kept.size
  ·exact h.db.lies k hk
 refine⟨b',D,rfl,h.db.on (vV hb' h.db.lies),rfl,h.ver,⟨sv',lv',D.fs,hf',h.store,h.well,fun k hk hp=>?_,On.refl _ _,fun k hk=>jY (hl k hk) hb'.size⟩,hb'⟩
 have:=hn k hk
 have:=hl k hp
 omega
theorem qDt (h:FK K n Kp w wq b j o ao) (ka:Option Addr) (kn kc:Nat) :
  Calls Tryz.prog 15 #[.pointer (some ⟨b,0,none⟩),.slice ka kn kc] wq fun e w'=>(∃ v,e=.returned v)∧FK K n Kp w w' b j o ao:=by
 obtain⟨sv,lv,fs,hf,hS,hw,hn,ho,hl⟩:=h
 refine(Sd b sv lv fs ka kn kc wq hf hS.late).mono ?_
 rintro e w' ⟨he,hf',hF⟩
 have hcalm:fs.calm=fs:=by
  obtain⟨h1,h2⟩:=hw
  unfold Fs.calm
  cases fs
  simp_all
 rw [hcalm] at hf'
 refine⟨he,sv,_,fs,hf',hS,hw,fun k hk=>?_,ho.trans (hF.on (fun k hk=>⟨jY (hl k hk) ho.size,fun e=>by simp only [Bl.one] at e;subst e;exact hn _ (.inl rfl) hk⟩)),hl⟩
 rcases hk with hk|hk|hk
 ·exact hn k (.inl hk)
 ·exact hn k (.inr (.inl hk))
 ·simp [Value.ownBlock] at hk
theorem Zw (h:FK K n Kp w wq b j o ao) (hn:40≤n) :
  Calls Tryz.prog 16 #[.pointer (some ⟨b,0,none⟩)] wq fun e w'=>∃ d,e=.returned (.tuple #[.pointer (some ⟨d,0,none⟩),.int .i64 0])∧SkL K n Kp w w' d b j 0 o ao:=by
 obtain⟨sv,lv,fs,hf,hS,hw,hnk,ho,hl⟩:=h
 refine(Mb hS hn hw b sv lv wq hf).mono ?_
 rintro e w' ⟨D,rfl,hD,h1,h2,h3,h4,h5,h6,h7,h8,h9,hF,hG⟩
 refine⟨_,rfl,D,⟨hD,h3▸hw,h7,h4,h5,h6,by rw [h8];exact Int.le_refl _,by rw [h8];exact Int.le_refl _,h3▸hS,fun k hk hp=>?_,ho.trans (hF.on (fun k hk=>⟨jY (hl k hk) ho.size,fun e=>hnk k e hk⟩)),hl⟩,h9,rfl,h1⟩
 rcases hG k hk with h'|h'
 ·exact hnk k h' hp
 ·have:=hl k hp
  have:=ho.size
  omega
theorem qCj {d b j m j0:Nat}  {D:Db} (h:SkL K n (Bl.or Kp (fpD D)) w wq d b j m o ao) (hD:aN w 0 D) (hv:D.ver=j0) :
  Calls Tryz.prog 17 #[.pointer (some ⟨D.d,0,none⟩)] wq fun e w'=>e=.returned (.int .i64 (j0:Nat))∧SkL K n (Bl.or Kp (fpD D)) w w' d b j m o ao:=by
 obtain⟨E,h,r⟩:=h
 refine(qO D wq (hD.on (h.kept.mono (fun k hk=>.inr hk)))).mono ?_
 rintro e w' ⟨rfl,_,hF⟩
 exact⟨by rw [hv],E,⟨h.db.on (hF.on (fun k hk=>⟨h.db.lies k hk,fun e=>e⟩)),h.well,h.failed,h.ver,h.root,h.aroot,h.last0,h.last1,h.store,h.new,h.on hF (fun k hk=>hk.elim),h.lies⟩,r⟩
theorem Xc (ra ka:Option Addr) (rc kc:Nat) (raw keeps:List Int) (w:World) (hR:iF w w.heap.size ra rc raw) (hK:iF w w.heap.size ka kc keeps) :
  Calls Tryz.prog 3 #[.slice ra raw.length rc,.slice ka keeps.length kc] w fun e w'=>e=.returned (.bool true)∧Below w.heap.size w w':=by
 have hFr:=Jv (n:=400) (by omega) (by omega) w
 have HR:Hid (iF w w.heap.size ra rc raw):=hR
 have HK:Hid (iF w w.heap.size ka kc keeps):=hK
 clear hR hK
 go_enter Tryz.func3,Tryz.ntmps3
 go_wp2_with (go_at_call 10;(with_reducible refine jC hFr ?_);rintro e X0 ⟨d0,b0,rfl,hL0⟩)
 clear hFr
 have HB0:Hid (oL 400 (Bl.or (fun k=>k<w.heap.size) (Bl.one X0.heap.size)) (X0.alloc fI) d0 b0 0 0 none none X0.heap.size (List.replicate 12 false) (List.replicate 12 ⟨#[]⟩)):=⟨hL0.make fI,pM X0,.inr rfl,told_none⟩
 have HO0:Hid (On (fun k=>k<w.heap.size) w (X0.alloc fI)):=hL0.kept.alloc (fun k hk=>jY hk hL0.kept.size) _
 have HQ:Hid (w.heap.size≤X0.heap.size):=hL0.kept.size
 obtain⟨q,hq⟩:=nM (X0.heap.size)
 rw [hq] at HB0 HQ ⊢
 clear hL0 hq
 go_loopw [5,6,8] (fun p f i wr=>∃ (k j m d b:Nat) (o ao:Option (Nat×T)) (th:List Bool) (vs:List ByteArray),p=.pointer (some ⟨d,0,none⟩)∧f=.pointer (some ⟨b,0,none⟩)∧i=.int .i64 k∧k≤6∧j≤k∧m≤1∧Hid (oL 400 (Bl.or (fun k=>k<w.heap.size) (Bl.one q)) wr d b j m o ao q th vs)∧Hid (On (fun k=>k<w.heap.size) w wr)) (fun _ _ i _=>6-(intOf i).toNat)
 case atStart=>exact⟨0,0,0,d0,b0,none,none,_,_,rfl,rfl,rfl,by omega,by omega,by omega,HB0,HO0⟩
 case round =>
  obtain⟨k,j,m,d,b,o,ao,th,vs,rfl,rfl,rfl,hk6,hjk,hm1,HB,HO⟩:=hrel
  have hw5:IntKind.i64.wrap (5 * (k:Int))=5 * (k:Int):=by rw [IntKind.wrap_i64];omega
  by_cases hlt:k<6∧5 * k≤raw.length
  ·have hki:(k:Int)<6:=by omega
   have h5i:5 * (k:Int)≤(raw.length:Int):=by omega
   have hP1:=Jl (HR.out.on HO.out) k 5 (by omega) (by omega)
   rw [show ((5:Nat):Int)=5 from rfl] at hP1
   go_wp2_with (first
    | (go_at_call 12;(with_reducible refine jC hP1 ?_);rintro e X ⟨ra1,rc1,rfl,hR1,hX⟩;subst X;have hCm:=uI (kOk (n:=400) (by omega) (by omega)) HB.out (by omega) (by omega) ra1 rc1 (iQ raw k 5) w.heap.size hR1 (fun i hi=>⟨.inl hi,fun e=>by have:=HQ.out;omega⟩) (fun x hx=>HR.out.i64 x (wW hx));clear hP1)
    | (go_at_call 11;(with_reducible refine jC hCm ?_);rintro e X1 ⟨rfl,j1,o1,ao1,th1,vs1,hB1,hj1,hO1⟩;have x1:=hB1.book;have hSh:=jD hB1.st th1 vs1 hB1.told (by omega);clear hCm)
    | (refine nL rfl (.tmp 7) rfl q rfl x1 ?_)
    | (go_at_call 13;(with_reducible refine jC hSh ?_);rintro e X2 ⟨rfl,hS2⟩;have hCp:=qFh hS2;clear hSh)
    | (go_at_call 14;(with_reducible refine jC hCp ?_);rintro e X3 ⟨b3,D,rfl,hD3,rfl,hv3,hf3,hb3⟩;have HO3:Hid (On (fun k=>k<w.heap.size) w X3):=((HO.out.trans (hO1.mono (fun i hi=>⟨.inl hi,fun e=>by have:=HQ.out;omega⟩))).trans (hS2.kept.mono (fun i hi=>.inl hi))).trans (vV hb3 (fun i hi=>jY hi (vJ HO.out.size (vJ hO1.size hS2.kept.size))));have x3:bI X3 q th1 vs1:=(x1.on hS2.kept hB1.own).on (vV hb3 (Y:=Bl.one q) (fun i hi=>by simp only [Bl.one] at hi;subst hi;exact jY (gL x1.box) hS2.kept.size)) rfl;have hP2:=Jl (HK.out.on HO3.out) k 3 (by omega) (by omega);rw [show ((3:Nat):Int)=3 from rfl] at hP2;clear hCp)
    | (go_at_call 12;(with_reducible refine jC hP2 ?_);rintro e X ⟨ka1,kc1,rfl,hK1,hX⟩;subst X;have hCr:=qDt hf3 ka1 (iQ keeps k 3).length kc1;clear hP2)
    | (go_at_call 15;(with_reducible refine jC hCr ?_);rintro e X4 ⟨⟨v4,rfl⟩,hf4⟩;have hOp:=Zw hf4 (by omega);clear hCr)
    | (go_at_call 16;(with_reducible refine jC hOp ?_);rintro e X5 ⟨d5,rfl,hS5⟩;have hV5:=Sx hS5;clear hOp)
    | (go_at_call 17;(with_reducible refine jC hV5 ?_);rintro e X6 ⟨rfl,hS6⟩;have hV6:=qCj hS6 hD3 hv3;clear hV5)
    | (go_at_call 17;(with_reducible refine jC hV6 ?_);rintro e X7 ⟨rfl,hS7⟩;have x7:bI X7 q th1 vs1:=x3.on hS7.kept (.inl hB1.own);have hSh2:=jD hS7 th1 vs1 hB1.told (by omega);clear hV6)
    | (refine nL rfl (.tmp 7) rfl q rfl x7 ?_)
    | (go_at_call 13;(with_reducible refine jC hSh2 ?_);rintro e X8 ⟨rfl,hS8⟩;clear hSh2))
   have hL8:=hS8.less X3 (fun i hi=>.inl hi) (On.refl _ _) (fun i hi=>hS8.below i (.inl hi))
   exact⟨⟨k+1,j1,0+1,d5,b3,o1,ao1,th1,vs1,rfl,rfl,by go_num,by omega,by omega,by omega,⟨hL8.now,x3.on hS8.kept (.inl hB1.own),hB1.own,hB1.told⟩,HO3.out.trans (hS8.kept.mono (fun i hi=>.inl (.inl hi)))⟩,by simp [intOf];omega⟩
  ·rcases (by omega:6≤k∨(k<6∧raw.length<5 * k)) with hx|hx
   all_goals
    have hx1:(6:Int)≤(k:Int)∨((k:Int)<6∧(raw.length:Int)<5 * (k:Int)):=by omega
    go_wp2
    go_ret
    exact⟨rfl,HO.out.os,HO.out.tape,HO.out.output,HO.out.size,HO.out.block⟩
