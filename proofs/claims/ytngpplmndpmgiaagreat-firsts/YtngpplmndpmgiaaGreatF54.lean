/-
  Joined: KFile, KeptW, OpenN, FirstsW.
-/
import Derived.Test.YtngpplmndpmgiaaGreatF52
import Derived.Test.YtngpplmndpmgiaaGreatF53
import Derived.Test.YtngpplmndpmgiaaGreatF25
import Derived.Test.YtngpplmndpmgiaaGreatF16
set_option linter.unusedSimpArgs false
set_option linter.unusedVariables false
set_option maxRecDepth 100000
set_option maxHeartbeats 8000000
namespace Go.Proofs.YtngpplmndpmgiaaGreat.Tree
open Go.RowKit Go.Proofs.YtngpplmndpmgiaaGreat.Pages
theorem fresh_k {n:Nat} (hn:40≤n) (hn2:n≤4096) (w:World) :
  Calls Tryz.prog 8 #[.int .i64 (n:Nat)] w fun e w'=>∃ d b,e=.returned (.tuple #[.pointer (some ⟨d,0,none⟩),.pointer (some ⟨b,0,none⟩)])∧SkL keyL n (fun k=>k<w.heap.size) w w' d b 0 0 none none:=by
 refine(fresh_st (K:=keyL) hn hn2 w).mono ?_
 rintro e w' ⟨D,rfl,h,hi⟩
 exact⟨_,_,rfl,D,⟨h.db,h.well,h.failed,h.ver,h.root,h.aroot,h.last0,h.last1,h.store,fun k hk hp=>by have:=h.new k hk;omega,On.of_below h.below (fun k hk=>hk),fun k hk=>hk⟩,hi,rfl,rfl⟩
theorem zM {raw:List Int} {i size:Nat} {x:Int} (h:x∈partL raw i size):x∈raw:=List.mem_of_mem_drop (List.mem_of_mem_take h)
structure zN (w:World) (B:Nat) (ra:Option Addr) (rc:Nat) (raw:List Int):Prop where
 row:RowAt w B ra (raw.map (.int .i64))
 cap:raw.length≤rc
 some':rc=0∨∃ b off,ra=some ⟨b,off,none⟩
 big:rc≤9223372036854775807
 i64:∀ x∈raw,-9223372036854775808≤x∧x≤9223372036854775807
theorem zN.on {w w':World} {B:Nat} {ra:Option Addr} {rc:Nat} {raw:List Int} (h:zN w B ra rc raw) (ho:On (fun k=>k<B) w w'):zN w' B ra rc raw:=⟨RowAt.onK h.row ho (fun k hk=>hk),h.cap,h.some',h.big,h.i64⟩
theorem part_n {w:World} {B:Nat} {ra:Option Addr} {rc:Nat} {raw:List Int} (h:zN w B ra rc raw) (i size:Nat) (hi:i≤1000) (hs:size≤1000) :
  Calls Tryz.prog 10 #[.slice ra raw.length rc,.int .i64 (i:Nat),.int .i64 (size:Nat)] w fun e w'=>∃ ra' rc',e=.returned (.slice ra' (partL raw i size).length rc')∧RowAt w B ra' ((partL raw i size).map (.int .i64))∧w'=w :=
 part_any ra rc raw i size B w h.row h.cap h.some' hi hs (Nat.le_trans h.cap h.big) h.big
end Go.Proofs.YtngpplmndpmgiaaGreat.Tree
namespace Go.Proofs.YtngpplmndpmgiaaGreat.Tree
open Go.RowKit Go.ChangeShapes Go.WideShapes Go.ChangeAt Go.Proofs.YtngpplmndpmgiaaGreat.Pages
theorem open_numsAt {H:Type} {enc:TypeId×Value→H} {W:World} {base:Nat} {v:Value} {d:DataW H} {p:List MemPlace} (hv:Value.okWide Tryz.prog W .any base 22 v) (h:DataW.Trod enc Tryz.prog W 0 (fun _=>true) true 22 v d p) :
  ∃ (a:Option Addr) (c:Nat) (ns:List Int),v=.slice a ns.length c∧zN W W.heap.size a c ns:=by
 have hm63:maxLen≤9223372036854775807:=by decide +kernel
 obtain⟨a0,len0,cap0,rfl⟩:=okWide_slice Tryz.underlying22 hv
 obtain⟨fuel,hf⟩:=h
 rcases Go.ChangeShapes.open_ints Tryz.underlying22 Tryz.underlying3 cells3' hf with⟨hcs,hx⟩|⟨a,len,cap,ss,hcs,_,hl,hm,hz,hx,hcell,hws⟩
 ·simp [Value.cells] at hcs
  obtain⟨rfl,rfl,rfl⟩:=hcs
  exact⟨none,0,[],rfl,.inl rfl,Nat.zero_le _,.inl rfl,by omega,by simp⟩
 ·have hlen:(ss.take len).length=len:=by simp at hz ⊢;omega
  simp [Value.cells] at hcs
  obtain⟨rfl,rfl,rfl⟩:=hcs
  have hrow:RowAt W W.heap.size (some a) ((ss.take len0).map (Value.int .i64)):=row_of3 fun i u hu=>by
   simp only [List.getElem?_map,Option.map_eq_some_iff] at hu
   obtain⟨s,hs,rfl⟩:=hu
   rw [List.getElem?_take] at hs
   split at hs
   ·have hi:=(List.getElem?_eq_some_iff.1 hs).1
    rw [hcell i hi]
    simp [List.getD,hs]
   ·cases hs
  have hspot:(0<cap0)→∃ b off,a=⟨b,off,none⟩:=fun hc0=>by
   simp only [if_true] at hz
   have h0:=hcell 0 (by omega)
   obtain⟨b,off,spot⟩:=a
   have hs:spot=none:=by simpa [Addr.add] using World.cell?_spot h0
   exact⟨b,off,by rw [hs]⟩
  refine⟨some a,cap0,ss.take len0,by rw [hlen],hrow,by rw [hlen];exact hl,?_,Nat.le_trans hm hm63,fun x hx=>i64_of3 (hws x (List.mem_of_mem_take hx))⟩
  rcases Nat.eq_zero_or_pos cap0 with h0|h0
  ·exact .inl h0
  ·obtain⟨b,off,rfl⟩:=hspot h0
   exact .inr ⟨b,off,rfl⟩
end Go.Proofs.YtngpplmndpmgiaaGreat.Tree
namespace Go.Proofs.YtngpplmndpmgiaaGreat.Tree
open Go.RowKit Go.Proofs.YtngpplmndpmgiaaGreat.Pages
theorem zG {ops:Array Oper} {rest:List Oper} {op:Oper} {a:Act} {w:World} {Q:Exit→Act→World→Prop} (hw:Region.wanted op (yielded ops a.tmps)=true) (x:Operand) (ho:op.op=.load 30 x) (q:Nat) (hx:a.eval x=.pointer (some ⟨q,0,none⟩)) {th:List Bool} {vs:List ByteArray} (hb:BookAt w q th vs)
  (h:wpList Tryz.prog ops Q rest (a.put op.dst (.agg (bookC th vs))) w):wpList Tryz.prog ops Q (op :: rest) a w:=by
 obtain⟨d,h1,h2⟩:=bookRow
 simp only [wpList,hw,if_true]
 exact .inl (wp_load_mid _ x ho q 0 hx (bookC th vs).toList d hb.range h1 h2 (by rw [infoBook,Array.length_toList,bookC_size hb.lt hb.lv]) (by simpa using h))
theorem SkL.g {K:List ByteArray} {n:Nat} {Kp:Bl} {w wq:World} {d b j m:Nat} {o ao:Option (Nat×T)} (h:SkL K n Kp w wq d b j m o ao):∃ z:Int,0≤z∧z≤(m:Nat)∧SkG K n Kp w wq d b j m z o ao []:=by
 obtain⟨D,h,hi,rfl,rfl⟩:=h
 exact⟨D.last,h.last0,h.last1,D,h,⟨by rw [hi];rfl,fun i hi' _=>by rw [hi] at hi';simp at hi',.nil,by simp⟩,rfl,rfl,rfl⟩
theorem SkG.l {K:List ByteArray} {n:Nat} {Kp:Bl} {w wq:World} {d b j m:Nat} {z:Int} {o ao:Option (Nat×T)} (h:SkG K n Kp w wq d b j m z o ao []):SkL K n Kp w wq d b j m o ao:=by
 obtain⟨D,h,hU,_,rfl,rfl⟩:=h
 exact⟨D,h,List.eq_nil_of_length_eq_zero hU.len,rfl,rfl⟩
theorem zF {fs:Fs} {o:Option (Nat×T)} {cs:List Ch} (hro:Rooted fs (rootOf o) o) (hf:Flat2 o) (hc:CsOk keyL cs) {th:List Bool} {vs:List ByteArray} (ht:Told (overE (oents o) cs) th vs) (k:Nat) (hk:k<12):foundC o cs (keyL[k]'hk)=th[k]'(by have:=ht.lt;omega):=by
 rw [found_seen hro hf hc.rise hc.good]
 unfold seenV
 rw [ht.tells k hk]
 cases th[k]'(by have:=ht.lt;omega)<;>rfl
theorem zE {p q:Nat} (hp:p<12) (hq:q<12) (h:p≠q):keyL[p]'hp≠keyL[q]'hq:=by
 intro e
 rcases Nat.lt_or_gt_of_ne h with h'|h'
 ·have:=List.pairwise_iff_getElem.1 keyL_rise p q hp hq h'
  rw [e,lt_irrefl] at this;cases this
 ·have:=List.pairwise_iff_getElem.1 keyL_rise q p hq hp h'
  rw [e,lt_irrefl] at this;cases this
abbrev zA:ByteArray:=⟨#[102,105,114,115,116]⟩
abbrev zB:ByteArray:=⟨#[115,101,99,111,110,100]⟩
def csX (p:Nat) (hp:p<12) (gone:Bool):List Ch:=if gone then withC (withC [] ⟨keyL[p]'hp,zA,false⟩) ⟨keyL[p]'hp,⟨#[]⟩,true⟩ else withC [] ⟨keyL[p]'hp,zA,false⟩
theorem zI:CsOk keyL []:=⟨.nil,by simp,by simp,by simp⟩
theorem zP (p:Nat) (hp:p<12) (v:ByteArray) (hv:v.size≤400):CsOk keyL (withC [] ⟨keyL[p]'hp,v,false⟩)∧0<(withC [] ⟨keyL[p]'hp,v,false⟩).length∧(withC [] ⟨keyL[p]'hp,v,false⟩).length≤1:=by
 obtain⟨a,b,c⟩:=zI.with (by simp) ⟨keyL[p]'hp,v,false⟩ (put_good p hp v hv false) (key_at p hp)
 exact⟨a,b,by simpa using c⟩
theorem zO (p:Nat) (hp:p<12) (gone:Bool):CsOk keyL (csX p hp gone)∧0<(csX p hp gone).length∧(csX p hp gone).length≤2:=by
 obtain⟨a,b,c⟩:=zP p hp zA (by decide)
 cases gone with
 | false=>exact⟨a,b,by show (withC [] _).length≤2;omega⟩
 | true =>
  obtain⟨a',b',c'⟩:=a.with (by omega) ⟨keyL[p]'hp,⟨#[]⟩,true⟩ (put_good p hp ⟨#[]⟩ (by decide) true) (key_at p hp)
  exact⟨a',b',by show (withC (withC [] _) _).length≤2;omega⟩
theorem zK (p:Nat) (hp:p<12) (gone:Bool) (y:ByteArray):y∈(csX p hp gone).map (·.key)↔y=keyL[p]'hp:=by
 have h1:∀ x,x∈withC [] (⟨keyL[p]'hp,zA,false⟩:Ch)↔x=⟨keyL[p]'hp,zA,false⟩:=fun x=>by rw [with_mem .nil];simp
 rw [List.mem_map]
 cases gone with
 | false =>
  constructor
  ·rintro⟨x,hx,rfl⟩
   rw [(h1 x).1 hx]
  ·rintro rfl
   exact⟨_,(h1 _).2 rfl,rfl⟩
 | true =>
  have hr:=(zP p hp zA (by decide)).1.rise
  constructor
  ·rintro⟨x,hx,rfl⟩
   rcases (with_mem hr _ x).1 hx with rfl|⟨h2,h3⟩
   ·rfl
   ·rw [(h1 x).1 h2]
  ·rintro rfl
   exact⟨_,(with_mem hr _ _).2 (.inl rfl),rfl⟩
theorem zT {o:Option (Nat×T)} (he:RiseE (oents o)) {th:List Bool} {vs:List ByteArray} (h:Told (oents o) th vs) (p:Nat) (hp:p<12) (gone:Bool):Told (overE (oents o) (csX p hp gone)) (th.set p (!gone)) (if gone then (vs.set p zA).set p ⟨#[]⟩ else vs.set p zA):=by
 have h0:Told (overE (oents o) []) th vs:=by rw [over_none he];exact h
 have h1:=h0.change he .nil p hp zA false
 cases gone with
 | false=>exact h1
 | true =>
  have h2:=h1.change he (zP p hp zA (by decide)).1.rise p hp ⟨#[]⟩ true
  simp only [List.set_set] at h2 ⊢
  exact h2
def vsX (vs:List ByteArray) (p:Nat) (gone:Bool):List ByteArray:=if gone then (vs.set p zA).set p ⟨#[]⟩ else vs.set p zA
theorem zX {Kp:Bl} {w wq:World} {d b j m:Nat} {x z:Int} {o ao:Option (Nat×T)} {p:Nat} (hp:p<12) {gone:Bool} {v:Ut} (h:SkG keyL 400 Kp w wq d b j m z o ao [⟨x,true,o,csX p hp gone,fun _=>False⟩,v]) {th:List Bool} {vs:List ByteArray} (ht:Told (oents o) th vs) (hj:j≤1000) :
  Calls Tryz.prog 24 #[.pointer (some ⟨d,0,none⟩),.int .i64 x] wq fun e w'=>e=.returned (.int .i64 0)∧∃ o1,SkG keyL 400 Kp w w' d b (j+1) m z o1 o [Ut.lose (csX p hp gone) v]∧Told (oents o1) (th.set p (!gone)) (vsX vs p gone):=by
 obtain⟨c1,c2,c3⟩:=zO p hp gone
 obtain⟨fs,hro,_⟩:=h.sure
 refine(com_gm (kOk (n:=400) (by omega) (by omega)) h (i:=0) rfl (by simp) (by show (2+2) * (1+3 * 12)+2≤400;omega) c1 c2 rfl (fun c _ e=>e) (by omega)).mono ?_
 rintro e w' ⟨rfl,o1,h',hkv⟩
 obtain⟨fs1,hro1,_⟩:=h'.sure
 exact⟨rfl,o1,h',(zT (oents_rise hro) ht p hp gone).kv hkv (oents_rise hro1)⟩
theorem zY {Kp:Bl} {w wq:World} {d b j m:Nat} {y z:Int} {o o0 ao:Option (Nat×T)} {p q:Nat} (hp:p<12) (hq:q<12) {gone:Bool} (h:SkG keyL 400 Kp w wq d b j m z o ao [Ut.lose (csX p hp gone) ⟨y,true,o0,withC [] ⟨keyL[q]'hq,zB,false⟩,fun _=>False⟩]) {th:List Bool} {vs:List ByteArray} (ht:Told (oents o) th vs) (hj:j≤1000) :
  (p=q→Calls Tryz.prog 24 #[.pointer (some ⟨d,0,none⟩),.int .i64 y] wq fun e w'=>e=.returned (.int .i64 7)∧SkL keyL 400 Kp w w' d b j m o ao) ∧
  (p≠q→Calls Tryz.prog 24 #[.pointer (some ⟨d,0,none⟩),.int .i64 y] wq fun e w'=>e=.returned (.int .i64 0)∧∃ o2,SkL keyL 400 Kp w w' d b (j+1) m o2 o∧Told (oents o2) (th.set q true) (vs.set q zB)):=by
 obtain⟨c1,c2,c3⟩:=zP q hq zB (by decide)
 have hmem:∀ x,x∈withC [] (⟨keyL[q]'hq,zB,false⟩:Ch)↔x=⟨keyL[q]'hq,zB,false⟩:=fun x=>by rw [with_mem .nil];simp
 constructor
 ·intro hpq
  refine(com_gd h (i:=0) rfl (by simp) (by show (withC [] _).length≤1000;omega) 7 (.inr ⟨rfl,c2,⟨_,(hmem _).2 rfl,.inr ((zK p hp gone _).2 ?_)⟩,rfl⟩)).mono ?_
  ·subst hpq;rfl
  ·rintro e w' ⟨rfl,h'⟩
   exact⟨rfl,h'.l⟩
 ·intro hpq
  obtain⟨fs,hro,_⟩:=h.sure
  refine(com_gm (kOk (n:=400) (by omega) (by omega)) h (i:=0) rfl (by simp) (by show (1+2) * (1+3 * 12)+2≤400;omega) c1 c2 rfl (fun c hc e=>?_) (by omega)).mono ?_
  ·rw [(hmem c).1 hc] at e
   rcases e with e|e
   ·exact e
   ·exact zE hq hp (Ne.symm hpq) ((zK p hp gone _).1 e)
  ·rintro e w' ⟨rfl,o1,h',hkv⟩
   obtain⟨fs1,hro1,_⟩:=h'.sure
   have h0:Told (overE (oents o) []) th vs:=by rw [over_none (oents_rise hro)];exact ht
   exact⟨rfl,o1,h'.l,(h0.change (oents_rise hro) .nil q hq zB false).kv hkv (oents_rise hro1)⟩
theorem firsts_walk (ra:Option Addr) (rc:Nat) (raw:List Int) (one two:Int) (gone:Bool) (w:World) (hR:zN w w.heap.size ra rc raw) (h10 : -9223372036854775808≤one) (h11:one≤9223372036854775807) (h20 : -9223372036854775808≤two) (h21:two≤9223372036854775807) :
  Calls Tryz.prog 5 #[.slice ra raw.length rc,.int .i64 one,.int .i64 two,.bool gone] w fun e w'=>e=.returned (.bool true)∧Below w.heap.size w w':=by
 obtain⟨p,hp⟩:∃ p:Nat,pickV one 12=p:=⟨(pickV one 12).toNat,(Int.toNat_of_nonneg (pickV_range one 12 (by omega)).1).symm⟩
 have hp12:p<12:=by have:=(pickV_range one 12 (by omega)).2;omega
 obtain⟨q,hq⟩:∃ q:Nat,pickV two 12=q:=⟨(pickV two 12).toNat,(Int.toNat_of_nonneg (pickV_range two 12 (by omega)).1).symm⟩
 have hq12:q<12:=by have:=(pickV_range two 12 (by omega)).2;omega
 have HP1:Hid (∀ X,Calls Tryz.prog 20 #[.int .i64 one,.int .i64 12] X fun e w'=>e=.returned (.int .i64 p)∧w'=X):=fun X=>hp▸pick_val one 12 X h10 h11 (by omega)
 have HP2:Hid (∀ X,Calls Tryz.prog 20 #[.int .i64 two,.int .i64 12] X fun e w'=>e=.returned (.int .i64 q)∧w'=X):=fun X=>hq▸pick_val two 12 X h20 h21 (by omega)
 have hFr:=fresh_k (n:=400) (by omega) (by omega) w
 have HR:Hid (zN w w.heap.size ra rc raw):=hR
 have hpi:(p:Int)<12:=by omega
 have hqi:(q:Int)<12:=by omega
 have kq:=key_size _ (key_at q hq12)
 have HKq:Hid (∀ X,Calls Tryz.prog 22 #[.int .i64 (q:Nat)] X fun e w'=>e=.returned (.string (keyL[q]'hq12))∧Below X.heap.size X w'):=fun X=>key_any q hq12 X
 have HKp:Hid (∀ X,Calls Tryz.prog 22 #[.int .i64 (p:Nat)] X fun e w'=>e=.returned (.string (keyL[p]'hp12))∧Below X.heap.size X w'):=fun X=>key_any p hp12 X
 have kp:=key_size _ (key_at p hp12)
 have HWZ:Hid (∀ z:Int,0≤z→z≤1000→IntKind.i64.wrap (z+1+1)=z+1+1):=fun z h0 h1=>by rw [IntKind.wrap_i64];omega
 clear hR hp hq h10 h11 h20 h21
 go_enter Tryz.func5,Tryz.ntmps5
 go_wp2_with (first
  | (go_at_call 8;(with_reducible refine Calls.mono hFr ?_);rintro e X0 ⟨d,b,rfl,hL0⟩;have HB0:Hid (BookSt 400 (Bl.or (fun k=>k<w.heap.size) (Bl.one X0.heap.size)) (X0.alloc zeroBook) d b 0 0 none none X0.heap.size (List.replicate 12 false) (List.replicate 12 ⟨#[]⟩)):=⟨hL0.make zeroBook,book_zero X0,.inr rfl,told_none⟩;have HO0:Hid (On (fun k=>k<w.heap.size) w (X0.alloc zeroBook)):=hL0.kept.alloc (fun k hk=>Nat.lt_of_lt_of_le hk hL0.kept.size) _;have HQ:Hid (w.heap.size≤X0.heap.size):=hL0.kept.size;have hP0:=part_n (HR.out.on HO0.out) 0 8 (by omega) (by omega);rw [show ((8:Nat):Int)=8 from rfl,show ((0:Nat):Int)=0 from rfl] at hP0;clear hFr)
  | (go_at_call 10;(with_reducible refine Calls.mono hP0 ?_);rintro e X ⟨ra1,rc1,rfl,hR1,hX⟩;subst X;have hCm:=commit_any (kOk (n:=400) (by omega) (by omega)) HB0.out (by omega) (by omega) ra1 rc1 (partL raw 0 8) w.heap.size hR1 (fun i hi=>⟨.inl hi,fun e=>by have:=HQ.out;omega⟩) (fun x hx=>HR.out.i64 x (zM hx));clear hP0)
  | (go_at_call 9;(with_reducible refine Calls.mono hCm ?_);rintro e X1 ⟨rfl,j1,o1,ao1,th,vs,hB1,hj1,hO1⟩;obtain⟨z,hz0,hz1,hG1⟩:=hB1.st.g;have hP1:=HP1.out X1;have hP2:=HP2.out X1;have hBg:=begin_g hG1 true (by omega) (by simp);clear hCm)
  | (go_at_call 20;(with_reducible refine Calls.mono hP1 ?_);rintro e X ⟨rfl,hX⟩;subst X;clear hP1)
  | (go_at_call 20;(with_reducible refine Calls.mono hP2 ?_);rintro e X ⟨rfl,hX⟩;subst X;clear hP2)
  | (go_at_call 16;(with_reducible refine Calls.mono hBg ?_);rintro e X2 ⟨rfl,hG2⟩;have hBh:=begin_g hG2 true (by omega) (by simp);clear hBg)
  | (go_at_call 16;(with_reducible refine Calls.mono hBh ?_);rintro e X3 ⟨rfl,hG3⟩;have hwz:=HWZ.out z hz0 (by omega);clear hBh)
  | (go_at_call 22;(with_reducible refine Calls.mono (HKp.out X3) ?_);rintro e X4 ⟨rfl,hb4⟩;have hPx:=put_g (hG3.step hb4) (i:=0) rfl (by simp) rfl (keyL[p]'hp12) zA .nil (by simp) kp.1 kp.2 (by decide);clear hG3)
  | (go_at_call 21;(with_reducible refine Calls.mono hPx ?_);rintro e X5 ⟨rfl,hG5⟩;clear hPx)
  | (go_at_call 22;(with_reducible refine Calls.mono (HKq.out X5) ?_);rintro e X6 ⟨rfl,hb6⟩;have hPy:=put_g (hG5.step hb6) (i:=1) rfl (by simp) rfl (keyL[q]'hq12) zB .nil (by simp) kq.1 kq.2 (by decide);clear hG5)
  | (go_at_call 21;(with_reducible refine Calls.mono hPy ?_);rintro e X7 ⟨rfl,hG7⟩;have HG7:Hid (SkG keyL 400 (Bl.or (fun k=>k<w.heap.size) (Bl.one X0.heap.size)) X1 X7 d b j1 (0+1+1+1) (z+1+1) o1 ao1 [⟨z+1,true,o1,csX p hp12 false,fun _=>False⟩,⟨z+1+1,true,o1,withC [] ⟨keyL[q]'hq12,zB,false⟩,fun _=>False⟩]):=hG7;have HJ:Hid (j1≤1000):=(by show _≤_;omega);clear hPy hG7))
 ·obtain rfl:gone=true:=by assumption
  by_cases hpq:p=q
  ·subst hpq
   have hKd:=HKp.out X7
   go_wp2_with (first
    | (go_at_call 22;(with_reducible refine Calls.mono hKd ?_);rintro e X8 ⟨rfl,hb8⟩;have hDx:=del_g (HG7.out.step hb8) (i:=0) rfl (by simp) rfl (keyL[p]'hp12) (zO p hp12 false).1.rise (by have:=(zO p hp12 false).2.2;show (csX p hp12 false).length≤1000;omega) kp.1 kp.2;have HFO:Hid (foundC o1 (csX p hp12 false) (keyL[p]'hp12)=true):=(by obtain⟨fs,hro,hfl⟩:=hG1.sure;have:=zF hro hfl (zO p hp12 false).1 (zT (oents_rise hro) hB1.told p hp12 false) p hp12;rw [List.getElem_set_self] at this;exact this);clear hKd)
    | (go_at_call 23;(with_reducible refine Calls.mono hDx ?_);rintro e X9 ⟨y9,us9,rfl,hG9,hor⟩;obtain⟨rfl,rfl⟩:y9=0∧us9=_:=(by rcases hor with⟨h1,h2,h3⟩|⟨h1,h2,h3⟩;exact⟨h2,h3⟩;(rw [HFO.out] at h1;cases h1));clear hor;have HG9:Hid (SkG keyL 400 (Bl.or (fun k=>k<w.heap.size) (Bl.one X0.heap.size)) X1 X9 d b j1 (0+1+1+1) (z+1+1) o1 ao1 [⟨z+1,true,o1,csX p hp12 true,fun _=>False⟩,⟨z+1+1,true,o1,withC [] ⟨keyL[p]'hp12,zB,false⟩,fun _=>False⟩]):=hG9;have hCx:=zX hp12 HG9.out hB1.told HJ.out;clear hDx hG9)
    | (go_at_call 24;(with_reducible refine Calls.mono hCx ?_);rintro e XA ⟨rfl,o2,hGA,hTA⟩;have hCy:=(zY hp12 hp12 hGA hTA (by have:=HJ.out;omega)).1 rfl;clear hCx)
    | (go_at_call 24;(with_reducible refine Calls.mono hCy ?_);rintro e XB ⟨rfl,hLB⟩;have xB:BookAt XB X0.heap.size th vs:=hB1.book.on hLB.kept (.inr rfl);have e1:=xB.there p hp12;have e2:=xB.free p;obtain⟨XC,hXC⟩:∃ XC,XB.setCell ⟨X0.heap.size,p,none⟩ (.bool false)=XC:=⟨_,rfl⟩;have xC:BookAt XC X0.heap.size (th.set p false) vs:=hXC▸xB.setThere p hp12 false;have e3:=xC.value p hp12;have e4:=xC.free (12+p);obtain⟨XD,hXD⟩:∃ XD,XC.setCell ⟨X0.heap.size,12+p,none⟩ (.string zA)=XD:=⟨_,rfl⟩;have xD:BookAt XD X0.heap.size (th.set p false) (vs.set p zA):=hXD▸xC.setValue p hp12 zA;have FD:Fr (Bl.one X0.heap.size) XB XD:=(by rw [← hXD,← hXC];exact((Fr.refl (Bl.one X0.heap.size) XB).setCell (p:=⟨X0.heap.size,p,none⟩) (.inl rfl) _).setCell (p:=⟨X0.heap.size,12+p,none⟩) (.inl rfl) _);have e5:=xD.value p hp12;have e6:=xD.free (12+p);obtain⟨XE,hXE⟩:∃ XE,XD.setCell ⟨X0.heap.size,12+p,none⟩ (.string ⟨#[]⟩)=XE:=⟨_,rfl⟩;have xE:BookAt XE X0.heap.size (th.set p false) (vs.set p ⟨#[]⟩):=(by have:=xD.setValue p hp12 ⟨#[]⟩;rw [List.set_set] at this;exact hXE▸this);have FE:Fr (Bl.one X0.heap.size) XB XE:=hXE▸FD.setCell (p:=⟨X0.heap.size,12+p,none⟩) (.inl rfl) _;have hSh:=shows_any (hLB.touch FE (.inr rfl)) (th.set p false) (vs.set p ⟨#[]⟩) (by have h:=hTA;rw [vsX,if_pos rfl,List.set_set] at h;exact h) (by omega);clear hCy)
    | (refine zG (by rfl) (.tmp 11) rfl X0.heap.size rfl xE ?_)
    | (go_at_call 11;(with_reducible refine Calls.mono hSh ?_);rintro e XS ⟨rfl,hSS⟩;clear hSh))
   go_ret
   have OF:On (fun k=>k<w.heap.size) w XS:=(((HO0.out.trans (hO1.mono (fun i hi=>⟨.inl hi,fun e=>by have:=HQ.out;omega⟩))).trans (hLB.kept.mono (fun i hi=>.inl hi))).trans (FE.on (fun i hi=>⟨Nat.lt_of_lt_of_le hi (Nat.le_trans HO0.out.size (Nat.le_trans hO1.size hLB.kept.size)),fun e=>by simp only [Bl.one] at e;have:=HQ.out;omega⟩))).trans (hSS.kept.mono (fun i hi=>.inl hi))
   exact⟨rfl,OF.os,OF.tape,OF.output,OF.size,OF.block⟩
  ·have HNE:Hid (p≠q):=hpq
   have hKd:=HKp.out X7
   have hpqi:¬ ((p:Int)=(q:Int)):=by omega
   go_wp2_with (first
    | (go_at_call 22;(with_reducible refine Calls.mono hKd ?_);rintro e X8 ⟨rfl,hb8⟩;have hDx:=del_g (HG7.out.step hb8) (i:=0) rfl (by simp) rfl (keyL[p]'hp12) (zO p hp12 false).1.rise (by have:=(zO p hp12 false).2.2;show (csX p hp12 false).length≤1000;omega) kp.1 kp.2;have HFO:Hid (foundC o1 (csX p hp12 false) (keyL[p]'hp12)=true):=(by obtain⟨fs,hro,hfl⟩:=hG1.sure;have:=zF hro hfl (zO p hp12 false).1 (zT (oents_rise hro) hB1.told p hp12 false) p hp12;rw [List.getElem_set_self] at this;exact this);clear hKd)
    | (go_at_call 23;(with_reducible refine Calls.mono hDx ?_);rintro e X9 ⟨y9,us9,rfl,hG9,hor⟩;obtain⟨rfl,rfl⟩:y9=0∧us9=_:=(by rcases hor with⟨h1,h2,h3⟩|⟨h1,h2,h3⟩;exact⟨h2,h3⟩;(rw [HFO.out] at h1;cases h1));clear hor;have HG9:Hid (SkG keyL 400 (Bl.or (fun k=>k<w.heap.size) (Bl.one X0.heap.size)) X1 X9 d b j1 (0+1+1+1) (z+1+1) o1 ao1 [⟨z+1,true,o1,csX p hp12 true,fun _=>False⟩,⟨z+1+1,true,o1,withC [] ⟨keyL[q]'hq12,zB,false⟩,fun _=>False⟩]):=hG9;have hCx:=zX hp12 HG9.out hB1.told HJ.out;clear hDx hG9)
    | (go_at_call 24;(with_reducible refine Calls.mono hCx ?_);rintro e XA ⟨rfl,o2,hGA,hTA⟩;have hCy:=(zY hp12 hq12 hGA hTA (by have:=HJ.out;omega)).2 HNE.out;clear hCx)
    | (go_at_call 24;(with_reducible refine Calls.mono hCy ?_);rintro e XB ⟨rfl,o3,hLB,hTB⟩;have xB:BookAt XB X0.heap.size th vs:=hB1.book.on hLB.kept (.inr rfl);have e1:=xB.there p hp12;have e2:=xB.free p;obtain⟨XC,hXC⟩:∃ XC,XB.setCell ⟨X0.heap.size,p,none⟩ (.bool false)=XC:=⟨_,rfl⟩;have xC:BookAt XC X0.heap.size (th.set p false) vs:=hXC▸xB.setThere p hp12 false;have e3:=xC.value p hp12;have e4:=xC.free (12+p);obtain⟨XD,hXD⟩:∃ XD,XC.setCell ⟨X0.heap.size,12+p,none⟩ (.string zA)=XD:=⟨_,rfl⟩;have xD:BookAt XD X0.heap.size (th.set p false) (vs.set p zA):=hXD▸xC.setValue p hp12 zA;have FD:Fr (Bl.one X0.heap.size) XB XD:=(by rw [← hXD,← hXC];exact((Fr.refl (Bl.one X0.heap.size) XB).setCell (p:=⟨X0.heap.size,p,none⟩) (.inl rfl) _).setCell (p:=⟨X0.heap.size,12+p,none⟩) (.inl rfl) _);have e5:=xD.value p hp12;have e6:=xD.free (12+p);obtain⟨XE,hXE⟩:∃ XE,XD.setCell ⟨X0.heap.size,12+p,none⟩ (.string ⟨#[]⟩)=XE:=⟨_,rfl⟩;have xE:BookAt XE X0.heap.size (th.set p false) (vs.set p ⟨#[]⟩):=(by have:=xD.setValue p hp12 ⟨#[]⟩;rw [List.set_set] at this;exact hXE▸this);have FE:Fr (Bl.one X0.heap.size) XB XE:=hXE▸FD.setCell (p:=⟨X0.heap.size,12+p,none⟩) (.inl rfl) _;have e7:=xE.there q hq12;have e8:=xE.free q;obtain⟨XG,hXG⟩:∃ XG,XE.setCell ⟨X0.heap.size,q,none⟩ (.bool true)=XG:=⟨_,rfl⟩;have xG:BookAt XG X0.heap.size ((th.set p false).set q true) (vs.set p ⟨#[]⟩):=hXG▸xE.setThere q hq12 true;have e9:=xG.value q hq12;have eA:=xG.free (12+q);obtain⟨XH,hXH⟩:∃ XH,XG.setCell ⟨X0.heap.size,12+q,none⟩ (.string zB)=XH:=⟨_,rfl⟩;have xH:BookAt XH X0.heap.size ((th.set p false).set q true) ((vs.set p ⟨#[]⟩).set q zB):=hXH▸xG.setValue q hq12 zB;have FH:Fr (Bl.one X0.heap.size) XB XH:=(by rw [← hXH,← hXG];exact(FE.setCell (p:=⟨X0.heap.size,q,none⟩) (.inl rfl) _).setCell (p:=⟨X0.heap.size,12+q,none⟩) (.inl rfl) _);have hSh:=shows_any (hLB.touch FH (.inr rfl)) ((th.set p false).set q true) ((vs.set p ⟨#[]⟩).set q zB) (by have h:=hTB;rw [vsX,if_pos rfl,List.set_set] at h;exact h) (by omega);clear hCy)
    | (refine zG (by rfl) (.tmp 11) rfl X0.heap.size rfl xH ?_)
    | (go_at_call 11;(with_reducible refine Calls.mono hSh ?_);rintro e XS ⟨rfl,hSS⟩;clear hSh))
   go_ret
   have OF:On (fun k=>k<w.heap.size) w XS:=(((HO0.out.trans (hO1.mono (fun i hi=>⟨.inl hi,fun e=>by have:=HQ.out;omega⟩))).trans (hLB.kept.mono (fun i hi=>.inl hi))).trans (FH.on (fun i hi=>⟨Nat.lt_of_lt_of_le hi (Nat.le_trans HO0.out.size (Nat.le_trans hO1.size hLB.kept.size)),fun e=>by simp only [Bl.one] at e;have:=HQ.out;omega⟩))).trans (hSS.kept.mono (fun i hi=>.inl hi))
   exact⟨rfl,OF.os,OF.tape,OF.output,OF.size,OF.block⟩
 ·obtain rfl:gone=false:=by assumption
  by_cases hpq:p=q
  ·subst hpq
   have hCx:=zX hp12 HG7.out hB1.told HJ.out
   go_wp2_with (first
    | (go_at_call 24;(with_reducible refine Calls.mono hCx ?_);rintro e XA ⟨rfl,o2,hGA,hTA⟩;have hCy:=(zY hp12 hp12 hGA hTA (by have:=HJ.out;omega)).1 rfl;clear hCx)
    | (go_at_call 24;(with_reducible refine Calls.mono hCy ?_);rintro e XB ⟨rfl,hLB⟩;have xB:BookAt XB X0.heap.size th vs:=hB1.book.on hLB.kept (.inr rfl);have e1:=xB.there p hp12;have e2:=xB.free p;obtain⟨XC,hXC⟩:∃ XC,XB.setCell ⟨X0.heap.size,p,none⟩ (.bool true)=XC:=⟨_,rfl⟩;have xC:BookAt XC X0.heap.size (th.set p true) vs:=hXC▸xB.setThere p hp12 true;have e3:=xC.value p hp12;have e4:=xC.free (12+p);obtain⟨XD,hXD⟩:∃ XD,XC.setCell ⟨X0.heap.size,12+p,none⟩ (.string zA)=XD:=⟨_,rfl⟩;have xD:BookAt XD X0.heap.size (th.set p true) (vs.set p zA):=hXD▸xC.setValue p hp12 zA;have FD:Fr (Bl.one X0.heap.size) XB XD:=(by rw [← hXD,← hXC];exact((Fr.refl (Bl.one X0.heap.size) XB).setCell (p:=⟨X0.heap.size,p,none⟩) (.inl rfl) _).setCell (p:=⟨X0.heap.size,12+p,none⟩) (.inl rfl) _);have hSh:=shows_any (hLB.touch FD (.inr rfl)) (th.set p true) (vs.set p zA) hTA (by omega);clear hCy)
    | (refine zG (by rfl) (.tmp 11) rfl X0.heap.size rfl xD ?_)
    | (go_at_call 11;(with_reducible refine Calls.mono hSh ?_);rintro e XS ⟨rfl,hSS⟩;clear hSh))
   go_ret
   have OF:On (fun k=>k<w.heap.size) w XS:=(((HO0.out.trans (hO1.mono (fun i hi=>⟨.inl hi,fun e=>by have:=HQ.out;omega⟩))).trans (hLB.kept.mono (fun i hi=>.inl hi))).trans (FD.on (fun i hi=>⟨Nat.lt_of_lt_of_le hi (Nat.le_trans HO0.out.size (Nat.le_trans hO1.size hLB.kept.size)),fun e=>by simp only [Bl.one] at e;have:=HQ.out;omega⟩))).trans (hSS.kept.mono (fun i hi=>.inl hi))
   exact⟨rfl,OF.os,OF.tape,OF.output,OF.size,OF.block⟩
  ·have HNE:Hid (p≠q):=hpq
   have hCx:=zX hp12 HG7.out hB1.told HJ.out
   have hpqi:¬ ((p:Int)=(q:Int)):=by omega
   go_wp2_with (first
    | (go_at_call 24;(with_reducible refine Calls.mono hCx ?_);rintro e XA ⟨rfl,o2,hGA,hTA⟩;have hCy:=(zY hp12 hq12 hGA hTA (by have:=HJ.out;omega)).2 HNE.out;clear hCx)
    | (go_at_call 24;(with_reducible refine Calls.mono hCy ?_);rintro e XB ⟨rfl,o3,hLB,hTB⟩;have xB:BookAt XB X0.heap.size th vs:=hB1.book.on hLB.kept (.inr rfl);have e1:=xB.there p hp12;have e2:=xB.free p;obtain⟨XC,hXC⟩:∃ XC,XB.setCell ⟨X0.heap.size,p,none⟩ (.bool true)=XC:=⟨_,rfl⟩;have xC:BookAt XC X0.heap.size (th.set p true) vs:=hXC▸xB.setThere p hp12 true;have e3:=xC.value p hp12;have e4:=xC.free (12+p);obtain⟨XD,hXD⟩:∃ XD,XC.setCell ⟨X0.heap.size,12+p,none⟩ (.string zA)=XD:=⟨_,rfl⟩;have xD:BookAt XD X0.heap.size (th.set p true) (vs.set p zA):=hXD▸xC.setValue p hp12 zA;have FD:Fr (Bl.one X0.heap.size) XB XD:=(by rw [← hXD,← hXC];exact((Fr.refl (Bl.one X0.heap.size) XB).setCell (p:=⟨X0.heap.size,p,none⟩) (.inl rfl) _).setCell (p:=⟨X0.heap.size,12+p,none⟩) (.inl rfl) _);have e7:=xD.there q hq12;have e8:=xD.free q;obtain⟨XG,hXG⟩:∃ XG,XD.setCell ⟨X0.heap.size,q,none⟩ (.bool true)=XG:=⟨_,rfl⟩;have xG:BookAt XG X0.heap.size ((th.set p true).set q true) (vs.set p zA):=hXG▸xD.setThere q hq12 true;have e9:=xG.value q hq12;have eA:=xG.free (12+q);obtain⟨XH,hXH⟩:∃ XH,XG.setCell ⟨X0.heap.size,12+q,none⟩ (.string zB)=XH:=⟨_,rfl⟩;have xH:BookAt XH X0.heap.size ((th.set p true).set q true) ((vs.set p zA).set q zB):=hXH▸xG.setValue q hq12 zB;have FH:Fr (Bl.one X0.heap.size) XB XH:=(by rw [← hXH,← hXG];exact(FD.setCell (p:=⟨X0.heap.size,q,none⟩) (.inl rfl) _).setCell (p:=⟨X0.heap.size,12+q,none⟩) (.inl rfl) _);have hSh:=shows_any (hLB.touch FH (.inr rfl)) ((th.set p true).set q true) ((vs.set p zA).set q zB) hTB (by omega);clear hCy)
    | (refine zG (by rfl) (.tmp 11) rfl X0.heap.size rfl xH ?_)
    | (go_at_call 11;(with_reducible refine Calls.mono hSh ?_);rintro e XS ⟨rfl,hSS⟩;clear hSh))
   go_ret
   have OF:On (fun k=>k<w.heap.size) w XS:=(((HO0.out.trans (hO1.mono (fun i hi=>⟨.inl hi,fun e=>by have:=HQ.out;omega⟩))).trans (hLB.kept.mono (fun i hi=>.inl hi))).trans (FH.on (fun i hi=>⟨Nat.lt_of_lt_of_le hi (Nat.le_trans HO0.out.size (Nat.le_trans hO1.size hLB.kept.size)),fun e=>by simp only [Bl.one] at e;have:=HQ.out;omega⟩))).trans (hSS.kept.mono (fun i hi=>.inl hi))
   exact⟨rfl,OF.os,OF.tape,OF.output,OF.size,OF.block⟩
end Go.Proofs.YtngpplmndpmgiaaGreat.Tree
