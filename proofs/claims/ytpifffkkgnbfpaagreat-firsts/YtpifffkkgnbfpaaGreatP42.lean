import Derived.Test.YtpifffkkgnbfpaaGreatP41
import Derived.Test.YtpifffkkgnbfpaaGreatP38
set_option linter.unusedSimpArgs false
set_option linter.unusedVariables false
set_option maxRecDepth 100000
set_option maxHeartbeats 8000000
namespace Go.Proofs.YtpifffkkgnbfpaaGreat.Tree
open Go.RowKit Pages
variable {Kp:Bl} {ao o:Option (Nat×T)} {b d j m p:Nat} {th:List Bool} {vs:List ByteArray} {w wq:World} {z:Int}
theorem SkL.g {K:List ByteArray} {n:Nat}     (h:SkL K n Kp w wq d b j m o ao):∃ z:Int,0≤z∧z≤(m:Nat)∧SkG K n Kp w wq d b j m z o ao []:=by
 obtain⟨D,h,hi,rfl,rfl⟩:=h
 exact⟨D.last,h.last0,h.last1,D,h,⟨by rw [hi];rfl,fun i hi' _=>by rw [hi] at hi';simp at hi',.nil,by simp⟩,rfl,rfl,rfl⟩
theorem SkG.l {K:List ByteArray} {n:Nat}      (h:SkG K n Kp w wq d b j m z o ao []):SkL K n Kp w wq d b j m o ao:=by
 obtain⟨D,h,hU,_,rfl,rfl⟩:=h
 exact⟨D,h,List.eq_nil_of_length_eq_zero hU.len,rfl,rfl⟩
theorem Dl {fs:Fs}  {cs:List Ch} (hro:bJ fs (rootOf o) o) (hf:gS o) (hc:lT aQ cs)   (ht:Told (bD (cQ o) cs) th vs) (k:Nat) (hk:k<12):dZ o cs (aQ[k]'hk)=th[k]'(by have:=ht.lt;omega):=by
 rw [Dm hro hf hc.rise hc.good]
 unfold kW
 rw [ht.tells k hk]
 cases th[k]'(by have:=ht.lt;omega)<;>rfl
theorem qFa {p q:Nat} (hp:p<12) (hq:q<12) (h:p≠q):aQ[p]'hp≠aQ[q]'hq:=by
 intro e
 rcases Nat.lt_or_gt_of_ne h with h'|h'
 ·have:=List.pairwise_iff_getElem.1 xM p q hp hq h'
  rw [e,bU] at this;cases this
 ·have:=List.pairwise_iff_getElem.1 xM q p hq hp h'
  rw [e,bU] at this;cases this
abbrev dP:ByteArray:=⟨#[102,105,114,115,116]⟩
abbrev eY:ByteArray:=⟨#[115,101,99,111,110,100]⟩
def csX (p:Nat) (hp:p<12) (gone:Bool):List Ch:=if gone then bM (bM [] ⟨aQ[p]'hp,dP,false⟩) ⟨aQ[p]'hp,⟨#[]⟩,true⟩ else bM [] ⟨aQ[p]'hp,dP,false⟩
theorem qEw:lT aQ []:=⟨.nil,by simp,by simp,by simp⟩
theorem Ji (p:Nat) (hp:p<12) (v:ByteArray) (hv:v.size≤400):lT aQ (bM [] ⟨aQ[p]'hp,v,false⟩)∧0<(bM [] ⟨aQ[p]'hp,v,false⟩).length∧(bM [] ⟨aQ[p]'hp,v,false⟩).length≤1:=by
 obtain⟨a,b,c⟩:=qEw.with (by simp) ⟨aQ[p]'hp,v,false⟩ (oV p hp v hv false) (cL p hp)
 exact⟨a,b,by simpa using c⟩
theorem uH (p:Nat) (hp:p<12) (gone:Bool):lT aQ (csX p hp gone)∧0<(csX p hp gone).length∧(csX p hp gone).length≤2:=by
 obtain⟨a,b,c⟩:=Ji p hp dP (by decide)
 cases gone with
 | false=>exact⟨a,b,by show (bM [] _).length≤2;omega⟩
 | true =>
  obtain⟨a',b',c'⟩:=a.with (by omega) ⟨aQ[p]'hp,⟨#[]⟩,true⟩ (oV p hp ⟨#[]⟩ (by decide) true) (cL p hp)
  exact⟨a',b',by show (bM (bM [] _) _).length≤2;omega⟩
theorem Oh (p:Nat) (hp:p<12) (gone:Bool) (y:ByteArray):y∈(csX p hp gone).map (·.key)↔y=aQ[p]'hp:=by
 have h1:∀ x,x∈bM [] (⟨aQ[p]'hp,dP,false⟩:Ch)↔x=⟨aQ[p]'hp,dP,false⟩:=fun x=>by rw [fJ .nil];simp
 rw [List.mem_map]
 cases gone with
 | false =>
  constructor
  ·rintro⟨x,hx,rfl⟩
   rw [(h1 x).1 hx]
  ·rintro rfl
   exact⟨_,(h1 _).2 rfl,rfl⟩
 | true =>
  have hr:=(Ji p hp dP (by decide)).1.rise
  constructor
  ·rintro⟨x,hx,rfl⟩
   rcases (fJ hr _ x).1 hx with rfl|⟨h2,h3⟩
   ·rfl
   ·rw [(h1 x).1 h2]
  ·rintro rfl
   exact⟨_,(fJ hr _ _).2 (.inl rfl),rfl⟩
theorem Dx (he:cR (cQ o))   (h:Told (cQ o) th vs) (p:Nat) (hp:p<12) (gone:Bool):Told (bD (cQ o) (csX p hp gone)) (th.set p (!gone)) (if gone then (vs.set p dP).set p ⟨#[]⟩ else vs.set p dP):=by
 have h0:Told (bD (cQ o) []) th vs:=by rw [jH he];exact h
 have h1:=h0.change he .nil p hp dP false (fun h=>by cases h)
 cases gone with
 | false=>exact h1
 | true =>
  have h2:=h1.change he (Ji p hp dP (by decide)).1.rise p hp ⟨#[]⟩ true (fun _=>rfl)
  simp only [List.set_set] at h2 ⊢
  exact h2
def vsX (vs:List ByteArray) (p:Nat) (gone:Bool):List ByteArray:=if gone then (vs.set p dP).set p ⟨#[]⟩ else vs.set p dP
theorem vS {x z:Int}   (hp:p<12) {gone:Bool} {v:Ut} (h:SkG aQ 400 Kp w wq d b j m z o ao [⟨x,true,o,csX p hp gone,fun _=>False⟩,v])   (ht:Told (cQ o) th vs) (hj:j≤1000) :
  Calls Tryz.prog 26 #[.pointer (some ⟨d,0,none⟩),.int .i64 x] wq fun e w'=>e=.returned (.int .i64 0)∧∃ o1,SkG aQ 400 Kp w w' d b (j+1) m z o1 o [Ut.lose (csX p hp gone) v]∧Told (cQ o1) (th.set p (!gone)) (vsX vs p gone):=by
 obtain⟨c1,c2,c3⟩:=uH p hp gone
 obtain⟨fs,hro,_⟩:=h.sure
 refine(qBp (kOk (n:=400) (by omega) (by omega)) h (i:=0) rfl (by simp) (by show (2+2) * (1+3 * 12)+2≤400;omega) c1 c2 rfl (fun c _ e=>e) (by omega)).mono ?_
 rintro e w' ⟨rfl,o1,h',hkv⟩
 obtain⟨fs1,hro1,_⟩:=h'.sure
 exact⟨rfl,o1,h',(Dx (dB hro) ht p hp gone).kv hkv (dB hro1)⟩
theorem vR {y z:Int} {o o0 ao:Option (Nat×T)} {p q:Nat} (hp:p<12) (hq:q<12) {gone:Bool} (h:SkG aQ 400 Kp w wq d b j m z o ao [Ut.lose (csX p hp gone) ⟨y,true,o0,bM [] ⟨aQ[q]'hq,eY,false⟩,fun _=>False⟩])   (ht:Told (cQ o) th vs) (hj:j≤1000) :
  (p=q→Calls Tryz.prog 26 #[.pointer (some ⟨d,0,none⟩),.int .i64 y] wq fun e w'=>e=.returned (.int .i64 7)∧SkL aQ 400 Kp w w' d b j m o ao) ∧
  (p≠q→Calls Tryz.prog 26 #[.pointer (some ⟨d,0,none⟩),.int .i64 y] wq fun e w'=>e=.returned (.int .i64 0)∧∃ o2,SkL aQ 400 Kp w w' d b (j+1) m o2 o∧Told (cQ o2) (th.set q true) (vs.set q eY)):=by
 obtain⟨c1,c2,c3⟩:=Ji q hq eY (by decide)
 have hmem:∀ x,x∈bM [] (⟨aQ[q]'hq,eY,false⟩:Ch)↔x=⟨aQ[q]'hq,eY,false⟩:=fun x=>by rw [fJ .nil];simp
 constructor
 ·intro hpq
  refine(qFk h (i:=0) rfl (by simp) (by show (bM [] _).length≤1000;omega) 7 (.inr ⟨rfl,c2,⟨_,(hmem _).2 rfl,.inr ((Oh p hp gone _).2 ?_)⟩,rfl⟩)).mono ?_
  ·subst hpq;rfl
  ·rintro e w' ⟨rfl,h'⟩
   exact⟨rfl,h'.l⟩
 ·intro hpq
  obtain⟨fs,hro,_⟩:=h.sure
  refine(qBp (kOk (n:=400) (by omega) (by omega)) h (i:=0) rfl (by simp) (by show (1+2) * (1+3 * 12)+2≤400;omega) c1 c2 rfl (fun c hc e=>?_) (by omega)).mono ?_
  ·rw [(hmem c).1 hc] at e
   rcases e with e|e
   ·exact e
   ·exact qFa hq hp (Ne.symm hpq) ((Oh p hp gone _).1 e)
  ·rintro e w' ⟨rfl,o1,h',hkv⟩
   obtain⟨fs1,hro1,_⟩:=h'.sure
   have h0:Told (bD (cQ o) []) th vs:=by rw [jH (dB hro)];exact ht
   exact⟨rfl,o1,h'.l,(h0.change (dB hro) .nil q hq eY false (fun h=>by cases h)).kv hkv (dB hro1)⟩
theorem Nn (ra:Option Addr) (rc:Nat) (raw:List Int) (one two:Int) (gone:Bool) (w:World) (hR:iF w w.heap.size ra rc raw) (h10 : -9223372036854775808≤one) (h11:one≤9223372036854775807) (h20 : -9223372036854775808≤two) (h21:two≤9223372036854775807) :
  Calls Tryz.prog 5 #[.slice ra raw.length rc,.int .i64 one,.int .i64 two,.bool gone] w fun e w'=>e=.returned (.bool true)∧Below w.heap.size w w':=by
 obtain⟨p,hp⟩:∃ p:Nat,kB one 12=p:=⟨(kB one 12).toNat,(Int.toNat_of_nonneg (dI one 12 (by omega)).1).symm⟩
 have hp12:p<12:=by have:=(dI one 12 (by omega)).2;omega
 obtain⟨q,hq⟩:∃ q:Nat,kB two 12=q:=⟨(kB two 12).toNat,(Int.toNat_of_nonneg (dI two 12 (by omega)).1).symm⟩
 have hq12:q<12:=by have:=(dI two 12 (by omega)).2;omega
 have HP1:Hid (∀ X,Calls Tryz.prog 22 #[.int .i64 one,.int .i64 12] X fun e w'=>e=.returned (.int .i64 p)∧w'=X):=fun X=>hp▸mL one 12 X h10 h11 (by omega)
 have HP2:Hid (∀ X,Calls Tryz.prog 22 #[.int .i64 two,.int .i64 12] X fun e w'=>e=.returned (.int .i64 q)∧w'=X):=fun X=>hq▸mL two 12 X h20 h21 (by omega)
 have hFr:=Jv (n:=400) (by omega) (by omega) w
 have HR:Hid (iF w w.heap.size ra rc raw):=hR
 have hpi:(p:Int)<12:=by omega
 have hqi:(q:Int)<12:=by omega
 have kq:=bV _ (cL q hq12)
 have HKq:Hid (∀ X,Calls Tryz.prog 24 #[.int .i64 (q:Nat)] X fun e w'=>e=.returned (.string (aQ[q]'hq12))∧Below X.heap.size X w'):=fun X=>sL q hq12 X
 have HKp:Hid (∀ X,Calls Tryz.prog 24 #[.int .i64 (p:Nat)] X fun e w'=>e=.returned (.string (aQ[p]'hp12))∧Below X.heap.size X w'):=fun X=>sL p hp12 X
 have kp:=bV _ (cL p hp12)
 have HWZ:Hid (∀ z:Int,0≤z→z≤1000→IntKind.i64.wrap (z+1+1)=z+1+1):=fun z h0 h1=>by rw [IntKind.wrap_i64];omega
 clear hR hp hq h10 h11 h20 h21
 go_enter Tryz.func5,Tryz.ntmps5
 go_wp2_with (first
  | (go_at_call 10;(with_reducible refine jC hFr ?_);rintro e X0 ⟨d,b,rfl,hL0⟩;have HB0:Hid (oL 400 (Bl.or (fun k=>k<w.heap.size) (Bl.one X0.heap.size)) (X0.alloc fI) d b 0 0 none none X0.heap.size (List.replicate 12 false) (List.replicate 12 ⟨#[]⟩)):=⟨hL0.make fI,pM X0,.inr rfl,told_none⟩;have HO0:Hid (On (fun k=>k<w.heap.size) w (X0.alloc fI)):=hL0.kept.alloc (fun k hk=>jY hk hL0.kept.size) _;have HQ:Hid (w.heap.size≤X0.heap.size):=hL0.kept.size;have hP0:=Jl (HR.out.on HO0.out) 0 8 (by omega) (by omega);rw [show ((8:Nat):Int)=8 from rfl,show ((0:Nat):Int)=0 from rfl] at hP0;clear hFr)
  | (go_at_call 12;(with_reducible refine jC hP0 ?_);rintro e X ⟨ra1,rc1,rfl,hR1,hX⟩;subst X;have hCm:=uI (kOk (n:=400) (by omega) (by omega)) HB0.out (by omega) (by omega) ra1 rc1 (iQ raw 0 8) w.heap.size hR1 (fun i hi=>⟨.inl hi,fun e=>by have:=HQ.out;omega⟩) (fun x hx=>HR.out.i64 x (wW hx));clear hP0)
  | (go_at_call 11;(with_reducible refine jC hCm ?_);rintro e X1 ⟨rfl,j1,o1,ao1,th,vs,hB1,hj1,hO1⟩;obtain⟨z,hz0,hz1,hG1⟩:=hB1.st.g;have hP1:=HP1.out X1;have hP2:=HP2.out X1;have hBg:=Uq hG1 true (by omega) (by simp);clear hCm)
  | (go_at_call 22;(with_reducible refine jC hP1 ?_);rintro e X ⟨rfl,hX⟩;subst X;clear hP1)
  | (go_at_call 22;(with_reducible refine jC hP2 ?_);rintro e X ⟨rfl,hX⟩;subst X;clear hP2)
  | (go_at_call 18;(with_reducible refine jC hBg ?_);rintro e X2 ⟨rfl,hG2⟩;have hBh:=Uq hG2 true (by omega) (by simp);clear hBg)
  | (go_at_call 18;(with_reducible refine jC hBh ?_);rintro e X3 ⟨rfl,hG3⟩;have hwz:=HWZ.out z hz0 (by omega);clear hBh)
  | (go_at_call 24;(with_reducible refine jC (HKp.out X3) ?_);rintro e X4 ⟨rfl,hb4⟩;have hPx:=qEc (hG3.step hb4) (i:=0) rfl (by simp) rfl (aQ[p]'hp12) dP .nil (by simp) kp.1 kp.2 (by decide);clear hG3)
  | (go_at_call 23;(with_reducible refine jC hPx ?_);rintro e X5 ⟨rfl,hG5⟩;clear hPx)
  | (go_at_call 24;(with_reducible refine jC (HKq.out X5) ?_);rintro e X6 ⟨rfl,hb6⟩;have hPy:=qEc (hG5.step hb6) (i:=1) rfl (by simp) rfl (aQ[q]'hq12) eY .nil (by simp) kq.1 kq.2 (by decide);clear hG5)
  | (go_at_call 23;(with_reducible refine jC hPy ?_);rintro e X7 ⟨rfl,hG7⟩;have HG7:Hid (SkG aQ 400 (Bl.or (fun k=>k<w.heap.size) (Bl.one X0.heap.size)) X1 X7 d b j1 (0+1+1+1) (z+1+1) o1 ao1 [⟨z+1,true,o1,csX p hp12 false,fun _=>False⟩,⟨z+1+1,true,o1,bM [] ⟨aQ[q]'hq12,eY,false⟩,fun _=>False⟩]):=hG7;have HJ:Hid (j1≤1000):=(by show _≤_;omega);clear hPy hG7))
 ·obtain rfl:gone=true:=by assumption
  by_cases hpq:p=q
  ·subst hpq
   have hKd:=HKp.out X7
   go_wp2_with (first
    | (go_at_call 24;(with_reducible refine jC hKd ?_);rintro e X8 ⟨rfl,hb8⟩;have hDx:=qEh (HG7.out.step hb8) (i:=0) rfl (by simp) rfl (aQ[p]'hp12) (uH p hp12 false).1.rise (by have:=(uH p hp12 false).2.2;show (csX p hp12 false).length≤1000;omega) kp.1 kp.2;have HFO:Hid (dZ o1 (csX p hp12 false) (aQ[p]'hp12)=true):=(by obtain⟨fs,hro,hfl⟩:=hG1.sure;have:=Dl hro hfl (uH p hp12 false).1 (Dx (dB hro) hB1.told p hp12 false) p hp12;rw [List.getElem_set_self] at this;exact this);clear hKd)
    | (go_at_call 25;(with_reducible refine jC hDx ?_);rintro e X9 ⟨y9,us9,rfl,hG9,hor⟩;obtain⟨rfl,rfl⟩:y9=0∧us9=_:=(by rcases hor with⟨h1,h2,h3⟩|⟨h1,h2,h3⟩;exact⟨h2,h3⟩;(rw [HFO.out] at h1;cases h1));clear hor;have HG9:Hid (SkG aQ 400 (Bl.or (fun k=>k<w.heap.size) (Bl.one X0.heap.size)) X1 X9 d b j1 (0+1+1+1) (z+1+1) o1 ao1 [⟨z+1,true,o1,csX p hp12 true,fun _=>False⟩,⟨z+1+1,true,o1,bM [] ⟨aQ[p]'hp12,eY,false⟩,fun _=>False⟩]):=hG9;have hCx:=vS hp12 HG9.out hB1.told HJ.out;clear hDx hG9)
    | (go_at_call 26;(with_reducible refine jC hCx ?_);rintro e XA ⟨rfl,o2,hGA,hTA⟩;have hCy:=(vR hp12 hp12 hGA hTA (by have:=HJ.out;omega)).1 rfl;clear hCx)
    | (go_at_call 26;(with_reducible refine jC hCy ?_);rintro e XB ⟨rfl,hLB⟩;have xB:bI XB X0.heap.size th vs:=hB1.book.on hLB.kept (.inr rfl);have e1:=xB.there p hp12;have e2:=xB.free p;obtain⟨XC,hXC⟩:=nM (XB.setCell ⟨X0.heap.size,p,none⟩ (.bool false));have xC:bI XC X0.heap.size (th.set p false) vs:=hXC▸xB.setThere p hp12 false;have e3:=xC.value p hp12;have e4:=xC.free (12+p);obtain⟨XD,hXD⟩:=nM (XC.setCell ⟨X0.heap.size,12+p,none⟩ (.string dP));have xD:bI XD X0.heap.size (th.set p false) (vs.set p dP):=hXD▸xC.setValue p hp12 dP;have FD:Fr (Bl.one X0.heap.size) XB XD:=(by rw [← hXD,← hXC];exact((Fr.refl (Bl.one X0.heap.size) XB).setCell (p:=⟨X0.heap.size,p,none⟩) (.inl rfl) _).setCell (p:=⟨X0.heap.size,12+p,none⟩) (.inl rfl) _);have e5:=xD.value p hp12;have e6:=xD.free (12+p);obtain⟨XE,hXE⟩:=nM (XD.setCell ⟨X0.heap.size,12+p,none⟩ (.string ⟨#[]⟩));have xE:bI XE X0.heap.size (th.set p false) (vs.set p ⟨#[]⟩):=(by have:=xD.setValue p hp12 ⟨#[]⟩;rw [List.set_set] at this;exact hXE▸this);have FE:Fr (Bl.one X0.heap.size) XB XE:=hXE▸FD.setCell (p:=⟨X0.heap.size,12+p,none⟩) (.inl rfl) _;have hSh:=jD (hLB.touch FE (.inr rfl)) (th.set p false) (vs.set p ⟨#[]⟩) (by have h:=hTA;rw [vsX,if_pos rfl,List.set_set] at h;exact h) (by omega);clear hCy)
    | (refine lV (by rfl) (.tmp 11) rfl X0.heap.size rfl xE ?_)
    | (go_at_call 13;(with_reducible refine jC hSh ?_);rintro e XS ⟨rfl,hSS⟩;clear hSh))
   go_ret
   have OF:On (fun k=>k<w.heap.size) w XS:=(((HO0.out.trans (hO1.mono (fun i hi=>⟨.inl hi,fun e=>by have:=HQ.out;omega⟩))).trans (hLB.kept.mono (fun i hi=>.inl hi))).trans (FE.on (fun i hi=>⟨jY hi (vJ HO0.out.size (vJ hO1.size hLB.kept.size)),fun e=>by simp only [Bl.one] at e;have:=HQ.out;omega⟩))).trans (hSS.kept.mono (fun i hi=>.inl hi))
   exact⟨rfl,OF.os,OF.tape,OF.output,OF.size,OF.block⟩
  ·have HNE:Hid (p≠q):=hpq
   have hKd:=HKp.out X7
   have hpqi:¬ ((p:Int)=(q:Int)):=by omega
   go_wp2_with (first
    | (go_at_call 24;(with_reducible refine jC hKd ?_);rintro e X8 ⟨rfl,hb8⟩;have hDx:=qEh (HG7.out.step hb8) (i:=0) rfl (by simp) rfl (aQ[p]'hp12) (uH p hp12 false).1.rise (by have:=(uH p hp12 false).2.2;show (csX p hp12 false).length≤1000;omega) kp.1 kp.2;have HFO:Hid (dZ o1 (csX p hp12 false) (aQ[p]'hp12)=true):=(by obtain⟨fs,hro,hfl⟩:=hG1.sure;have:=Dl hro hfl (uH p hp12 false).1 (Dx (dB hro) hB1.told p hp12 false) p hp12;rw [List.getElem_set_self] at this;exact this);clear hKd)
    | (go_at_call 25;(with_reducible refine jC hDx ?_);rintro e X9 ⟨y9,us9,rfl,hG9,hor⟩;obtain⟨rfl,rfl⟩:y9=0∧us9=_:=(by rcases hor with⟨h1,h2,h3⟩|⟨h1,h2,h3⟩;exact⟨h2,h3⟩;(rw [HFO.out] at h1;cases h1));clear hor;have HG9:Hid (SkG aQ 400 (Bl.or (fun k=>k<w.heap.size) (Bl.one X0.heap.size)) X1 X9 d b j1 (0+1+1+1) (z+1+1) o1 ao1 [⟨z+1,true,o1,csX p hp12 true,fun _=>False⟩,⟨z+1+1,true,o1,bM [] ⟨aQ[q]'hq12,eY,false⟩,fun _=>False⟩]):=hG9;have hCx:=vS hp12 HG9.out hB1.told HJ.out;clear hDx hG9)
    | (go_at_call 26;(with_reducible refine jC hCx ?_);rintro e XA ⟨rfl,o2,hGA,hTA⟩;have hCy:=(vR hp12 hq12 hGA hTA (by have:=HJ.out;omega)).2 HNE.out;clear hCx)
    | (go_at_call 26;(with_reducible refine jC hCy ?_);rintro e XB ⟨rfl,o3,hLB,hTB⟩;have xB:bI XB X0.heap.size th vs:=hB1.book.on hLB.kept (.inr rfl);have e1:=xB.there p hp12;have e2:=xB.free p;obtain⟨XC,hXC⟩:=nM (XB.setCell ⟨X0.heap.size,p,none⟩ (.bool false));have xC:bI XC X0.heap.size (th.set p false) vs:=hXC▸xB.setThere p hp12 false;have e3:=xC.value p hp12;have e4:=xC.free (12+p);obtain⟨XD,hXD⟩:=nM (XC.setCell ⟨X0.heap.size,12+p,none⟩ (.string dP));have xD:bI XD X0.heap.size (th.set p false) (vs.set p dP):=hXD▸xC.setValue p hp12 dP;have FD:Fr (Bl.one X0.heap.size) XB XD:=(by rw [← hXD,← hXC];exact((Fr.refl (Bl.one X0.heap.size) XB).setCell (p:=⟨X0.heap.size,p,none⟩) (.inl rfl) _).setCell (p:=⟨X0.heap.size,12+p,none⟩) (.inl rfl) _);have e5:=xD.value p hp12;have e6:=xD.free (12+p);obtain⟨XE,hXE⟩:=nM (XD.setCell ⟨X0.heap.size,12+p,none⟩ (.string ⟨#[]⟩));have xE:bI XE X0.heap.size (th.set p false) (vs.set p ⟨#[]⟩):=(by have:=xD.setValue p hp12 ⟨#[]⟩;rw [List.set_set] at this;exact hXE▸this);have FE:Fr (Bl.one X0.heap.size) XB XE:=hXE▸FD.setCell (p:=⟨X0.heap.size,12+p,none⟩) (.inl rfl) _;have e7:=xE.there q hq12;have e8:=xE.free q;obtain⟨XG,hXG⟩:=nM (XE.setCell ⟨X0.heap.size,q,none⟩ (.bool true));have xG:bI XG X0.heap.size ((th.set p false).set q true) (vs.set p ⟨#[]⟩):=hXG▸xE.setThere q hq12 true;have e9:=xG.value q hq12;have eA:=xG.free (12+q);obtain⟨XH,hXH⟩:=nM (XG.setCell ⟨X0.heap.size,12+q,none⟩ (.string eY));have xH:bI XH X0.heap.size ((th.set p false).set q true) ((vs.set p ⟨#[]⟩).set q eY):=hXH▸xG.setValue q hq12 eY;have FH:Fr (Bl.one X0.heap.size) XB XH:=(by rw [← hXH,← hXG];exact(FE.setCell (p:=⟨X0.heap.size,q,none⟩) (.inl rfl) _).setCell (p:=⟨X0.heap.size,12+q,none⟩) (.inl rfl) _);have hSh:=jD (hLB.touch FH (.inr rfl)) ((th.set p false).set q true) ((vs.set p ⟨#[]⟩).set q eY) (by have h:=hTB;rw [vsX,if_pos rfl,List.set_set] at h;exact h) (by omega);clear hCy)
    | (refine lV (by rfl) (.tmp 11) rfl X0.heap.size rfl xH ?_)
    | (go_at_call 13;(with_reducible refine jC hSh ?_);rintro e XS ⟨rfl,hSS⟩;clear hSh))
   go_ret
   have OF:On (fun k=>k<w.heap.size) w XS:=(((HO0.out.trans (hO1.mono (fun i hi=>⟨.inl hi,fun e=>by have:=HQ.out;omega⟩))).trans (hLB.kept.mono (fun i hi=>.inl hi))).trans (FH.on (fun i hi=>⟨jY hi (vJ HO0.out.size (vJ hO1.size hLB.kept.size)),fun e=>by simp only [Bl.one] at e;have:=HQ.out;omega⟩))).trans (hSS.kept.mono (fun i hi=>.inl hi))
   exact⟨rfl,OF.os,OF.tape,OF.output,OF.size,OF.block⟩
 ·obtain rfl:gone=false:=by assumption
  by_cases hpq:p=q
  ·subst hpq
   have hCx:=vS hp12 HG7.out hB1.told HJ.out
   go_wp2_with (first
    | (go_at_call 26;(with_reducible refine jC hCx ?_);rintro e XA ⟨rfl,o2,hGA,hTA⟩;have hCy:=(vR hp12 hp12 hGA hTA (by have:=HJ.out;omega)).1 rfl;clear hCx)
    | (go_at_call 26;(with_reducible refine jC hCy ?_);rintro e XB ⟨rfl,hLB⟩;have xB:bI XB X0.heap.size th vs:=hB1.book.on hLB.kept (.inr rfl);have e1:=xB.there p hp12;have e2:=xB.free p;obtain⟨XC,hXC⟩:=nM (XB.setCell ⟨X0.heap.size,p,none⟩ (.bool true));have xC:bI XC X0.heap.size (th.set p true) vs:=hXC▸xB.setThere p hp12 true;have e3:=xC.value p hp12;have e4:=xC.free (12+p);obtain⟨XD,hXD⟩:=nM (XC.setCell ⟨X0.heap.size,12+p,none⟩ (.string dP));have xD:bI XD X0.heap.size (th.set p true) (vs.set p dP):=hXD▸xC.setValue p hp12 dP;have FD:Fr (Bl.one X0.heap.size) XB XD:=(by rw [← hXD,← hXC];exact((Fr.refl (Bl.one X0.heap.size) XB).setCell (p:=⟨X0.heap.size,p,none⟩) (.inl rfl) _).setCell (p:=⟨X0.heap.size,12+p,none⟩) (.inl rfl) _);have hSh:=jD (hLB.touch FD (.inr rfl)) (th.set p true) (vs.set p dP) hTA (by omega);clear hCy)
    | (refine lV (by rfl) (.tmp 11) rfl X0.heap.size rfl xD ?_)
    | (go_at_call 13;(with_reducible refine jC hSh ?_);rintro e XS ⟨rfl,hSS⟩;clear hSh))
   go_ret
   have OF:On (fun k=>k<w.heap.size) w XS:=(((HO0.out.trans (hO1.mono (fun i hi=>⟨.inl hi,fun e=>by have:=HQ.out;omega⟩))).trans (hLB.kept.mono (fun i hi=>.inl hi))).trans (FD.on (fun i hi=>⟨jY hi (vJ HO0.out.size (vJ hO1.size hLB.kept.size)),fun e=>by simp only [Bl.one] at e;have:=HQ.out;omega⟩))).trans (hSS.kept.mono (fun i hi=>.inl hi))
   exact⟨rfl,OF.os,OF.tape,OF.output,OF.size,OF.block⟩
  ·have HNE:Hid (p≠q):=hpq
   have hCx:=vS hp12 HG7.out hB1.told HJ.out
   have hpqi:¬ ((p:Int)=(q:Int)):=by omega
   go_wp2_with (first
    | (go_at_call 26;(with_reducible refine jC hCx ?_);rintro e XA ⟨rfl,o2,hGA,hTA⟩;have hCy:=(vR hp12 hq12 hGA hTA (by have:=HJ.out;omega)).2 HNE.out;clear hCx)
    | (go_at_call 26;(with_reducible refine jC hCy ?_);rintro e XB ⟨rfl,o3,hLB,hTB⟩;have xB:bI XB X0.heap.size th vs:=hB1.book.on hLB.kept (.inr rfl);have e1:=xB.there p hp12;have e2:=xB.free p;obtain⟨XC,hXC⟩:=nM (XB.setCell ⟨X0.heap.size,p,none⟩ (.bool true));have xC:bI XC X0.heap.size (th.set p true) vs:=hXC▸xB.setThere p hp12 true;have e3:=xC.value p hp12;have e4:=xC.free (12+p);obtain⟨XD,hXD⟩:=nM (XC.setCell ⟨X0.heap.size,12+p,none⟩ (.string dP));have xD:bI XD X0.heap.size (th.set p true) (vs.set p dP):=hXD▸xC.setValue p hp12 dP;have FD:Fr (Bl.one X0.heap.size) XB XD:=(by rw [← hXD,← hXC];exact((Fr.refl (Bl.one X0.heap.size) XB).setCell (p:=⟨X0.heap.size,p,none⟩) (.inl rfl) _).setCell (p:=⟨X0.heap.size,12+p,none⟩) (.inl rfl) _);have e7:=xD.there q hq12;have e8:=xD.free q;obtain⟨XG,hXG⟩:=nM (XD.setCell ⟨X0.heap.size,q,none⟩ (.bool true));have xG:bI XG X0.heap.size ((th.set p true).set q true) (vs.set p dP):=hXG▸xD.setThere q hq12 true;have e9:=xG.value q hq12;have eA:=xG.free (12+q);obtain⟨XH,hXH⟩:=nM (XG.setCell ⟨X0.heap.size,12+q,none⟩ (.string eY));have xH:bI XH X0.heap.size ((th.set p true).set q true) ((vs.set p dP).set q eY):=hXH▸xG.setValue q hq12 eY;have FH:Fr (Bl.one X0.heap.size) XB XH:=(by rw [← hXH,← hXG];exact(FD.setCell (p:=⟨X0.heap.size,q,none⟩) (.inl rfl) _).setCell (p:=⟨X0.heap.size,12+q,none⟩) (.inl rfl) _);have hSh:=jD (hLB.touch FH (.inr rfl)) ((th.set p true).set q true) ((vs.set p dP).set q eY) hTB (by omega);clear hCy)
    | (refine lV (by rfl) (.tmp 11) rfl X0.heap.size rfl xH ?_)
    | (go_at_call 13;(with_reducible refine jC hSh ?_);rintro e XS ⟨rfl,hSS⟩;clear hSh))
   go_ret
   have OF:On (fun k=>k<w.heap.size) w XS:=(((HO0.out.trans (hO1.mono (fun i hi=>⟨.inl hi,fun e=>by have:=HQ.out;omega⟩))).trans (hLB.kept.mono (fun i hi=>.inl hi))).trans (FH.on (fun i hi=>⟨jY hi (vJ HO0.out.size (vJ hO1.size hLB.kept.size)),fun e=>by simp only [Bl.one] at e;have:=HQ.out;omega⟩))).trans (hSS.kept.mono (fun i hi=>.inl hi))
   exact⟨rfl,OF.os,OF.tape,OF.output,OF.size,OF.block⟩
