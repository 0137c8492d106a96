import Derived.Test.YtdhgdcjmhofhaaaGreatD1
import Derived.Laws.BitsAllLaws
set_option linter.all false
namespace Go.Proofs.YtdhgdcjmhofhaaaGreat.Crc
variable {a b c r:Nat}
def sh(r:Nat):Nat:=if r % 2=1 then (r / 2) ^^^ 3988292384 else r / 2
def shN:Nat->Nat->Nat
 |0,r=>r
 |n+1,r=>sh (shN n r)
def kG(r:Nat)(b:UInt8):Nat:=shN 8 (r ^^^ b.toNat)
def vC(l:List UInt8):Nat:=l.foldl kG 4294967295
def crc(l:List UInt8):Nat:=4294967295-vC l
theorem oJ (c:a<4294967296)(d:b<4294967296):a ^^^ b<4294967296 :=
 GH (n:=32) c d
theorem tD(b:UInt8):b.toNat<4294967296:=by have:=b.toNat_lt;omega
theorem qRh (h:r<4294967296):sh r<4294967296:=by
 unfold sh;split
 .exact oJ ω ω
 .omega
theorem qL(n){r:Nat}(h:r<4294967296):shN n r<4294967296:=by
 induction n with
 |zero=>exact h
 |succ n ih=>exact qRh ih
theorem tT (b)(h:r<4294967296):kG r b<4294967296 :=
 qL 8 (oJ h (tD b))
theorem Ih (l:List UInt8)(h:r<4294967296):l.foldl kG r<4294967296:=by
 induction l generalizing r with
 |nil=>exact h
 |cons b l ih=>exact ih (tT b h)
theorem mT(l):vC l<4294967296:=Ih l ω
theorem Bz(l):crc l<4294967296:=by unfold crc;omega
theorem qHa(l b):vC (l++[b])=kG (vC l) b:=by simp[vC,EX]
theorem qDo(s:ByteArray)(k)(h:k<s.size):s.data.toList.take (k+1)=s.data.toList.take k++[s[k]]:=by
 rw[AJ (by simp_all)];rfl
theorem qGz(s:ByteArray)(k)(h:k<s.size):vC (s.data.toList.take (k+1))=kG (vC (s.data.toList.take k)) s[k]:=by
 rw[qDo s k h,qHa]
theorem qRv{R}(h:R<4294967296):4294967295 ^^^ R=4294967295-R:=by
 have a:=BR BitVec.toNat (BitVec.allOnes_xor (x:=BitVec.ofNat 32 R));grind
theorem oL (h : a ^^^ c = b ^^^ c): a = b := by
  have := BR (λn => n ^^^ c) h;simpa[EP, FV] using this
theorem qIb(a : Nat)(h : a < 4294967296): (a / 2).testBit 31 = false := Nat.testBit_lt_two_pow ω
theorem qQi (f : a < 4294967296)(g : b < 4294967296)(h : sh a = sh b): a = b := by
  have c := qIb a f;have d := qIb b g;have e : (3988292384 : Nat).testBit 31 = true := by decide
  unfold sh at h;split at h <;> split at h
  . have i  := oL h
    omega
  . have := BR (λn => n.testBit 31) h
    simp[GK, c, d, e]at this
  . have := BR (λn => n.testBit 31) h
    simp[GK, c, d, e]at this
  . omega
theorem Oa (n : Nat)(c : a < 4294967296)(d : b < 4294967296)(h : shN n a = shN n b): a = b := by
  induction n with
  |zero => exact h
  |succ n ih => exact ih (qQi (qL n c) (qL n d) h)
theorem qDt (c : UInt8)(d : a < 4294967296)(e : b < 4294967296)(h : kG a c = kG b c): a = b :=
  oL (Oa 8 (oJ d (tD c)) (oJ e (tD c)) h)
theorem Xk (c d : UInt8)(b : a < 4294967296)(h : kG a c = kG a d): c = d := by
  have e := Oa 8 (oJ b (tD c)) (oJ b (tD d)) h;exact FO.1 (oL (c := a) (by rw[LD _ a, LD _ a]; exact e))
theorem Ms (l : List UInt8)(d : a < 4294967296)(e : b < 4294967296)(h : l.foldl kG a = l.foldl kG b): a = b := by
  induction l generalizing a b with
  |nil => exact h
  |cons c l ih => exact qDt c d e (ih (tT c d) (tT c e) h)
theorem qAk(l a : List UInt8)(c d : UInt8)(h : crc (l ++ c :: a) = crc (l ++ d :: a)): c = d := by
  have f := mT (l ++ c :: a);have g := mT (l ++ d :: a);have b : vC (l ++ c :: a) = vC (l ++ d :: a):= by unfold crc at h; omega
  simp only[vC, EX, JU]at b;have e := Ms a (tT c (mT l)) (tT d (mT l)) b;exact Xk c d (mT l) e
theorem Ud(a b : Nat): (a ^^^ b) / 2 = a / 2 ^^^ b / 2 := by
  apply LR; intro i;simp[Nat.testBit_div_two, GK]
theorem qQf(a b : Nat): sh (a ^^^ b) = sh a ^^^ sh b := by
  have h := by have := GK a b 0; simpa only[Nat.testBit_zero] using this
  unfold sh; rw[Ud]
  by_cases x : a % 2 = 1 <;> by_cases y : b % 2 = 1 <;> simp only[x, y, decide_true, decide_false, Bool.xor_true, Bool.xor_false, Bool.not_true, Bool.not_false, EW, BO]at h <;> simp only[h, x, y, LU, KA]
  . rw[EP, LD 3988292384, EP, FV, ML]
  . rw[EP, EP, LD 3988292384]
  . rw[EP]
theorem qBs(n a b : Nat): shN n (a ^^^ b) = shN n a ^^^ shN n b := by
  induction n with
  |zero => rfl
  |succ n ih => show sh _ = sh _ ^^^ sh _; rw[ih, qQf]
def g(r n : Nat): Nat := shN 8 (r ^^^ n)
def dif: List UInt8 -> List UInt8 -> List Nat
  |a :: l, b :: m => (a.toNat ^^^ b.toNat):: dif l m
  |_, _ => []
theorem Uh: ∀(l m : List UInt8) (c s : Nat), l.length = m -> (dif l m).foldl g (c ^^^ s) = l.foldl kG c ^^^ m.foldl kG s
  |[], [], _, _, _ => rfl
  |a :: l, b :: m, c, s, h => by
    show(dif l m).foldl g (g (c ^^^ s) (a.toNat ^^^ b.toNat)) = _;rw[show g (c ^^^ s) (a.toNat ^^^ b.toNat) = kG c a ^^^ kG s b by
      unfold g kG; rw[<-qBs]; congr 1; simp only[EP]; congr 1; rw[<-EP, LD s, EP]]
    exact Uh l m _ _ (by simpa using h)
theorem qLs {l m : List UInt8}(h : l.length = m)(e : l.foldl kG a = m.foldl kG a): (dif l m).foldl g 0 = 0 := by
  have := Uh l m a a h; rw[FV, e, FV]at this; exact this
theorem qQg(x : Nat): sh (2 * x) = x := by unfold sh; rw[AQ ω]; omega
theorem qQh(x : Nat): shN 8 (256 * x) = x := by
  have : ∀n a, shN (n + 1) (2 * a) = shN n a := by
    intro n; induction n with
    |zero => exact qQg
    |succ n ih => intro a; show sh _ = sh _; rw[ih]
  rw[show 256 * x = 2 * (2 * (2 * (2 * (2 * (2 * (2 * (2 * x))))))) by omega];simp only[this]; rfl
theorem qCu{b x : Nat}(h : b < 256): g (b + 256 * x) b = x := by
  unfold g;have : (b + 256 * x) ^^^ b = 256 * x := by
    have a : b + 256 * x = 256 * x ^^^ b := by
      apply LR; intro i;rw[Nat.add_comm, show 256 = 2 ^ 8 from rfl, Nat.testBit_two_pow_mul_add _ ω, GK, Nat.testBit_two_pow_mul];by_cases hi : i < 8
      . simp[hi, Nat.not_le.2 hi]
      . have c : b.testBit i = false := Nat.testBit_lt_two_pow (GZ h (by rw[show 256 = 2 ^ 8 from rfl]; exact Nat.pow_le_pow_right δ ω))
        simp[hi, Nat.le_of_not_lt hi, c]
    rw[a, EP, FV, ML]
  rw[this, qQh]
theorem qCv (e : a < 4294967296)(f : b < 4294967296)(d : c < 4294967296)(h : g a c = g b c): a = b :=
  oL (Oa 8 (oJ e d) (oJ f d) h)
theorem qSn (b : a < 4294967296)(d : c < 4294967296): g a c < 4294967296 := qL 8 (oJ b d)
theorem four{k a b c d : Nat}(hr : k < 4294967296)(e : a < 256)(f : b < 256)(j : c < 256)(o : d < 256)(h : g (g (g (g k a) b) c) d = 0): k = a + 256 * (b + 256 * (c + 256 * d)):= by
  have n : g (g (g (g (a + 256 * (b + 256 * (c + 256 * d))) a) b) c) d = 0 := by
    rw[qCu e, qCu f, qCu j]; exact qCu (x := 0) o
  have l : ∀{x m}, x < 4294967296 -> m < 256 -> g x m < 4294967296 := λhx p => qSn hx ω;have i : a + 256 * (b + 256 * (c + 256 * d)) < 4294967296 := by omega
  refine qCv hr i (c := a) ω ?_;refine qCv (l hr e) (l i e) (c := b) ω ?_;refine qCv (l (l hr e) f) (l (l i e) f) (c := c) ω ?_;exact qCv (l (l (l hr e) f) j) (l (l (l i e) f) j) (c := d) ω (h.trans n.symm)
theorem Ib(a : Nat): g a 0 = shN 8 a := by unfold g; rw[ML]
theorem tU: ∀n, shN n 0 = 0
  |0 => rfl
  |n + 1 => by show sh _ = 0; rw[tU n]; rfl
def pat(p q : Nat): Bool := (q == 255 && [0, 1, 3, 7, 15, 31, 63, 127, 255].contains p) || (p == 0 && [0, 1, 3, 7, 15, 31, 63, 127].contains q)
def chk(r : Nat): Bool := pat (r % 256) (r / 256 % 256) && decide (r / 65536 % 256 < 16)
def qSa(k : Nat): Bool := (List.range 256).all λt => (if k = 6 then [0] else [0, 1996959894, 2567524794, 2657392035, 2428444049]).all λT => (!chk (shN (8 * (7 - k)) t ^^^ T)) || (t == 0 && T == 0)
theorem qMi: ∀k, k < 7 -> qSa k = true := by decide +kernel
theorem qNl(a b c : Nat): shN (a + b) c = shN a (shN b c):= by
  induction a with
  |zero => rw[EA]; rfl
  |succ a ih => rw[Nat.succ_add]; show sh _ = sh _; rw[ih]
theorem Ff : ∀ n v, v < 2 ^ n → ∃ j, j ≤ n ∧ v ^^^ (v + 1) = 2 ^ (j + 1) - 1
  | 0, v, h => ⟨0,CB _,by
   obtain rfl:v=0:=by simpa using h
   rfl⟩
  | n + 1, v, h => by
    have hh := Ud v (v + 1); have hp := GK v (v + 1) 0; simp only [Nat.testBit_zero] at hp;have hm : (v ^^^ (v + 1)) % 2 = 1 := by
      rcases EG v with e | e
      . have : (v + 1) % 2 = 1 := by omega
        rw [e, this] at hp; simpa using hp
      . have : (v + 1) % 2 = 0 := by omega
        rw [e, this] at hp; simpa using hp
    rcases EG v with e | e
    . rw [show (v + 1) / 2 = v / 2 by omega, FV] at hh; exact ⟨0, by omega, by show _ = 1; omega⟩
    . obtain ⟨j, hj, e2⟩ := Ff n (v / 2) (by rw [Nat.pow_succ] at h; omega)
      rw [show (v + 1) / 2 = v / 2 + 1 by omega, e2] at hh;have : 0 < 2 ^ (j + 1) := Nat.pow_pos δ;exact ⟨j + 1, by omega, by rw [Nat.pow_succ]; omega⟩
theorem qSl: ∀j, j < 21 -> pat ((2 ^ j - 1) / 256 % 256) ((2 ^ j - 1) % 256) = true /\ ([(0, 0), (1, 1996959894), (3, 2567524794), (7, 2657392035), (15, 2428444049)].contains ((2 ^ j - 1) / 65536, shN 8 ((2 ^ j - 1) / 65536))) = true /\ ((2 ^ j - 1) % 65536 = 0 -> 2 ^ j - 1 = 0) /\ ((2 ^ j - 1) / 65536 ≠ 0 -> (2 ^ j - 1) / 256 % 256 = 255 /\ (2 ^ j - 1) % 256 = 255):= by decide +kernel
theorem qMk{k t T : Nat}(b : k < 7)(ht : t < 256)(a : T ∈ (if k = 6 then [0] else [0, 1996959894, 2567524794, 2657392035, 2428444049]))(h : chk (shN (8 * (7 - k)) t ^^^ T) = true): t = 0 /\ T = 0 := by
  have := qMi k b; unfold qSa at this;have := JM.1 (JM.1 this t (JG.2 ht)) T a;rw[h]at this; simpa using this
theorem qMj{f a b c d : Nat}(e : f = a + 256 * (b + 256 * (c + 256 * d)))(i : a < 256)(j : b < 256)(g : c < 16)(h : pat a b = true): chk f = true := by
  unfold chk; rw[show f % 256 = a by omega, show f / 256 % 256 = b by omega, show f / 65536 % 256 = c by omega, h]; simp[g]
theorem mix{k j x y t : Nat}(J : k < 11)(I : j < 21)(hx : x = 2 ^ j - 1)(M : y < 4096)(ht : t < 256)(h : ([0, 0, 0, 0, 0, 0, x / 65536, x / 256 % 256, x % 256, y / 256, y % 256].set k t).foldl g 0 = 0): [0, 0, 0, 0, 0, 0, x / 65536, x / 256 % 256, x % 256, y / 256, y % 256].set k t = List.replicate 11 0 := by
  obtain⟨v, o, w, A⟩:= qSl j I; rw[<-hx]at v o w A;have o := List.contains_iff_mem.1 o; simp only[AS, KL, FG, KO]at o;have z : x / 65536 < 256 := by omega
  have l : ∀i, g 0 i = shN 8 i := λi => by unfold g; rw[Nat.zero_xor]
  have r : ∀m i, g m i = shN 8 m ^^^ shN 8 i := λm i => by unfold g; rw[qBs]
  have lt : ∀n i, i < 256 -> shN n i < 4294967296 := λn i N => qL n ω;have u : ∀n i, shN 8 (shN n i) = shN (n + 8) i := λn i => by rw[Nat.add_comm, qNl]
  have D : shN 8 (x / 65536) ∈ [0, 1996959894, 2567524794, 2657392035, 2428444049]:= by rcases o with e | e | e | e | e <;> simp[e.2]
  have K : shN 8 (x / 65536) = 0 -> x / 65536 = 0 := λe => by rcases o with q | q | q | q | q <;> rw[q.2]at e <;> first | exact q.1 | cases e;-- a byte of the first six is turned
  have p : ∀k, k < 6 -> ∀m, m = shN (8 * (7 - k)) t ^^^ shN 8 (x / 65536) -> g (g (g (g m (x / 256 % 256)) (x % 256)) (y / 256)) (y % 256) = 0 -> t = 0 /\ x = 0 /\ y = 0 := λk J m e h => by
    have f := four (by rw[e]; exact oJ (lt _ _ ht) (lt _ _ z)) ω ω ω ω h;have c := qMj f ω ω ω v; rw[e]at c;obtain⟨s, C⟩:= qMk ω ht (by rw[AQ ω]; exact D) c;rw[s, tU, C, FV]at e;have := w ω;exact⟨s, by omega, by omega⟩
  have B : ∀a b c d m, a < 256 -> b < 256 -> c < 256 -> d < 256 -> m = shN 8 (x / 65536) -> g (g (g (g m a) b) c) d = 0 -> (a = x / 256 % 256 \/ b = x % 256) -> x / 65536 = 0 /\ a = 0 /\ b = 0 /\ c = 0 /\ d = 0 := λa b c d m E F G H e h L => by
    have f := four (by rw[e]; exact lt _ _ z) E F G H h;by_cases i : x / 65536 = 0
    . rw[i, tU]at e; exact⟨i, by omega, by omega, by omega, by omega⟩
    . obtain⟨s, C⟩:= A i
      rcases o with q | q | q | q | q
      . exact absurd q.1 i
      all_goals (rw[q.2]at e; omega)
  obtain rfl | rfl | rfl | rfl | rfl | rfl | rfl | rfl | rfl | rfl | rfl : k = 0 \/ k = 1 \/ k = 2 \/ k = 3 \/ k = 4 \/ k = 5 \/ k = 6 \/ k = 7 \/ k = 8 \/ k = 9 \/ k = 10 := by omega
  all_goals simp only[List.set_cons_zero, List.set_cons_succ, JU, List.foldl_nil]at h⊢
  all_goals try simp only[show g 0 0 = 0 from by rw[l, tU]]at h
  . obtain⟨rfl, rfl, rfl⟩:= p 0 δ _ (by rw[r _ (x / 65536), l]; simp only[Ib, u]) h; rfl
  . obtain⟨rfl, rfl, rfl⟩:= p 1 δ _ (by rw[r _ (x / 65536), l]; simp only[Ib, u]) h; rfl
  . obtain⟨rfl, rfl, rfl⟩:= p 2 δ _ (by rw[r _ (x / 65536), l]; simp only[Ib, u]) h; rfl
  . obtain⟨rfl, rfl, rfl⟩:= p 3 δ _ (by rw[r _ (x / 65536), l]; simp only[Ib, u]) h; rfl
  . obtain⟨rfl, rfl, rfl⟩:= p 4 δ _ (by rw[r _ (x / 65536), l]; simp only[Ib, u]) h; rfl
  . obtain⟨rfl, rfl, rfl⟩:= p 5 δ _ (by rw[r _ (x / 65536), l]; simp only[u]) h; rfl
  . have f := four (by rw[l]; exact lt _ _ ht) ω ω ω ω h
    have c := qMj f ω ω ω v; rw[l]at c f;obtain⟨s, _⟩:= qMk (k := 6) (T := 0) δ ht σ (by rw[ML]; exact c);rw[s, tU]at f; have := w ω; rw[s, show x / 256 % 256 = 0 by omega, show x % 256 = 0 by omega, show y / 256 = 0 by omega, show y % 256 = 0 by omega]; rfl
  . obtain⟨a, b, c, d, e⟩:= B _ _ _ _ _ ht ω ω ω (l _) h (.inr rfl); rw[a, b, c, d, e]; rfl
  . obtain⟨a, b, c, d, e⟩:= B _ _ _ _ _ ω ht ω ω (l _) h (.inl rfl); rw[a, b, c, d, e]; rfl
  . obtain⟨a, b, c, d, e⟩:= B _ _ _ _ _ ω ω ht ω (l _) h (.inl rfl); rw[a, b, c, d, e]; rfl
  . obtain⟨a, b, c, d, e⟩:= B _ _ _ _ _ ω ω ω ht (l _) h (.inl rfl); rw[a, b, c, d, e]; rfl
