/-
  Joined: Fore.
-/
import Derived.Test.YtfnhmpcpeahfkaaGreatU50
set_option linter.unusedSimpArgs false
set_option linter.unusedVariables false
set_option maxRecDepth 100000
set_option maxHeartbeats 8000000
namespace Go.Proofs.YtfnhmpcpeahfkaaGreat.Tree
open Go.RowKit Pages
def bU:List ByteArray:=[⟨#[0]⟩,⟨#[97]⟩,⟨#[97,97]⟩,⟨#[97,98]⟩,⟨#[98]⟩,⟨#[107,107,107,107,107,107,107,107,107,107,107,107,107,107,107,107,107,107,107,107,107,107,107,97]⟩,⟨#[107,107,107,107,107,107,107,107,107,107,107,107,107,107,107,107,107,107,107,107,107,107,107,98]⟩,⟨#[107,107,107,107,107,107,107,107,107,107,107,107,107,107,107,107,107,107,107,107,107,107,107,99]⟩,⟨#[109]⟩,⟨#[110]⟩,⟨#[122]⟩,⟨#[255]⟩]
theorem qM:∀ k∈bU,1≤k.size∧k.size≤24:=by decide
theorem vAm:∀ k∈bU,lt ⟨#[]⟩ k=true:=by decide +kernel
theorem kOk {n:Nat} (h1:120≤n) (h2:n≤4096):KOk bU n:=⟨fun k hk=>(qM k hk).2,by decide,by omega,h2,by show 3 * (1+3 * 12)+2≤n;omega⟩
theorem qHc (k:Nat) (hk:k<12) (w:World) :
  Calls Tryz.prog 24 #[.int .i64 (k:Nat)] w fun e w'=>e=.returned (.string (bU[k]'hk))∧Below w.heap.size w w':=by
 obtain⟨kk,hkk⟩:=nM (bU[k]'hk)
 have hx:=aB w (.cells (bU.map Value.string).toArray 9)
 have hc:(w.alloc (.cells (bU.map Value.string).toArray 9)).cell? ⟨w.heap.size,k,none⟩=some (.string kk):=by
  have hq:bU[k]?=some kk:=List.getElem?_eq_some_iff.2 ⟨hk,hkk⟩
  unfold World.cell?
  dsimp only
  rw [hx]
  simp [hq]
 have HB:Hid (Below w.heap.size w (w.alloc (.cells (bU.map Value.string).toArray 9))):=(Below.refl _ _).alloc (Nat.le_refl _) _
 have hki:(k:Int)<12:=by omega
 rw [hkk]
 clear hx hkk
 simp only [bU,List.map_cons,List.map_nil] at hc HB
 go_enter Tryz.func24,Tryz.ntmps24
 go_wp2
 go_ret
 exact⟨rfl,HB.out⟩
theorem qN (k:Nat) (hk:k<12):bU[k]'hk∈bU:=List.getElem_mem _
theorem qIz (k:Nat) (hk:k<12) (v:ByteArray) (hv:v.size≤400) (g:Bool):(⟨bU[k]'hk,v,g⟩:Ch).good:=⟨vAm _ (qN k hk),(qM _ (qN k hk)).2,hv⟩
def kC (c n:Int):Int:=if c<0 then (-(c+1)) % n else c % n
theorem eC (c n:Int) (hn:0<n):0≤kC c n∧kC c n<n:=by
 unfold kC
 split
 ·exact⟨Int.emod_nonneg _ (by omega),Int.emod_lt_of_pos _ hn⟩
 ·exact⟨Int.emod_nonneg _ (by omega),Int.emod_lt_of_pos _ hn⟩
theorem nS (c n:Int) (w:World) (h0 : -9223372036854775808≤c) (h1:c≤9223372036854775807) (hn:0<n) :
  Calls Tryz.prog 22 #[.int .i64 c,.int .i64 n] w fun e w'=>e=.returned (.int .i64 (kC c n))∧w'=w:=by
 have hn0:n≠0:=by omega
 by_cases hc:c<0
 ·go_enter Tryz.func22,Tryz.ntmps22
  go_wp2
  go_ret
  have e : -((c+1).tmod n)=(-(c+1)) % n:=by rw [← Int.neg_tmod,Int.tmod_eq_emod_of_nonneg (by omega)]
  exact⟨by rw [e,kC,if_pos hc];rfl,rfl⟩
 ·go_enter Tryz.func22,Tryz.ntmps22
  go_wp2
  go_ret
  exact⟨by rw [kC,if_neg (by omega)];rfl,rfl⟩
end Go.Proofs.YtfnhmpcpeahfkaaGreat.Tree
