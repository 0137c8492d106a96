import Derived.Test.YtpifffkkgnbfpaaGreatP10
import Derived.Test.YtpifffkkgnbfpaaGreatP11
import Derived.Test.YtpifffkkgnbfpaaGreatP3
set_option linter.unusedSimpArgs false
set_option linter.unusedVariables false
namespace Go.Proofs.YtpifffkkgnbfpaaGreat.Tree
open Go.RowKit Pages
variable {S:Bl} {a:Option Addr} {w:World}
def aH (w:World) (S:Bl) (a:Option Addr) (vs:List Value):Prop :=
 vs=[]∨∃ b off,a=some ⟨b,off,none⟩∧S b∧∀ i u,vs[i]?=some u→w.cell? ⟨b,off+i,none⟩=some u
theorem aH.on {w w':World}   {vs:List Value} (h:aH w S a vs) (ho:On S w w'):aH w' S a vs:=by
 rcases h with h|⟨b,off,ha,hs,hc⟩
 ·exact .inl h
 ·exact .inr ⟨b,off,ha,hs,fun i u hu=>(ho.cell _ hs).trans (hc i u hu)⟩
theorem aH.mono {S S':Bl}  {vs:List Value} (h:aH w S a vs) (hs:∀ k,S k→S' k):aH w S' a vs:=by
 rcases h with h|⟨b,off,ha,hb,hc⟩
 ·exact .inl h
 ·exact .inr ⟨b,off,ha,hs b hb,hc⟩
theorem aH.at {α:Type} {f:α→Value}    {l:List α} {j:Nat} (h:aH w S a (l.map f)) (hj:j<l.length):∃ b off,a=some ⟨b,off,none⟩∧S b∧w.cell? ⟨b,off+j,none⟩=some (f l[j]):=by
 rcases h with h|⟨b,off,ha,hb,hc⟩
 ·simp at h;subst h;simp at hj
 ·exact⟨b,off,ha,hb,hc j _ (by simp [jQ hj])⟩
def Yk (w:World) (S:Bl) (g:Pg) (v:Value):Prop :=
 ∃ ka ia ea kc ic ec,v=.agg #[.int .i64 g.kind,.int .i64 g.ver,.int .i64 g.root,.int .i64 g.next,.slice ka g.keys.length kc,.slice ia g.kids.length ic,.slice ea g.ents.length ec,.string g.data] ∧
  aH w S ka (g.keys.map .string)∧aH w S ia (g.kids.map (.int .i64))∧aH w S ea (g.ents.flatMap Ent.cells)∧g.keys.length≤kc∧g.kids.length≤ic∧g.ents.length≤ec
def spV (s:Sp):Value:=.agg #[.string s.lo,.string s.hi]
