import Derived.Test.YtdhgdcjmhofhaaaGreatD12
import Derived.Test.YtdhgdcjmhofhaaaGreatD13
import Derived.Test.YtdhgdcjmhofhaaaGreatD5
set_option linter.all false
namespace Go.Proofs.YtdhgdcjmhofhaaaGreat.Tree
open Go.RowKit Pages Tryz
variable {S:Bl} {a:Option Addr} {w:World}
def aH(w:World)(S:Bl)(a:Option Addr)(vs:List Value):Prop :=
 vs=[]\/∃b off,a=some (aD b off)/\S b/\∀i u,vs[i]?=some u->w.cell? (aD b (off+i))=some u
theorem aH.on {w w' d}(h:aH w S a d)(g:On S w w'):aH w' S a d:=by
 rcases h with h|⟨b,k,e,c,f⟩
 .exact .inl h
 .exact .inr ⟨b,k,e,c,λj l i=>(g.cell _ c).t (f j l i)⟩
theorem aH.m {S S':Bl}{c:List Value}(h:aH w S a c)(g:∀k,S k->S' k):aH w S' a c:=by
 rcases h with h|⟨b,i,d,e,f⟩
 .exact .inl h
 .exact .inr ⟨b,i,d,g b e,f⟩
theorem aH.at {e:Type}{f:e->Value}{l:List e}{j:Nat}(h:aH w S a (l.map f))(d:j<l):∃b c,a=some (aD b c)/\S b/\w.c b (c+j)=some (f l[j]):=by
 rcases h with h|⟨b,c,g,i,k⟩
 .simp at h;grind
 .exact⟨b,c,g,i,k j _ ζ⟩
def Wt(w:World)(S:Bl)(g:Pg)(v:Value):Prop :=
 ∃ka ia ea kc ic ec,v=.agg #[.int .i64 g.kind,.int .i64 g.ver,.int .i64 g.root,.int .i64 g.next,.slice ka g.keys.length kc,.slice ia g.kids.length ic,.slice ea g.ents.length ec,.string g.data] /\
  aH w S ka (g.keys.map .string)/\aH w S ia (g.kids.map (.int .i64))/\aH w S ea (g.ents.flatMap Ent.cells)/\g.keys.length<=kc/\g.kids.length<=ic/\g.ents.length<=ec
def spV(s:Sp):Value:=.agg #[.string s.lo,.string s.hi]
