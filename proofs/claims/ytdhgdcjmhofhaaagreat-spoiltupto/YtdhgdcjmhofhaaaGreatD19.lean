import Derived.Test.YtdhgdcjmhofhaaaGreatD17
set_option linter.all false
set_option maxRecDepth 100000
set_option maxHeartbeats 8000000
namespace Go.Proofs.YtdhgdcjmhofhaaaGreat.Tree
open Go.RowKit Pages Tryz
theorem vU(β sv lv fs root o r q p)(s:Sp)(g w)(h:aA w β sv lv fs)(aj:(fs.life==0)=false)(ai:fs.has p g)(bn:(g.kind==2)=false)(bo:(g.kind==3)=true)(ag:0<g.ents.length)(aa:s.has (g.ents[0]).key=true)(ab:s.has (g.ents[g.ents.length-1]).key=true)(b5:g.keys.length<=1000)(b1:g.ents.length<=1000):
  cL 144 #[.agg #[.p β 0,.i root,.s o r q],.i p,.agg #[.t s.lo,.t s.hi]] w λe w'=>∃v,e=.r v/\Wt w' (New w w') g v/\bW w w':=by
 obtain⟨a,y,C,ao,am,V,-⟩:=al3 w (.cells #[.p β 0,.i root,.s o r q] 90) (.cells #[.t s.lo,.t s.hi] 154) xI;have ae:=h.bl C; have T:=(gL V);have ap:a.c w 0=some (.p β 0)/\a.c w 1=some (.i root)/\a.c w 2=some (.s o r q):=by simp[World.cell?,ao]
 obtain⟨c8,c9,ca⟩:=ap;have af:=Hj β sv lv fs root o r q p g a ae aj ai;have E:=λW=>Et s (g.ents[0]).key W;have Q:=λW=>Et s (g.ents[g.ents.length-1]).key W;rw[aa]at E;rw[ab]at Q;go_enter func144,ntmps144;go_wp2_with (refine af.m ?_;rintro e c ⟨v,rfl,⟨m,i,P,n,k,f,rfl,ak,al,J,U⟩,A⟩;obtain⟨d,z,-,L,-⟩:=al1 c (pgO g m i P n k f);obtain⟨bp,bq,br,bs,bt,bu,bv,bw⟩:=bU L;have O:=A.t (z▸(AC _ _).alloc A.size _);have X:=(O.block _ T).t V;have K:=(O.block _ (Nat.lt_of_succ_lt T)).t am;obtain⟨cb,cc⟩:=cM K;have c7:=A.size);have H:On (New a c) c d:=z▸(CM _ c).alloc (λl b=>b.2) _;obtain⟨t,u,S,az,ac,_⟩:=(J.on H).ent ag;have ay:=S;subst S;have b6:IntKind.i64.wrap ((g.ents.length:Int)-1)=((g.ents-1:Nat):Int):=by rw[show(g.ents.length:Int)-1=((g.ents-1:Nat):Int) by omega];exact wrap_small ω
 have b2:0<=((g.ents-1:Nat):Int)/\((g.ents-1:Nat):Int)<(g.ents.length:Int):=ω;simp only[EO,EC]at ac;go_region_law (first
  |(go_simp;go_at_call 136;refine(E _).m ?_;clear E;rintro e aq ⟨rfl,B⟩;have M:=B.kp L;have Y:=B.kp X;have an:=B.kp K;obtain⟨b7,b8,b9,ba,bb,bc,bd,be⟩:=bU M;obtain⟨cd,ce⟩:=cM an;have N:Fr Bl.none d aq:=(AE _ d).drew.t (AB B);obtain⟨av,ax,ah,b0,aw,_⟩:=(J.on (H.t (N.on (λl b=>⟨jY b.2 H.size,λh=>h⟩)))).ent (j:=g.ents-1) ω;cases ah)
  |(go_simp;go_at_call 136;refine(Q _).m ?_;rintro e x ⟨rfl,G⟩;have au:=G.kp M;have R:=G.kp Y;obtain⟨bf,bg,bh,bi,bj,bk,bl,bm⟩:=bU au;obtain⟨bx,bz,c0,c1,c2,c3,c4,c5⟩:=bU R;have c6:=aF R;have a9:=N.t (AB G)))
 all_goals go_wp2
 all_goals
  have ar:=Gj R (.i g.kind) (.i g.ver) (.i g.root) (.i g.next) (.s m g.keys n) (.s i g.kids k) (.s (some (aD t u)) g.ents f) (.t g.data);have ad:=Oi x (w+1+1) (.i g.kind) (.i g.ver) (.i g.root) (.i g.next) (.s m g.keys n) (.s i g.kids k) (.s (some (aD t u)) g.ents f) (.t g.data);obtain⟨a0,a1,a2,a3,a4,a5,a6,a7⟩:=bU ar;unfold Oj at a0 a1 a2 a3 a4 a5 a6 a7;have a8:=(z▸(AE _ c).alloc _:Fr Bl.none c d).t a9;have D:=(a8.m (λl b=>b.elim)).t ad;have I:=D.on (Z:=New a c) (λl b=>⟨b.2,λe=>by simp only[Bl.one]at e;have:=b.1;omega⟩);have F:∀l,New a c l->New w (Oj x (w+1+1) (.i g.kind) (.i g.ver) (.i g.root) (.i g.next) (.s m g.keys n) (.s i g.kids k) (.s (some (aD t u)) g.ents f) (.t g.data)) l:=λl b=>⟨by have:=b.1;have:=C.size;omega,jY b.2 D.size⟩;refine BH (v:=.agg #[.i g.kind,.i g.ver,.i g.root,.i g.next,.s m g.keys n,.s i g.kids k,.s (some (aD t u)) g.ents f,.t g.data]) ?_ rfl ⟨_,rfl,⟨m,i,(some (aD t u)),n,k,f,rfl,(ak.on I).m F,(al.on I).m F,(J.on I).m F,U⟩,?_⟩
  .simp[results,results144,go_sem,a0,a1,a2,a3,a4,a5,a6,a7]
  .exact(C.t (A.m ω)).t (D.below ω (λ_=>φ))
