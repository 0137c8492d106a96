import Derived.Test.YtdhgdcjmhofhaaaGreatD17
set_option linter.all false
set_option maxRecDepth 100000
set_option maxHeartbeats 8000000
namespace Go.Proofs.YtdhgdcjmhofhaaaGreat.Tree
open Go.RowKit Pages Tryz
theorem pX(β sv lv fs root n q o p)(s:Sp)(g w)(h:aA w β sv lv fs)(ac:(fs.life==0)=false)(a8:fs.has p g)(b6:(g.kind==2)=true)(a9:0<g.keys.length)(J:lt s.lo g.keys[0]=true)(a4:s.has (g.keys[g.keys.length-1])=true)(av:g.keys.length<=1000)(ao:g.ents.length<=1000):
  cL 144 #[.agg #[.p β 0,.i root,.s n q o],.i p,.agg #[.t s.lo,.t s.hi]] w λe w'=>∃v,e=.r v/\Wt w' (New w w') g v/\bW w w':=by
 obtain⟨a,y,B,ai,ag,P,-⟩:=al3 w (.cells #[.p β 0,.i root,.s n q o] 90) (.cells #[.t s.lo,.t s.hi] 154) xI;have a6:=h.bl B; have M:=(gL P);have aj:a.c w 0=some (.p β 0)/\a.c w 1=some (.i root)/\a.c w 2=some (.s n q o):=by simp[World.cell?,ai]
 obtain⟨br,bs,bt⟩:=aj;have a7:=Hj β sv lv fs root n q o p g a a6 ac a8;have am:Op.bytesLess (g.keys[0]).toList s.lo.toList=false:=Hh J;have an:=zL (λe=>Si J e.symm);have K:=λW=>Et s (g.keys[g.keys.length-1]) W;rw[a4]at K;go_enter func144,ntmps144;go_wp2_with (refine a7.m ?_;rintro e b ⟨v,rfl,⟨L,k,f,m,l,i,rfl,G,ae,af,O⟩,A⟩;obtain⟨d,z,-,H,-⟩:=al1 b (pgO g L k f m l i);obtain⟨b9,ba,bb,bc,bd,be,bf,bg⟩:=bU H;have I:=A.t (z▸(AC _ _).alloc A.size _);have Q:=(I.block _ M).t P;have ah:=(I.block _ (Nat.lt_of_succ_lt M)).t ag;obtain⟨bu,bv⟩:=cM ah;have bq:=A.size);have N:On (New a b) b d:=z▸(CM _ b).alloc (λr c=>c.2) _;obtain⟨t,u,aa,ar,ad⟩:=(G.on N).at a9;obtain⟨b5,b8,ab,_,b7⟩:=(G.on N).at (j:=g.keys-1) ω;subst aa;cases ab;have aw:IntKind.i64.wrap ((g.keys.length:Int)-1)=((g.keys-1:Nat):Int):=by rw[show(g.keys.length:Int)-1=((g.keys-1:Nat):Int) by omega];exact wrap_small ω
 have ap:0<=((g.keys-1:Nat):Int)/\((g.keys-1:Nat):Int)<(g.keys.length:Int):=ω
 simp only[EC]at ad
 go_region_law (go_simp;go_at_call 136;refine(K _).m ?_;rintro e x ⟨rfl,E⟩;have ak:=E.kp H;have R:=E.kp Q;obtain⟨ax,ay,az,b0,b1,b2,b3,b4⟩:=bU ak;obtain⟨bh,bi,bj,bk,bl,bm,bn,bo⟩:=bU R;have bp:=aF R;have a3:Fr Bl.none d x:=(AE _ d).drew.t (AB E));all_goals go_wp2
 all_goals
  have al:=Gj R (.i g.kind) (.i g.ver) (.i g.root) (.i g.next) (.s (some (aD t u)) g.keys m) (.s k g.kids l) (.s f g.ents i) (.t g.data);have a5:=Oi x (w+1+1) (.i g.kind) (.i g.ver) (.i g.root) (.i g.next) (.s (some (aD t u)) g.keys m) (.s k g.kids l) (.s f g.ents i) (.t g.data);obtain⟨S,T,U,V,X,Y,a0,a1⟩:=bU al;unfold Oj at S T U V X Y a0 a1;have a2:=(z▸(AE _ b).alloc _:Fr Bl.none b d).t a3;have C:=(a2.m (λr c=>c.elim)).t a5;have F:=C.on (Z:=New a b) (λr c=>⟨c.2,λe=>by simp only[Bl.one]at e;have:=c.1;omega⟩);have D:∀r,New a b r->New w (Oj x (w+1+1) (.i g.kind) (.i g.ver) (.i g.root) (.i g.next) (.s (some (aD t u)) g.keys m) (.s k g.kids l) (.s f g.ents i) (.t g.data)) r:=λr c=>⟨by have:=c.1;have:=B.size;omega,jY c.2 C.size⟩;refine BH (v:=.agg #[.i g.kind,.i g.ver,.i g.root,.i g.next,.s (some (aD t u)) g.keys m,.s k g.kids l,.s f g.ents i,.t g.data]) ?_ rfl ⟨_,rfl,⟨(some (aD t u)),k,f,m,l,i,rfl,(G.on F).m D,(ae.on F).m D,(af.on F).m D,O⟩,?_⟩
  .simp[results,results144,go_sem,S,T,U,V,X,Y,a0,a1]
  .exact(B.t (A.m ω)).t (C.below ω (λ_=>φ))
