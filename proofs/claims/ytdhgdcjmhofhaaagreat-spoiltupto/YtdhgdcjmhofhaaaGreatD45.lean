import Derived.Test.YtdhgdcjmhofhaaaGreatD44
import Derived.Test.YtdhgdcjmhofhaaaGreatRows
import Derived.ProofKit
import Derived.OpenShut
import Derived.Deep.Slices
set_option linter.all false
set_option maxRecDepth 100000
namespace Go.Proofs.YtdhgdcjmhofhaaaGreat.Tree
open Go.RowKit Go.ChangeShapes Go.WideShapes Go.ChangeAt Pages
theorem qMp{w:World}{b o:Nat}{v:Value}(h:w.c b o=some v):b<w:=by
 rcases BT b w with a|a
 .exact a
 .simp[World.cell?,Array.getElem?_eq_none a]at h
theorem qBv{w a c}(h:∀i u,c[i]?=some u->w.cell? (a.add i)=some u):fI w w.1.size (some a) c:=by
 cases c with
 |nil=>exact .inl rfl
 |cons v c =>
  have e:=h 0 v rfl;have⟨b,d,k⟩:=a;have g:k=none:=by simpa[Addr.add] using World.cell?_spot e
  subst g;have f:∀i,((aD b d):Addr).add i=(aD b (d+i)):=λi=>by unfold Addr.add;split<;>simp_all
  exact .inr ⟨b,d,rfl,qMp (v:=v) (by show w.cell? (aD b (d+0))=_;rw[<-f 0];exact e),λi u j=>by rw[<-f i];exact h i u j⟩
theorem qCr{n}(h:(Lit.int .i64 n).wf=true): -9223372036854775808<=n/\n<=9223372036854775807:=by
 simpa[Lit.wf,IntKind.min,IntKind.max,IntKind.signed,IntKind.bits] using h
theorem qMn:Tryz.prog.cellsOf 46=7:=κ
theorem qMo:Tryz.prog.cellsOf 3=1:=κ
theorem qQz:Tryz.prog.cellsOf 9=1:=κ
theorem qRb:Tryz.prog.cellsOf 4=1:=κ
theorem qRa:Tryz.prog.cellsOf 44=1:=κ
section
variable {H:Type}{enc:TypeId×Value->H}{W:World}
theorem qNw{Y:Nat}{cs:List Value}{x:DataW H×List MemPlace}(h:DataW.trod enc Tryz.prog W 0 (λ_=>true) true Y 46 cs=some x):
  ∃c:OpV,cs=c.cl/\(Kl c/\qBd W (λk=>k<W) c)/\c.p+c.q+8<=Rows.uptoBulk x.1:=by
 have⟨X,n,_,I,C,G,b⟩:=DataW.trod_struct Tryz.underlying46 h;rw[qMn]at C;match cs,C,X,G with
 |[c0,c1,c2,c3,c4,c5,c6],_,[y0,y1,y2,y3,y4,y5,y6],_ =>
  have u:=b 0 _ rfl;have v:=b 1 _ rfl;have w:=b 2 _ rfl;have J:=b 3 _ rfl;have N:=b 4 _ rfl;have y:=b 5 _ rfl;have B:=b 6 _ rfl;simp[qMo,qQz,qRb,qRa]at u v w J N y B;obtain⟨U,A,rfl,_⟩:=DataW.trod_int Tryz.underlying3 u;obtain⟨L,k,rfl,M2⟩:=DataW.trod_int Tryz.underlying3 v;obtain⟨p,m,rfl,_⟩:=DataW.trod_string Tryz.underlying9 w;obtain⟨q,o,rfl,_⟩:=DataW.trod_string Tryz.underlying9 J;obtain⟨K,F,rfl,M⟩:=DataW.trod_int Tryz.underlying3 N;obtain⟨V,s,rfl⟩:=DataW.trod_bool Tryz.underlying4 y;have⟨f,i,g,t,kp⟩:∃f i g,[c6]=[Value.s f i g]/\∃r:List Int,i=r.length/\aH W (λk=>k<W.1.size) f (r.map (.int .i64))/\r.length<=9223372036854775807:=by
   rcases open_ints Tryz.underlying44 Tryz.underlying3 qMo B with⟨j,_⟩|⟨a,S,P,T,j,_,a2,a0,a1,_,Z,_⟩
   .exact⟨_,_,_,j,[],rfl,.inl rfl,δ⟩
   .have hn:(T.take S)=S:=by simp at a1⊢;omega
    refine⟨_,_,_,j,T.take S,hn.symm,qBv λi u z=>?_,by rw[hn];have:=a0;unfold maxLen at this;omega⟩;simp only[BM,GG]at z;obtain⟨s,e,rfl⟩:=z;rw[DF]at e;split at e
    .rw[Z i ((AD.1 e).1)];simp[List.getD,e]
    .cases e
  simp only[GJ,DC]at A k m o F s t;subst A k m o F s t;have⟨D,E⟩:=qCr M;have⟨D2,E2⟩:=qCr M2;refine⟨⟨U,L,p,q,K,V,f,i,g⟩,rfl,⟨⟨D,E,D2,E2⟩,kp⟩,?_⟩;rw[I];have Q:p.data.toList=p.size:=σ;have R:q.data.toList=q.size:=σ;have O:∀d:DataW H,1<=Rows.uptoBulk d:=λd=>by cases d<;>(try rename_i l;try cases l)<;>simp[Rows.uptoBulk]<;>omega
  have:=O y6.1;simp only[BE,DB,Rows.uptoBulk,Rows.uptoBulkAll];omega
theorem qJu{base:Nat}{v:Value}{d:DataW H}{p:List MemPlace}(S:Value.okWide Tryz.prog W .any base 22 v)(h:DataW.Trod enc Tryz.prog W 0 (λ_=>true) true 22 v d p)(A:Rows.uptoBulk d<=1048576):
  ∃(a:Option Addr) (c:Nat) (cs:List OpV),v=.s a cs c/\fI W W a (cs.flatMap OpV.cl)/\(∀c∈cs,Kl c/\c.p.size<=2000000/\c.q.size<=2000000/\qBd W (λk=>k<W) c)/\cs.length<=390000:=by
 obtain⟨U,f,F,rfl⟩:=okWide_slice Tryz.underlying22 S;have⟨a2,M⟩:=h;rcases Deep.open_slice Tryz.underlying22 M with⟨o,y⟩|⟨a,a1,X,T,n,D,O,o,_,N,_,P,y,L⟩
 .simp[Value.cells]at o
  obtain⟨rfl,rfl,rfl⟩:=o;exact⟨none,0,[],rfl,.inl rfl,σ,AG _⟩
 .simp[Value.cells]at o
  obtain⟨rfl,rfl,rfl⟩:=o;have a0:f<=T:=by rw[P];simpa using N
  have G:∀b,b<f->∃j:OpV,(∀c u,j.cl[c]?=some u->W.cell? ((a.add (b * 7)).add c)=some u)/\(Kl j/\qBd W (λk=>k<W) j)/\j.p+j.q+8<=Rows.uptoBulk (D b):=λb l=>by
   have⟨V,g,m⟩:=L b ω;rw[qMn]at g;have⟨_,s,K⟩:=World.cells?_some g;obtain⟨j,rfl,Q,I⟩:=qNw m;refine⟨j,λc u t=>?_,Q,I⟩;have i:=(AD.1 t).1;rw[K c i];exact t
  haveI:Inhabited OpV:=⟨⟨0,0,⟨#[]⟩,⟨#[]⟩,0,false,none,0,0⟩⟩;have⟨k,w⟩:=Deep.choose_lt G;have s:((List.range f).map k)=f:=σ
  have J:∀e:List Nat,(∀b∈e,b<f)->e * 8<=Rows.uptoBulkAll (e.map D)/\∀b∈e,(k b).p+(k b).q<=Rows.uptoBulkAll (e.map D):=by
   intro e;induction e with
   |nil=>intro _;exact⟨σ,σ⟩
   |cons b r ih =>
    intro B;have⟨g,m⟩:=ih (λz q=>B z (LQ _ q));have Y:=(w b (B b (List.mem_cons_self ..))).2.2;simp only[BE,Rows.uptoBulkAll,jB];refine⟨ω,λz q=>?_⟩;rcases AS.1 q with rfl|q
    .omega
    .have:=m z q;omega
  have Z:Rows.uptoBulkAll ((List.range f).map D)<=1048576:=by
   simp only[KL]at y;rw[y.1]at A;simp only[Rows.uptoBulk]at A;omega
  have⟨C,E⟩:=J (List.range f) (λb l=>JG.1 l);rw[List.length_range]at C;refine⟨some a,F,(List.range f).map k,by rw[s],qBv λb u t=>?_,λc i=>?_,by rw[s];omega⟩
  .have l:=by
    have g:=(AD.1 t).1;have m:∀e:List OpV,(e.flatMap OpV.cl).length=e * 7:=λe=>by
     induction e with
     |nil=>rfl
     |cons x e ih=>rw[AK,jK,ih,jB];simp;omega
    rw[m,s]at g;exact g
   have R:b / 7<((List.range f).map k):=by rw[s];omega
   have i:=Ew OpV.cl 7 (λ_=>rfl) ((List.range f).map k) (b / 7) (b % 7) R ω;rw[show b / 7 * 7+b % 7=b by omega,t]at i;simp only[EF,List.getElem_range]at i;have:=((w (b / 7) ω).1 (b % 7) u) i.symm;rw[Deep.add_add,show b / 7 * 7+b % 7=b by omega]at this;exact this
  .obtain⟨b,l,rfl⟩:=AY.1 i;have g:=E b l;exact⟨(w b (JG.1 l)).2.1.1,ω,ω,(w b (JG.1 l)).2.1.2⟩
end
