import Derived.Test.YtdhgdcjmhofhaaaGreatD14
import Derived.Lib.Overlaps
import Derived.Lib.AppendZerosOnto
import Derived.Deep.RegionHeld3
set_option linter.all false
set_option maxRecDepth 100000
set_option maxHeartbeats 8000000
namespace Go.Proofs.YtdhgdcjmhofhaaaGreat.Tree
open Go.RowKit Go.Lib Pages Tryz
variable {P:Program} {e:TypeId} {w:World} {xs:List Value}
theorem sG (w e A B c z b o d k a h y m cs)(x:P.underlying e=some (.slice c))(g:(P.info? c).map (·.size)=some z)(s:m=Nat.min h d)(r:cs.length=m * z)(t:∀j v,cs[j]?=some v->w.cell? (a.add j)=some v)(n:∀j,j<cs.length->(w.c b (o+j)).isSome=true)(p:∀j,j<cs.length->w.frozen? (aD b (o+j))=false)(l:∀v∈cs,v.oneCell'=true):
  (Builtin.copy_ #[e,A] B #[.s (some (aD b o)) d k,.s (some a) h y]).run P w=.ok (goInt m) (w.setCells b o cs):=by
 have f:=run_loadCells_list (P:=P) w a cs t;rw[r]at f;cases hq:P.info? c with
 |none=>simp[hq]at g
 |some i =>
  have q:=by simpa[hq] using g
  simp[Builtin.copy_,DA x,Builtin.lenOf,Builtin.firstCells,sizeOf,typeInfo,hq,q,<-s,f,run_storeCells_cells (P:=P) b o cs 0 w (by simpa using n) (by simpa using p) l]
theorem Ck (w){ops:Array Oper}{b:List Oper}{o:Oper}{a:Act}{Q:Exit->Act->World->Prop}(f:o.guard=none)(d s t t')(g:o.op=.call {callee:=.builtin .copy,args:=#[d,s],argTypes:=#[t,t']})(v u)(e:a.eval d=v)(j:a.eval s=u){v':Value}{w':World}(i:(Builtin.copy_ #[t,t'] o.type #[v,u]).run P w=.ok v' w')(h:wpList P ops Q b (a.put o.dst v') w'):wpList P ops Q (o :: b) a w :=
 FH f λ_ c=>by
  unfold Oper.wp execOp;simp only[g,resolve,invoke,builtin,EK,ED,DN,DQ,BE,DB,e,j,i];exact c _ _ h
theorem Kz {ops o a K Q e}(h:o.guard=none)(d x b c)(i:o.op=Op.call {callee:=Callee.builtin Builtin.copy,args:=#[d,x],argTypes:=#[b,c]})(v u)(g:a.eval d=v)(l:a.eval x=u){v':Value}{w':World}(j:(Builtin.copy_ #[b,c] o.type #[v,u]).run P w=.ok v' w')(f:K (a.put o.dst v') w'):
  if Region.wanted o (yielded ops a.tmps)=true then Oper.wp P o a w K Q else e:=by
 have k:Region.wanted o (yielded ops a.tmps)=true:=by simp[Region.wanted,h]
 rw[AU k];unfold Oper.wp;simp[execOp,i,resolve,invoke,builtin,g,l,j,Result.andThen];exact f
theorem Tw(R xs a:List Value)(i n)(j:xs.length=n * 3)(c:a.length=3)(hi:i<=n)(d:R=(n+1) * 3)(h:∀t,t<i * 3->R[t]?=xs[t]?):
  wL (wL R (i * 3) a) ((i+1) * 3) (xs.drop (i * 3))=xs.take (i * 3)++a++xs.drop (i * 3)/\wL (wL R ((i+1) * 3) (xs.drop (i * 3))) (i * 3) a=xs.take (i * 3)++a++xs.drop (i * 3):=by
 have b:(xs.drop (i * 3)).length=n * 3-i * 3:=by rw[BJ,j]
 have g:(i+1) * 3=i * 3+3:=ω
 have f:∀t,(xs.take (i * 3)++a++xs.drop (i * 3))[t]?=if t<i * 3 then R[t]? else if t<(i+1) * 3 then a[t-i * 3]? else (xs.drop (i * 3))[t-(i+1) * 3]?:=by
  intro t;have e:(xs.take (i * 3)).length=i * 3:=by rw[AX];omega
  by_cases h1:t<i * 3
  .rw[AU h1,CA,BK ω,DF,AU h1,h t h1]
  .rw[AQ h1];by_cases h2:t<(i+1) * 3
   .rw[AU h2,BK (by rw[jK];omega),AZ ω,e]
   .rw[AQ h2,AZ (by rw[jK];omega),jK,e,c,g]
 constructor
 .apply CZ;intro t;rw[f,oW _ _ _ (by rw[oV,d,b];omega),oW _ _ _ (by rw[d,c];omega),b,c];by_cases h1:t<i * 3
  .rw[AU h1,AQ ω,AQ ω]
  .rw[AQ h1];by_cases h2:t<(i+1) * 3
   .rw[AU h2,AQ ω,AU ω]
   .rw[AQ h2];by_cases h3:(i+1) * 3<=t/\t<(i+1) * 3+(n * 3-i * 3)
    .rw[AU h3]
    .rw[AQ h3,AQ ω,CL ω,CL (by rw[b];omega)]
 .apply CZ;intro t;rw[f,oW _ _ _ (by rw[oV,d,c];omega),oW _ _ _ (by rw[d,b];omega),b,c];by_cases h1:t<i * 3
  .rw[AU h1,AQ ω,AQ ω]
  .rw[AQ h1];by_cases h2:t<(i+1) * 3
   .rw[AU h2,AU ω]
   .rw[AQ h2,AQ ω];by_cases h3:(i+1) * 3<=t/\t<(i+1) * 3+(n * 3-i * 3)
    .rw[AU h3]
    .rw[AQ h3,CL ω,CL (by rw[b];omega)]
theorem Hw:(prog.info? 101).map (λi=>(i.zero,i.size,i.bytes))=some (some (.agg #[.e,.e,.bool false]),3,40):=κ
theorem Qd (w T d a e)(f:P.underlying T=some (.slice a))(g:P.underlying d=some (.slice a))(h)(hi:P.info? a=some h)(b n c x):(Builtin.append_ #[T,d] e #[.s b n c,x]).run P w=(Builtin.append_ #[T,T] e #[.s b n c,x]).run P w:=by
 simp[Builtin.append_,DA f,DA g,sizeOf,typeInfo,hi]
theorem Np {ops p o a Q}(w)(C:o.guard=none)(q x T e b zero z bytes)(G:o.op=.call {callee:=.builtin .append,args:=#[q,x],argTypes:=#[T,e]})(g:P.underlying T=some (.slice b))(A:P.underlying e=some (.slice b))(hi:(P.info? b).map (λi=>(i.zero,i.size,i.bytes))=some (some zero,z,bytes))(L:zero.cells.size=z)(I:0<z)(v n xs)(H:a.eval q=v)(l:w.ownsRow 0 b z v n xs)(f m c d)(J:a.eval x=.s (some f) m c)(E:d.length=m * z)(F:∀j u,d[j]?=some u->w.cell? (f.add j)=some u)(s:∀u∈d,u.oneCell'=true)(t:n+m<=140737488355328)(B:(n+m) * bytes<=140737488355328)(h:∀v' w',fO b z v n xs d m w v' w'->wpList P ops Q p (a.put o.dst v') w'):
  wpList P ops Q (o :: p) a w:=by
 refine FH C λK y=>?_;have⟨v',w',k,r⟩:=Ai (P:=P) w T o.type b zero z bytes g hi L I v n xs l f m c d E F s t B;have⟨M,D,_,_,_⟩:=FL hi;obtain⟨N,O,rfl⟩:=aG l;rw[<-Qd w T e b o.type g A M D]at k;unfold Oper.wp execOp;simp only[G,resolve,invoke,builtin,EK,ED,DN,DQ,BE,DB,H,J,k];exact y _ _ (h v' w' r)
theorem kE {z n v}(h:w.ownsRow 0 e z v n xs):(v=.n/\n=0/\xs=[])\/∃g c a,v=.q g n c/\cW w g a e/\n<=c/\c<=maxLen/\a.size=c * z/\a.toList.take (n * z)=xs:=by
 have⟨d,i⟩:=h;rcases i with⟨b,f⟩|⟨g,c,a,b,p,l,m,j,k,o⟩
 .refine .inl ⟨b,f,?_⟩;rw[f,EO]at d;exact AH d
 .exact .inr ⟨g,c,a,b,l,m,j,k,o⟩
theorem Oq {a}{b:List Value}{c}(e:cW w a b.toArray c):∀j u,b[j]?=some u->w.cell? (((aD a 0):Addr).add j)=some u:=λj u d=>by
 rw[LN];simp[World.cell?,e,d]
theorem Zn(v n d xs a)(w:World)(h:w.ownsRow 0 101 3 v n xs)(x:a.length=3)(l:cW w d a.toArray 101)(f:∀u∈a,u.oneCell'=true)(r:n<=1000000):
  cL 126 #[v,.i n,.q d 1 1] w λe w'=>∃v',e=.r v'/\fO 101 3 v n xs a 1 w v' w':=by
 have i:=Oq l;rcases kE h with⟨rfl,rfl,rfl⟩|⟨g,c,m,rfl,q,s,o,p,t⟩
 .go_enter func126,ntmps126;go_wp2_with (at_builtin;apply Np w rfl (.tmp 23) (.tmp 24) 88 87 101 _ 3 40 rfl underlying88 underlying87 Hw rfl δ .n 0 [] rfl h (aD d 0) 1 1 a rfl ω i f ω ω;intro D j b);go_ret;exact⟨_,rfl,b⟩
 .by_cases hcn:c=n
  .subst c;have k:(n:Int)<=(n:Int):=ω
   go_enter func126,ntmps126;go_wp2_with (at_builtin;apply Np w rfl (.tmp 23) (.tmp 24) 88 87 101 _ 3 40 rfl underlying88 underlying87 Hw rfl δ (.q g n n) n xs rfl h (aD d 0) 1 1 a rfl ω i f ω ω;intro D j b);go_ret;exact⟨_,rfl,b⟩
  .have k:(n:Int)<=(c:Int):=ω
   go_enter func126,ntmps126;go_wp2_with (at_builtin;apply Np w rfl (.tmp 23) (.tmp 24) 88 87 101 _ 3 40 rfl underlying88 underlying87 Hw rfl δ (.q g n c) n xs rfl h (aD d 0) 1 1 a rfl ω i f ω ω;intro D j b);go_ret;exact⟨_,rfl,b⟩
theorem fU {z g n c}(h:w.ownsRow 0 e z (.q g n c) n xs)(t)(k:t<n * z):(w.c g t).isSome=true/\w.frozen? (aD g t)=false:=by
 rcases kE h with⟨f,_⟩|⟨m,l,d,a,b,j,o,i,p⟩
 .simp at f
 .simp only[AR,BB,CD,DC,CV]at a;obtain⟨rfl,rfl⟩:=a;refine⟨?_,aF b t⟩;have:t<d.size:=by rw[i];exact jY k (JP z j)
  simp[World.cell?,b,this]
theorem qDa {g n c:Nat}(h:w.ownsRow 0 e 5 (.q g (n+1) c) (n+1) xs):∃a b d f i,w.c g (n * 5)=some a/\w.c g (n * 5+1)=some b/\w.c g (n * 5+2)=some d/\w.c g (n * 5+3)=some f/\w.c g (n * 5+4)=some i/\w.frozen? (aD g (n * 5))=false/\w.frozen? (aD g (n * 5+1))=false/\w.frozen? (aD g (n * 5+2))=false/\w.frozen? (aD g (n * 5+3))=false/\w.frozen? (aD g (n * 5+4))=false:=by
 have k:=fU h;obtain⟨a,A⟩:=DO.1 (k (n * 5) ω).1;obtain⟨b,B⟩:=DO.1 (k (n * 5+1) ω).1;obtain⟨d,C⟩:=DO.1 (k (n * 5+2) ω).1;obtain⟨f,D⟩:=DO.1 (k (n * 5+3) ω).1;obtain⟨i,E⟩:=DO.1 (k (n * 5+4) ω).1;exact⟨a,b,d,f,i,A,B,C,D,E,(k _ ω).2,(k _ ω).2,(k _ ω).2,(k _ ω).2,(k _ ω).2⟩
theorem Tv(g n c i y xs l w)(h:w.ownsRow 0 101 3 (.q g n c) n xs)(a2:∀u∈xs,u.oneCell'=true)(ae:l.length=3)(I:cW w y l.toArray 101)(Q:∀u∈l,u.oneCell'=true)(b1:n<=1000000)(hi:i<n)(a8:c<n+1):
  cL 126 #[.q g n c,.i i,.q y 1 1] w λe w'=>∃a,e=.r (.q w (n+1) a)/\w'.ownsRow 0 101 3 (.q w (n+1) a) (n+1) (xs.take (i * 3)++l++xs.drop (i * 3))/\bW w w':=by
 have J:=h.1;have X:n<=c:=by
  rcases kE h with⟨a6,_⟩|⟨aj,ah,ai,z,aw,X,au,av,b2⟩
  .simp at a6
  .simp only[AR,BB,CD,DC,CV]at z;obtain⟨rfl,rfl⟩:=z;exact X
 have U:=DH (w:=w) h (g:=g) rfl;have⟨a5,V,ag,a4,a3⟩:=FL Hw;have M:(prog.info? 101).map (·.size)=some 3:=by rw[V];simp[a4]
 have af:=(gL I);have a0:(Builtin.firstCells a5.size i (.q g i c)).run prog w.drew=.ok (xs.take (i * 3)).toArray w.drew:=by
  rw[a4];exact run_firstCells_some w.drew 3 i (aD g 0) i c (xs.take (i * 3)) (by rw[AX];omega) (λr u d=>by
   rw[DF]at d;split at d
   .exact U r u d
   .cases d)
 have W:(n:Int)+1-(i:Int)=((n+1-i:Nat):Int):=ω;have L:i+(n+1-i)=n+1:=ω
 have⟨a,A⟩:∃a,a=grownCap w (n+1) c 101:=⟨_,rfl⟩;have⟨f,C⟩:∃f:Array Value,f=(xs.take (i * 3)).toArray++Builtin.zeroCells (Value.agg #[.e,.e,.bool false]).cells (n+1-i)++Builtin.zeroCells (Value.agg #[.e,.e,.bool false]).cells (a-(n+1)):=⟨_,rfl⟩;have a1:∀k,(Builtin.append_ #[88,3] k #[.q g i c,.i ((n:Int)+1-(i:Int))]).run prog w=.ok (.q w (n+1) a) (w.drew.alloc (.cells f 101)):=λk=>by
  have P:=Lib.run_append_grow_zeros w 88 3 k 101 a5 _ .i64 .i64 underlying88 underlying3 V ag (some (aD g 0)) i c (xs.take (i * 3)) a0 (n+1-i) ω ω ω ω (by rw[a3];omega) (by rw[a3,L];exact KG a8 ω);rw[L]at P;rw[W,C,A];exact P
 have a7:n+1<=a:=by rw[A];exact ND w _ _ _
 have S:a<=maxLen:=by rw[A];exact MP w (n+1) c _ (by unfold maxLen;omega)
 have K:f.size=a * 3:=by
  rw[C];simp[Builtin.zeroCells,Value.cells,J];omega
 have⟨j,D⟩:∃j,j=w.drew.alloc (.cells f 101):=⟨_,rfl⟩;have F:bW w j:=by rw[D];exact(AC _ w).drew.alloc (jU _) _
 have T:cW j w f 101:=by rw[D];exact aB w.drew _
 have v:j.ownsRow 0 101 3 (.q w (n+1) a) (n+1) (f.toList.take ((n+1) * 3)):=
  ⟨by rw[AX,GA,K];omega,.inr ⟨_,a,f,rfl,AG _,T,a7,S,K,rfl⟩⟩
 have⟨b,E⟩:∃b,b=j.setCells w.1.size (i * 3) l:=⟨_,rfl⟩;have B:=v.1;have H:b.ownsRow 0 101 3 (.q w (n+1) a) (n+1) (wL (f.toList.take ((n+1) * 3)) (i * 3) l):=by rw[E];exact gT l (i * 3) v (by rw[B];omega)
 have R:Fr (Bl.one w) j b:=by rw[E];exact jH l (i * 3) (AE _ j)
 have G:=F.t (R.below F.size (λ_=>φ));have⟨m,q⟩:∃m,m=xs.drop (i * 3):=⟨_,rfl⟩;have s:m=(n-i) * 3:=by rw[q,BJ,J];omega
 have a9:∀k o,(Builtin.copy_ #[88,87] k #[.s (some (aD w (i * 3))) (n+1-i) o,.q y 1 1]).run prog j=.ok (goInt 1) b:=λk o=>by
  rw[E];exact sG j _ _ k 101 3 w (i * 3) (n+1-i) o (aD y 0) 1 1 1 l underlying88 M (by simp only[MS];split<;>omega) ω
   (Oq ((F.block _ af).t I)) (λr d=>(fU v _ ω).1) (λr d=>(fU v _ ω).2) Q
 have aa:∀k o N,(Builtin.copy_ #[88,88] k #[.s (some (aD w ((i+1) * 3))) (n+1-(i+1)) o,.s (some (aD g (i * 3))) (n-i) N]).run prog b.drew=.ok (goInt ((n-i:Nat):Int)) (b.drew.setCells w ((i+1) * 3) m):=λk o N=>by
  exact sG b.drew _ _ k 101 3 w ((i+1) * 3) (n+1-(i+1)) o (aD g (i * 3)) (n-i) N (n-i) m underlying88 M (by simp only[MS];split<;>omega) s
   (λr u d=>by
    rw[q,DE]at d;have:=DH (w:=b) (aS h (vV G (Y:=λx=>(Value.q g n c).ownBlock=some x) (λx p=>aL h p)) (λx p=>p)) (g:=g) rfl (i * 3+r) u d;rw[LN]at this⊢;rw[EA]at this;exact this) (λr d=>(fU (w:=b) H _ (by rw[s]at d;omega)).1) (λr d=>(fU (w:=b) H _ (by rw[s]at d;omega)).2) (λu ad=>a2 u (BV (q▸ad)))
 have O:Hid ((b.drew.setCells w ((i+1) * 3) m).ownsRow 0 101 3 (.q w (n+1) a) (n+1) (xs.take (i * 3)++l++xs.drop (i * 3))/\bW w (b.drew.setCells w ((i+1) * 3) m)):=by
  have Z:=gT (w:=b.drew) m ((i+1) * 3) H (by rw[oV,B,s];omega);have e:=(Tw (f.toList.take ((n+1) * 3)) xs l i n J ae ω B (λt ac=>by
   rw[DF,AU ω,C];simp only[LW,CA];rw[BK (by rw[AX];omega),DF,AU ac])).1
  rw[<-q]at e;rw[e,q]at Z;rw[q];exact⟨Z,G.drew.t ((jH _ _ (AE (Bl.one w) b.drew)).below (by have:=G.size;exact this) (λ_=>φ))⟩
 have ar:¬(c=i):=ω;have am:¬(a=i):=ω;have an:¬(a=i+1):=ω;have b6:(c:Int)<(n:Int)+1:=ω;have ay:i<=c:=ω;have b4:IntKind.i64.wrap ((i:Int)+1)=(i:Int)+1:=by rw[CQ];omega
 have ao:(0:Int)<=(i:Int)+1:=ω;have b3:((i:Int)+1).toNat=i+1:=ω;have ap:(i:Int)+1<=(n:Int)+1:=ω;have aq:(i:Int)<=(n:Int):=ω;have ak:a<=9223372036854775807:=by unfold maxLen at S;omega
 clear W L a0 C A K v H q s F G R E T U B J h a2 Q I M;rw[<-D]at a1;clear D;go_enter func126,ntmps126;go_wp2_with (first
  |(at_builtin;apply Lib.wpList_append_run _ rfl _ _ _ _ rfl _ _ rfl rfl _ _ (a1 _))
  |(at_builtin;apply Ck j rfl _ _ 88 87 rfl _ _ rfl rfl (a9 _ _)))
 go_region_held3 (λ_=>True) (trivial)
  (first|(apply Kz rfl _ _ 88 88 rfl (.s (some (aD w ((i+1) * 3))) (n+1-(i+1)) (a-(i+1))) (.s (some (aD g (i * 3))) (n-i) (c-i)) ξ ξ (aa _ _ _)))
 all_goals go_wp2
 go_ret;exact⟨a,rfl,O.1,O.2⟩
theorem Tu(g n c i m xs a w)(h:w.ownsRow 0 101 3 (.q g n c) n xs)(Q:∀u∈xs,u.oneCell'=true)(P:a.length=3)(v:cW w m a.toArray 101)(K:∀u∈a,u.oneCell'=true)(N:m≠g)(ad:n<=1000000)(hi:i<n)(S:n+1<=c):
  cL 126 #[.q g n c,.i i,.q m 1 1] w λe w'=>e=.r (.q g (n+1) c)/\w'.ownsRow 0 101 3 (.q g (n+1) c) (n+1) (xs.take (i * 3)++a++xs.drop (i * 3))/\Fr (Bl.one g) w w':=by
 have G:=h.1;have⟨d,q,A,o,C⟩:∃d,cW w g d 101/\c<=maxLen/\d.size=c * 3/\d.toList.take (n * 3)=xs:=by
  rcases kE h with⟨R,_⟩|⟨a0,Z,d,L,q,ae,A,o,C⟩
  .simp at R
  .simp only[AR,BB,CD,DC,CV]at L;obtain⟨rfl,rfl⟩:=L;exact⟨d,q,A,o,C⟩
 have F:(prog.info? 101).map (·.size)=some 3:=by
  have⟨ao,V,ak,Y,an⟩:=FL Hw;rw[V];simp[Y]
 have s:w.ownsRow 0 101 3 (.q g (n+1) c) (n+1) (d.toList.take ((n+1) * 3)):=
  ⟨by rw[AX,GA,o];omega,.inr ⟨_,c,d,rfl,AG _,q,S,A,o,rfl⟩⟩
 have y:=s.1;have⟨j,p⟩:∃j,j=xs.drop (i * 3):=⟨_,rfl⟩;have r:j=(n-i) * 3:=by rw[p,BJ,G];omega
 have⟨b,z⟩:∃b,b=w.drew.setCells g ((i+1) * 3) j:=⟨_,rfl⟩;have B:b.ownsRow 0 101 3 (.q g (n+1) c) (n+1) (wL (d.toList.take ((n+1) * 3)) ((i+1) * 3) j):=by rw[z];exact gT (w:=w.drew) j ((i+1) * 3) s (by rw[y,r];omega)
 have E:Fr (Bl.one g) w b:=by rw[z];exact jH j ((i+1) * 3) (AE _ w).drew
 have M:=DH (w:=w) h (g:=g) rfl;have T:∀l k I,(Builtin.copy_ #[88,88] l #[.s (some (aD g ((i+1) * 3))) (n+1-(i+1)) k,.s (some (aD g (i * 3))) (n+1-i) I]).run prog w.drew=.ok (goInt ((n-i:Nat):Int)) b:=λl k I=>by
  rw[z];exact sG w.drew _ _ l 101 3 g ((i+1) * 3) (n+1-(i+1)) k (aD g (i * 3)) (n+1-i) I (n-i) j underlying88 F (by simp only[MS];split<;>omega) r
   (λx u f=>by
    rw[p,DE]at f;have:=M (i * 3+x) u f;rw[LN]at this⊢;rw[EA]at this;exact this) (λx f=>(fU (w:=w) s _ (by rw[r]at f;omega)).1) (λx f=>(fU (w:=w) s _ (by rw[r]at f;omega)).2) (λu X=>Q u (BV (p▸X)))
 have U:∀l k,(Builtin.copy_ #[88,87] l #[.s (some (aD g (i * 3))) (n+1-i) k,.q m 1 1]).run prog b=.ok (goInt 1) (b.setCells g (i * 3) a):=λl k=>by
  exact sG b _ _ l 101 3 g (i * 3) (n+1-i) k (aD m 0) 1 1 1 a underlying88 F (by simp only[MS];split<;>omega) ω
   (Oq (E.heap v (λe=>N e))) (λx f=>(fU B _ ω).1) (λx f=>(fU B _ ω).2) K
 have W:∀H D,(callFunc 154 #[.q m 1 1,.s (some (aD g ((i+1) * 3))) H D]).run prog w=.ok (.value (.bool false)) w:=λH D=>by
  rw[run_callFunc_extern func154 κ κ κ (e:=Extern.SlicesOverlaps.overlaps #[87,87] #[4]) κ,
   Lib.run_overlaps_apart w 87 4 101 underlying87 3 (λw=>κ) (aD m 0) (aD g ((i+1) * 3)) 1 1 H D N 101 101 a d.size (by simp[World.shape?,v]) (by simp[World.shape?,q]) (by rw[o];omega) (aF v _) (aF v _)]
  rfl
 have J:Hid ((b.setCells g (i * 3) a).ownsRow 0 101 3 (.q g (n+1) c) (n+1) (xs.take (i * 3)++a++xs.drop (i * 3))/\Fr (Bl.one g) w (b.setCells g (i * 3) a)):=by
  have O:=gT (w:=b) a (i * 3) B (by rw[oV,y,P];omega);have e:=(Tw (d.toList.take ((n+1) * 3)) xs a i n G P ω y (λt af=>by
   rw[<-C,DF,AU ω,DF,AU ω])).2
  rw[<-p]at e;rw[e,p]at O;exact⟨O,jH a (i * 3) E⟩
 have a8:¬(c=i):=ω;have a9:¬(c=i+1):=ω;have am:¬((c:Int)<(n:Int)+1):=ω;have ai:IntKind.i64.wrap ((i:Int)+1)=(i:Int)+1:=by rw[CQ];omega
 have aj:IntKind.i64.wrap ((n:Int)+1)=(n:Int)+1:=by rw[CQ];omega
 have a1:(0:Int)<=(i:Int)+1:=ω;have a2:(0:Int)<=(n:Int)+1:=ω;have ag:((i:Int)+1).toNat=i+1:=ω;have ah:((n:Int)+1).toNat=n+1:=ω;have a3:(i:Int)+1<=(n:Int)+1:=ω;have a4:(i:Int)<=(n:Int):=ω;have a5:(n:Int)+1<=(c:Int):=ω;have a6:(i:Int)<=(n:Int)+1:=ω
 have a7:c<=9223372036854775807:=by unfold maxLen at A;omega
 clear s B p r E M y G h Q K v F q C o z;go_enter func126,ntmps126;go_wp2_with (simp only[W]);go_region_held3 (λ_=>True) (trivial)
  (first|(apply Kz rfl _ _ 88 88 rfl (.s (some (aD g ((i+1) * 3))) (n+1-(i+1)) (c-(i+1))) (.s (some (aD g (i * 3))) (n+1-i) (c-i)) ξ ξ (T _ _ _)))
 all_goals go_wp2_with (at_builtin;apply Ck b rfl _ _ 88 87 rfl _ _ rfl rfl (U _ _))
 go_ret;exact⟨rfl,J.1,J.2⟩
theorem Zo(v n i d xs a)(w:World)(h:w.ownsRow 0 101 3 v n xs)(s:∀u∈xs,u.oneCell'=true)(p:a.length=3)(q:cW w d a.toArray 101)(j:∀u∈a,u.oneCell'=true)(y:v.ownBlock≠some d)(m:n<=1000000)(hi:i<=n):
  cL 126 #[v,.i i,.q d 1 1] w λe w'=>∃v',e=.r v'/\w'.ownsRow 0 101 3 v' (n+1) (xs.take (i * 3)++a++xs.drop (i * 3))/\Fr (λk=>v.ownBlock=some k) w w'/\∀k,v'.ownBlock=some k->v.ownBlock=some k\/w<=k:=by
 have z:=h.1;rcases Nat.lt_or_eq_of_le hi with r|rfl
 .rcases kE h with⟨rfl,rfl,rfl⟩|⟨g,c,B,rfl,E,F,C,D,G⟩
  .omega
  .rcases BT c (n+1) with l|l
   .apply(Tv g n c i d xs a w h s p q j m r l).m;rintro e w' ⟨A,rfl,o,t⟩;exact⟨_,rfl,o,AB t,λk b=>.inr (by simp[Value.ownBlock]at b;omega)⟩
   .apply(Tu g n c i d xs a w h s p q j (λe=>y (by rw[e];rfl)) m r l).m;rintro e w' ⟨rfl,o,x⟩;refine⟨_,rfl,o,x.m (λk b=>.inl (by cases b;rfl)),λk b=>.inl b⟩
 .apply(Zn v i d xs a w h p q j m).m;rintro e w' ⟨v',rfl,f⟩;refine⟨v',rfl,?_,f.fr,f.lies⟩;rw[<-z,BN,List.drop_length,EY];exact f.row
