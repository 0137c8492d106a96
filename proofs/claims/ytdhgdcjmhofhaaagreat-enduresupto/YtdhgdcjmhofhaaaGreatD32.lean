import Derived.Test.YtdhgdcjmhofhaaaGreatD21
import Derived.Test.YtdhgdcjmhofhaaaGreatD29
set_option linter.all false
set_option maxRecDepth 100000
set_option maxHeartbeats 8000000
namespace Go.Proofs.YtdhgdcjmhofhaaaGreat.Tree
open Go.RowKit Pages
def Xc(cs:List Ch):(cs.flatMap Ch.cells).length=cs.length * 3:=by
 induction cs with
 |nil=>rfl
 |cons c cs ih=>rw[AK,jK,ih,jB];simp[Ch.cells];omega
def Ms:∀(cs:List Ch) (i:Nat),(cs.flatMap Ch.cells).take (i * 3)=(cs.take i).flatMap Ch.cells
 |[],i=>by simp
 |c :: cs,0=>by simp
 |c :: cs,i+1=>by
  rw[EQ,AK,AK,<-Ms cs i,List.take_append,CQ (by simp[Ch.cells];omega)];congr 2;simp[Ch.cells];omega
def Mt:∀(cs:List Ch) (i:Nat),(cs.flatMap Ch.cells).drop (i * 3)=(cs.drop i).flatMap Ch.cells
 |[],i=>by simp
 |c :: cs,0=>by simp
 |c :: cs,i+1=>by
  rw[List.drop_succ_cons,AK,<-Mt cs i,List.drop_append,CW (by simp[Ch.cells];omega),jE];congr 1;simp[Ch.cells];omega
def qHx(cs:List Ch):∀u∈cs.flatMap Ch.cells,u.oneCell'=true:=by
 intro u b;have⟨c,_,a⟩:=AX.1 b;simp[Ch.cells]at a;rcases a with rfl|rfl|rfl<;>rfl
def qLw(cs:List Ch)(i c)(hi:i<cs.length):(((cs.flatMap Ch.cells).set (i * 3) (.t c.key)).set (i * 3+1) (.t c.val)).set (i * 3+2) (.bool c.gone)=(cs.set i c).flatMap Ch.cells:=by
 have f:=Xc cs;apply DU;intro a;have b:cs.set i c=cs.take i++c :: cs.drop (i+1):=by rw[LH,AU hi]
 have e:((cs.set i c).flatMap Ch.cells)[a]?=if a<i * 3 then (cs.flatMap Ch.cells)[a]? else if a<i * 3+3 then (Ch.cells c)[a-i * 3]? else (cs.flatMap Ch.cells)[a]?:=by
  rw[b,BV,AK,<-Ms,<-Mt];have d:((cs.flatMap Ch.cells).take (i * 3)).length=i * 3:=by rw[AY];omega
  by_cases h:a<i * 3
  .rw[AU h,BO (by omega),DE,AU h]
  .rw[AR h,BC (by omega),d]
   by_cases h2:a<i * 3+3
   .rw[AU h2,BO (by simp[Ch.cells];omega)]
   .rw[AR h2,BC (by simp[Ch.cells];omega),DX]
    congr 1;simp[Ch.cells];omega
 rw[e];simp only[List.getElem?_set,CL];by_cases h:a<i * 3
 .rw[AU h,AR (by omega),AR (by omega),AR (by omega)]
 .rw[AR h]
  by_cases h2:a<i * 3+3
  .rw[AU h2]
   have:a=i * 3\/a=i * 3+1\/a=i * 3+2:=by omega
   rcases this with rfl|rfl|rfl
   .rw[AR (by omega),AR (by omega),AU rfl,AU (by omega)];simp[Ch.cells]
   .rw[AR (by omega),AU rfl,AU (by omega)];simp[Ch.cells]
   .rw[AU rfl,AU (by omega)];simp[Ch.cells]
  .rw[AR h2,AR (by omega),AR (by omega),AR (by omega)]
def qDp(v cs c w)(h:w.ownsRow 0 101 3 v cs.length (cs.flatMap Ch.cells))(J:cF cs)(al:cs.length<=1000000):
  cL 89 #[v,.agg #[.t c.key,.t c.val,.bool c.gone]] w λe w'=>∃v',e=.r v'/\w'.ownsRow 0 101 3 v' (dG cs c).length ((dG cs c).flatMap Ch.cells)/\Fr (λk=>v.ownBlock=some k) w w'/\∀k,v'.ownBlock=some k->v.ownBlock=some k\/w.heap.size<=k:=by
 obtain⟨l,f,rfl,R,p⟩:=bR h;obtain⟨j,H,q,D,-⟩:=al1 w (.cells #[.t c.key,.t c.val,.bool c.gone] 101);have y:∀k,(Value.slice l cs.length f).ownBlock=some k->k<w.heap.size:=λk b=>aK h b;have m:=lQ l f cs c.key (λk=>(Value.slice l cs.length f).ownBlock=some k) j (p.on (vV q y)) (λk b=>jY (y k b) q.size) J (by omega) R;have⟨a7,a8,a9⟩:=eC D;have F:Hid (∀X,bW j X->X.ownsRow 0 101 3 (.s l cs.length f) cs.length (cs.flatMap Ch.cells)/\cW X w.heap.size #[.t c.key,.t c.val,.bool c.gone] 101/\bW w X):=by
  intro X n;have I:=q.t (n.m q.size);exact⟨aS h (vV I (Y:=λk=>(Value.slice l cs.length f).ownBlock=some k) y) (λk b=>b),(n.block _ ((gL D))).t D,I⟩
 by_cases hf:fnd cs c.key=true
 .have⟨G,_⟩:=tL hf J
  have o:Hid (dG cs c=cs.set (dH cs c.key) c):=by show _=_;unfold dG;rw[AU hf]
  rw[hf]at m;have⟨a,s⟩:=nM (dH cs c.key);rw[s]at m G o;have ak:(a:Int)<(cs.length:Int):=by omega
  rcases jH h with⟨x,ab,ac⟩|⟨g,a6,aa,x,aj,am,ah,ai,an⟩
  .omega
  simp only[AQ,CV]at x;obtain⟨rfl,rfl⟩:=x;go_enter Tryz.func89,Tryz.ntmps89;go_wp2_with (go_at_call 96;apply Calls.m m;rintro e X ⟨rfl,n⟩;have⟨i,E,r⟩:=F X n;have⟨L,M,N⟩:=eC E;have A:=eK i (a * 3) (by omega);have B:=eK i (a * 3+1) (by omega);have C:=eK i (a * 3+2) (by omega);have⟨ar,ao⟩:=BJ.1 A.1;have⟨au,ap⟩:=BJ.1 B.1;have⟨av,aq⟩:=BJ.1 C.1;have ad:=A.2;have ae:=B.2;have af:=C.2;clear A B C);go_ret;have U:=Xc cs;have K:=wY (wY (wY i (a * 3) (by omega) (.t c.key)) (a * 3+1) (by rw[CL];omega) (.t c.val)) (a * 3+2) (by rw[CL,CL];omega) (.bool c.gone);rw[qLw cs a c G]at K;exact⟨_,rfl,by rw[o.o,CL];exact K,(((AB (Y:=λk=>(Value.q g cs.length f).ownBlock=some k) r).s g (a * 3)).s g (a * 3+1)).s g (a * 3+2),λk b=>.inl b⟩
 .have o:Hid (dG cs c=cs.take (dH cs c.key)++c :: cs.drop (dH cs c.key)):=by show _=_;unfold dG;rw[AR hf]
  have S:fnd cs c.key=false:=by simpa using hf
  rw[S]at m;have⟨a,s⟩:=nM (dH cs c.key);have T:a<=cs.length:=s▸uB cs c.key;rw[s]at m o;have U:=Xc cs;go_enter Tryz.func89,Tryz.ntmps89;go_wp2_with (first
   |(go_at_call 96;apply Calls.m m;rintro e X ⟨rfl,n⟩;have⟨i,E,r⟩:=F X n;have⟨L,M,N⟩:=eC E;obtain⟨d,z,t,W,-⟩:=al1 X (.cells #[.t c.key,.t c.val,.bool c.gone] 101);have Q:=Vu (.s l cs.length f) cs.length a X.heap.size (cs.flatMap Ch.cells) (Ch.cells c) d (aS i (vV t (Y:=λk=>(Value.slice l cs.length f).ownBlock=some k) (λk b=>aK i b)) (λk b=>b)) (qHx cs) rfl W (λu a1=>qHx [c] u (by simpa using a1)) (λe=>by have O:=aK i e;omega) (by omega) T)
   |(go_at_call 126;(try rw[z]);apply Calls.m Q;rintro e Z ⟨v',rfl,Y,P,V⟩))
  go_ret;refine⟨_,rfl,?_,((AB r).t (AB t)).t P,λk b=>(V k b).imp id (λh=>by have O:=r.size;have ag:=t.size;omega)⟩;rw[o.o,jK,jB,AY,BE,BV,AK,<-Ms,<-Mt,<-BU];rw[show min a cs.length+(cs.length-a+1)=cs.length+1 by omega];exact Y
