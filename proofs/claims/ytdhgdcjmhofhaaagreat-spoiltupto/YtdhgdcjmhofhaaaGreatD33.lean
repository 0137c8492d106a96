import Derived.Test.YtdhgdcjmhofhaaaGreatD21
import Derived.Test.YtdhgdcjmhofhaaaGreatD29
set_option linter.all false
set_option maxRecDepth 100000
set_option maxHeartbeats 8000000
namespace Go.Proofs.YtdhgdcjmhofhaaaGreat.Tree
open Go.RowKit Pages Tryz
theorem qAq(cs:List Ch):(cs.flatMap Ch.cells).length=cs * 3:=by
 induction cs with
 |nil=>rfl
 |cons c cs ih=>rw[AK,jK,ih,jB];simp[Ch.cells];omega
theorem Ps:∀(cs:List Ch) (i:Nat),(cs.flatMap Ch.cells).take (i * 3)=(cs.take i).flatMap Ch.cells
 |[],i=>by simp
 |c :: cs,0=>by simp
 |c :: cs,i+1=>by
  rw[EJ,AK,AK,<-Ps cs i,List.take_append,CN (by simp[Ch.cells];omega)];congr 2;simp[Ch.cells];omega
theorem Pt:∀(cs:List Ch) (i:Nat),(cs.flatMap Ch.cells).drop (i * 3)=(cs.drop i).flatMap Ch.cells
 |[],i=>by simp
 |c :: cs,0=>by simp
 |c :: cs,i+1=>by
  rw[List.drop_succ_cons,AK,<-Pt cs i,List.drop_append,CW (by simp[Ch.cells];omega),jE];congr 1;simp[Ch.cells];omega
theorem qMl(cs:List Ch):∀u∈cs.flatMap Ch.cells,u.oneCell'=true:=by
 intro u b;have⟨c,_,a⟩:=AV.1 b;simp[Ch.cells]at a;rcases a with rfl|rfl|rfl<;>rfl
theorem qQy(cs:List Ch)(i c)(hi:i<cs.length):(((cs.flatMap Ch.cells).set (i * 3) (.t c.key)).set (i * 3+1) (.t c.val)).set (i * 3+2) (.bool c.gone)=(cs.set i c).flatMap Ch.cells:=by
 have f:=qAq cs;apply CZ;intro a;have b:cs.set i c=cs.take i++c :: cs.drop (i+1):=by rw[JA,AU hi]
 have e:((cs.set i c).flatMap Ch.cells)[a]?=if a<i * 3 then (cs.flatMap Ch.cells)[a]? else if a<i * 3+3 then (Ch.cells c)[a-i * 3]? else (cs.flatMap Ch.cells)[a]?:=by
  rw[b,BS,AK,<-Ps,<-Pt];have d:((cs.flatMap Ch.cells).take (i * 3)).length=i * 3:=by rw[AX];omega
  by_cases h:a<i * 3
  .rw[AU h,BK ω,DF,AU h]
  .rw[AQ h,AZ ω,d];by_cases h2:a<i * 3+3
   .rw[AU h2,BK (by simp[Ch.cells];omega)]
   .rw[AQ h2,AZ (by simp[Ch.cells];omega),DE];congr 1;simp[Ch.cells];omega
 rw[e];simp only[List.getElem?_set,BQ];by_cases h:a<i * 3
 .rw[AU h,AQ ω,AQ ω,AQ ω]
 .rw[AQ h];by_cases h2:a<i * 3+3
  .rw[AU h2];have:a=i * 3\/a=i * 3+1\/a=i * 3+2:=ω;rcases this with rfl|rfl|rfl
   .rw[AQ ω,AQ ω,AU rfl,AU ω];simp[Ch.cells]
   .rw[AQ ω,AU rfl,AU ω];simp[Ch.cells]
   .rw[AU rfl,AU ω];simp[Ch.cells]
  .rw[AQ h2,AQ ω,AQ ω,AQ ω]
theorem qHu(v cs c w)(h:w.ownsRow 0 101 3 v cs (cs.flatMap Ch.cells))(J:cJ cs)(al:cs.length<=1000000):
  cL 89 #[v,.agg #[.t c.key,.t c.val,.bool c.gone]] w λe w'=>∃v',e=.r v'/\w'.ownsRow 0 101 3 v' (dJ cs c) ((dJ cs c).flatMap Ch.cells)/\Fr (λk=>v.ownBlock=some k) w w'/\∀k,v'.ownBlock=some k->v.ownBlock=some k\/w<=k:=by
 obtain⟨l,f,rfl,R,p⟩:=cA h;obtain⟨j,H,q,D,-⟩:=al1 w (.cells #[.t c.key,.t c.val,.bool c.gone] 101);have y:∀k,(Value.s l cs f).ownBlock=some k->k<w:=λk b=>aL h b;have m:=mG l f cs c.key (λk=>(Value.s l cs f).ownBlock=some k) j (p.on (vV q y)) (λk b=>jY (y k b) q.size) J ω R;have⟨a7,a8,a9⟩:=eM D;have F:Hid (∀X,bW j X->X.ownsRow 0 101 3 (.s l cs f) cs (cs.flatMap Ch.cells)/\cW X w #[.t c.key,.t c.val,.bool c.gone] 101/\bW w X):=by
  intro X n;have I:=q.tm n;exact⟨aS h (vV I (Y:=λk=>(Value.s l cs f).ownBlock=some k) y) (λk b=>b),(n.block _ ((gL D))).t D,I⟩
 by_cases hf:fnd cs c.key=true
 .have⟨G,_⟩:=uV hf J
  have o:Hid (dJ cs c=cs.set (dK cs c.key) c):=by show _=_;unfold dJ;rw[AU hf]
  rw[hf]at m;have⟨a,s⟩:=nM (dK cs c.key);rw[s]at m G o;have ak:(a:Int)<(cs.length:Int):=ω
  rcases kE h with⟨x,ab,ac⟩|⟨g,a6,aa,x,aj,am,ah,ai,an⟩
  .omega
  simp only[AR,CV]at x;obtain⟨rfl,rfl⟩:=x;go_enter func89,ntmps89;go_wp2_with (apply Calls.m m;rintro e X ⟨rfl,n⟩;have⟨i,E,r⟩:=F X n;have⟨L,M,N⟩:=eM E;have A:=fU i (a * 3) ω;have B:=fU i (a * 3+1) ω;have C:=fU i (a * 3+2) ω;have⟨ar,ao⟩:=DO.1 A.1;have⟨au,ap⟩:=DO.1 B.1;have⟨av,aq⟩:=DO.1 C.1;have ad:=A.2;have ae:=B.2;have af:=C.2;clear A B C);go_ret;have U:=qAq cs;have K:=yZ (yZ (yZ i (a * 3) ω (.t c.key)) (a * 3+1) (by rw[BQ];omega) (.t c.val)) (a * 3+2) (by rw[BQ,BQ];omega) (.bool c.gone);rw[qQy cs a c G]at K;exact⟨_,rfl,by rw[o.o,BQ];exact K,(((AB (Y:=λk=>(Value.q g cs f).ownBlock=some k) r).s g (a * 3)).s g (a * 3+1)).s g (a * 3+2),λk b=>.inl b⟩
 .have o:Hid (dJ cs c=cs.take (dK cs c.key)++c :: cs.drop (dK cs c.key)):=by show _=_;unfold dJ;rw[AQ hf]
  have S:=by simpa using hf
  rw[S]at m;have⟨a,s⟩:=nM (dK cs c.key);have T:=s▸vP cs c.key;rw[s]at m o;have U:=qAq cs;go_enter func89,ntmps89;go_wp2_with (first
   |(apply Calls.m m;rintro e X ⟨rfl,n⟩;have⟨i,E,r⟩:=F X n;have⟨L,M,N⟩:=eM E;obtain⟨d,z,t,W,-⟩:=al1 X (.cells #[.t c.key,.t c.val,.bool c.gone] 101);have Q:=Zo (.s l cs f) cs a X (cs.flatMap Ch.cells) (Ch.cells c) d (aS i (vV t (Y:=λk=>(Value.s l cs f).ownBlock=some k) (λk b=>aL i b)) (λk b=>b)) (qMl cs) rfl W (λu a1=>qMl [c] u (by simpa using a1)) (λe=>by have O:=aL i e;omega) ω T)
   |(go_at_call 126;(try rw[z]);apply Calls.m Q;rintro e Z ⟨v',rfl,Y,P,V⟩))
  go_ret;refine⟨_,rfl,?_,((AB r).t (AB t)).t P,λk b=>(V k b).imp id (λh=>by have O:=r.size;have ag:=t.size;omega)⟩;rw[o.o,jK,jB,AX,BJ,BS,AK,<-Ps,<-Pt,<-CA];rw[show min a cs.length+(cs-a+1)=cs.length+1 by omega];exact Y
