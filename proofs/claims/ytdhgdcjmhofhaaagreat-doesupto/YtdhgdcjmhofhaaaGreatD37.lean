import Derived.Test.YtdhgdcjmhofhaaaGreatD21
import Derived.Test.YtdhgdcjmhofhaaaGreatD32
set_option linter.all false
set_option maxRecDepth 100000
set_option maxHeartbeats 8000000
namespace Go.Proofs.YtdhgdcjmhofhaaaGreat.Tree
open Go.RowKit Pages
theorem Vm(cs:List Ch):(cs.flatMap Ch.cells).length=cs.length * 3:=by
 induction cs with
 |nil=>rfl
 |cons c cs ih=>rw[AJ,jK,ih,jB];simp[Ch.cells];omega
theorem Lg:∀(cs:List Ch) (i:Nat),(cs.flatMap Ch.cells).take (i * 3)=(cs.take i).flatMap Ch.cells
 |[],i=>by simp
 |c :: cs,0=>by simp
 |c :: cs,i+1=>by
  rw[EJ,AJ,AJ,<-Lg cs i,List.take_append,CW (by simp[Ch.cells];omega)];congr 2;simp[Ch.cells];omega
theorem Lh:∀(cs:List Ch) (i:Nat),(cs.flatMap Ch.cells).drop (i * 3)=(cs.drop i).flatMap Ch.cells
 |[],i=>by simp
 |c :: cs,0=>by simp
 |c :: cs,i+1=>by
  rw[List.drop_succ_cons,AJ,<-Lh cs i,List.drop_append,CR (by simp[Ch.cells];omega),jE];congr 1;simp[Ch.cells];omega
theorem qFv(cs:List Ch):∀u∈cs.flatMap Ch.cells,u.oneCell'=true:=by
 intro u b;have⟨c,_,a⟩:=AV.1 b;simp[Ch.cells]at a;rcases a with rfl|rfl|rfl<;>rfl
theorem qJn(cs:List Ch)(i c)(hi:i<cs.length):(((cs.flatMap Ch.cells).set (i * 3) (.string c.key)).set (i * 3+1) (.string c.val)).set (i * 3+2) (.bool c.gone)=(cs.set i c).flatMap Ch.cells:=by
 have f:=Vm cs;apply EH;intro a;have b:cs.set i c=cs.take i++c :: cs.drop (i+1):=by rw[KS,AW hi]
 have e:((cs.set i c).flatMap Ch.cells)[a]?=if a<i * 3 then (cs.flatMap Ch.cells)[a]? else if a<i * 3+3 then (Ch.cells c)[a-i * 3]? else (cs.flatMap Ch.cells)[a]?:=by
  rw[b,BU,AJ,<-Lg,<-Lh];have d:((cs.flatMap Ch.cells).take (i * 3)).length=i * 3:=by rw[AZ];omega
  by_cases h:a<i * 3
  ·rw[AW h,BT (by omega),DS,AW h]
  ·rw[AQ h,BJ (by omega),d]
   by_cases h2:a<i * 3+3
   ·rw[AW h2,BT (by simp[Ch.cells];omega)]
   ·rw[AQ h2,BJ (by simp[Ch.cells];omega),GD]
    congr 1;simp[Ch.cells];omega
 rw[e];simp only[List.getElem?_set,CL];by_cases h:a<i * 3
 ·rw[AW h,AQ (by omega),AQ (by omega),AQ (by omega)]
 ·rw[AQ h]
  by_cases h2:a<i * 3+3
  ·rw[AW h2]
   have:a=i * 3\/a=i * 3+1\/a=i * 3+2:=by omega
   rcases this with rfl|rfl|rfl
   ·rw[AQ (by omega),AQ (by omega),AW rfl,AW (by omega)];simp[Ch.cells]
   ·rw[AQ (by omega),AW rfl,AW (by omega)];simp[Ch.cells]
   ·rw[AW rfl,AW (by omega)];simp[Ch.cells]
  ·rw[AQ h2,AQ (by omega),AQ (by omega),AQ (by omega)]
theorem qBt(v cs c w)(h:w.ownsRow 0 101 3 v cs.length (cs.flatMap Ch.cells))(J:cJ cs)(al:cs.length<=1000000):
  cL 89 #[v,.agg #[.string c.key,.string c.val,.bool c.gone]] w λe w'=>∃v',e=.returned v'/\w'.ownsRow 0 101 3 v' (cW cs c).length ((cW cs c).flatMap Ch.cells)/\Fr (λk=>v.ownBlock=some k) w w'/\∀k,v'.ownBlock=some k->v.ownBlock=some k\/w.heap.size<=k:=by
 obtain⟨l,f,rfl,R,a0⟩:=bR h;obtain⟨j,H,q,D,-⟩:=al1 w (.cells #[.string c.key,.string c.val,.bool c.gone] 101);have y:∀k,(Value.slice l cs.length f).ownBlock=some k->k<w.heap.size:=λk b=>aM h b;have m:=nI l f cs c.key (λk=>(Value.slice l cs.length f).ownBlock=some k) j (a0.on (vV q y)) (λk b=>jY (y k b) q.size) J (by omega) R;have⟨a7,a8,a9⟩:=eQ D;have F:Hid (∀X,bW j X->X.ownsRow 0 101 3 (.slice l cs.length f) cs.length (cs.flatMap Ch.cells)/\X.heap[w.heap.size]?=some (.cells #[.string c.key,.string c.val,.bool c.gone] 101)/\bW w X):=by
  intro X n;have I:=q.trans (n.mono q.size);exact⟨aS h (vV I (Y:=λk=>(Value.slice l cs.length f).ownBlock=some k) y) (λk b=>b),(n.block _ ((gL D))).trans D,I⟩
 by_cases hf:fnd cs c.key=true
 ·have⟨G,_⟩:=uZ hf J
  have o:Hid (cW cs c=cs.set (cZ cs c.key) c):=by show _=_;unfold cW;rw[AW hf]
  rw[hf]at m;have⟨a,s⟩:=nM (cZ cs c.key);rw[s]at m G o;have ak:(a:Int)<(cs.length:Int):=by omega
  rcases gR h with⟨x,ab,ac⟩|⟨g,a6,aa,x,aj,am,ah,ai,an⟩
  ·omega
  simp only[AP,CT]at x;obtain⟨rfl,rfl⟩:=x;go_enter Tryz.func89,Tryz.ntmps89;go_wp2_with (go_at_call 96;(with_reducible apply jC m);rintro e X ⟨rfl,n⟩;have⟨i,E,r⟩:=F X n;have⟨L,M,N⟩:=eQ E;have A:=eH i (a * 3) (by omega);have B:=eH i (a * 3+1) (by omega);have C:=eH i (a * 3+2) (by omega);have⟨ar,ao⟩:=BE.1 A.1;have⟨au,ap⟩:=BE.1 B.1;have⟨av,aq⟩:=BE.1 C.1;have ad:=A.2;have ae:=B.2;have af:=C.2;clear A B C);go_ret;have U:=Vm cs;have a3:=vW (vW i (a * 3) (by omega) (.string c.key)) (a * 3+1) (by rw[CL];omega) (.string c.val);have K:=vW a3 (a * 3+2) (by rw[CL,CL];omega) (.bool c.gone);rw[qJn cs a c G]at K;exact⟨_,rfl,by rw[o.out,CL];exact K,(((AA (Y:=λk=>(Value.q g cs.length f).ownBlock=some k) r).setCell (p:=⟨g,a * 3,none⟩) (.inl rfl) _).setCell (p:=⟨g,a * 3+1,none⟩) (.inl rfl) _).setCell (p:=⟨g,a * 3+2,none⟩) (.inl rfl) _,λk b=>.inl b⟩
 ·have o:Hid (cW cs c=cs.take (cZ cs c.key)++c :: cs.drop (cZ cs c.key)):=by show _=_;unfold cW;rw[AQ hf]
  have S:fnd cs c.key=false:=by simpa using hf
  rw[S]at m;have⟨a,s⟩:=nM (cZ cs c.key);have T:a<=cs.length:=s▸tI cs c.key;rw[s]at m o;have U:=Vm cs;go_enter Tryz.func89,Tryz.ntmps89;go_wp2_with (first
   |(go_at_call 96;(with_reducible apply jC m);rintro e X ⟨rfl,n⟩;have⟨i,E,r⟩:=F X n;have⟨L,M,N⟩:=eQ E;obtain⟨d,z,t,a4,-⟩:=al1 X (.cells #[.string c.key,.string c.val,.bool c.gone] 101);have Q:=Ul (.slice l cs.length f) cs.length a X.heap.size (cs.flatMap Ch.cells) (Ch.cells c) d (aS i (vV t (Y:=λk=>(Value.slice l cs.length f).ownBlock=some k) (λk b=>aM i b)) (λk b=>b)) (qFv cs) rfl a4 (λu a1=>qFv [c] u (by simpa using a1)) (λe=>by have O:=aM i e;omega) (by omega) T)
   |(go_at_call 126;(try rw[z]);(with_reducible apply jC Q);rintro e Z ⟨v',rfl,Y,P,V⟩))
  go_ret;refine⟨_,rfl,?_,((AA r).trans (AA t)).trans P,λk b=>(V k b).imp id (λh=>by have O:=r.size;have ag:=t.size;omega)⟩;rw[o.out,jK,jB,AZ,BH,BU,AJ,<-Lg,<-Lh,<-BX];rw[show min a cs.length+(cs.length-a+1)=cs.length+1 by omega];exact Y
