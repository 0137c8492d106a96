import Derived.Test.YtdhgdcjmhofhaaaGreatD37
import Derived.Test.YtdhgdcjmhofhaaaGreatD35
set_option linter.all false
set_option maxRecDepth 100000
set_option maxHeartbeats 8000000
namespace Go.Proofs.YtdhgdcjmhofhaaaGreat.Tree
open Go.RowKit Pages
theorem rF{w:World}{β a b c d e f t}(h:w.heap[β]?=some (.cells #[a,b,c,d,e,f] t)):w.c β 0=some a/\w.c β 1=some b/\w.c β 2=some c/\w.c β 3=some d/\w.c β 4=some e/\w.c β 5=some f:=by
 simp[World.cell?,h]
theorem Fh(t β c w)(h:eN w β t)(C:cJ t.cs)(B:t.cs.length<=1000000):
  cL 40 #[.p t.b 0,.agg #[.string c.key,.string c.val,.bool c.gone]] w λe w'=>e=.returned (.tuple #[])/\∃f i,eN w' β {t with cs:=cW t.cs c,ca:=f,cc:=i}/\Fr (fpT t) w w'/\∀k,fpT {t with cs:=cW t.cs c,ca:=f,cc:=i} k->fpT t k\/w.heap.size<=k:=by
 have⟨b,aa,ac,ab,cs,d,g,a2,a9⟩:=t;dsimp only at C B⊢;have⟨m,l,u⟩:=h;dsimp only[Tx.cv,txO]at m l u;obtain⟨j,z,q,x,-⟩:=al1 w (.cells #[.string c.key,.string c.val,.bool c.gone] 101);have M:b<w.heap.size:=(gL m);have A:=(q.block b M).trans m;have R:=aS l (vV q (Y:=λk=>(Value.slice d cs.length g).ownBlock=some k) (λk a=>aM l a)) (λk a=>a);have L:=qBt (.slice d cs.length g) cs c j.drew R C B;have⟨F,G,H⟩:=eQ x;have⟨T,U,V,W,a0,a1⟩:=rF A;have Q:(Value.slice d cs.length g).ownBlock≠some b:=aQ l m (by decide);have E:Hid _:=x;have D:Hid _:=A;have a8:=(gL x);have K:(Value.slice d cs.length g).ownBlock≠some w.heap.size:=λe=>by have:=aM l e;omega
 go_enter Tryz.func40,Tryz.ntmps40;go_wp2;go_region_law (first
  |(go_simp;go_at_call 89;(with_reducible apply jC L);rintro e X ⟨v',rfl,s,J,N⟩;obtain⟨f,i,rfl⟩:=aF s;have r:Fr (λk=>(Value.slice d cs.length g).ownBlock=some k) j X:=(AF _ j).drew.trans J;have n:=r.heap D Q;have⟨F,G,H⟩:=eQ (r.heap E K);have⟨T,U,V,W,a0,a1⟩:=rF n;have a4:=aB n))
 all_goals
  have P:(Value.slice f (cW cs c).length i).ownBlock≠some b:=aQ s n (by decide);have I:=aC n 4 (.slice f (cW cs c).length i);have O:∀k,(Value.slice f (cW cs c).length i).ownBlock=some k->(Value.slice d cs.length g).ownBlock=some k\/w.heap.size<=k:=λk a=>(N k a).imp id (λh=>by have a7:j.heap.size<=k:=h;omega);have y:Fr (λk=>k=b\/(Value.slice d cs.length g).ownBlock=some k) w (X.setCell ⟨b,4,none⟩ (.slice f (cW cs c).length i)):=((AA q).trans (r.mono (λk a=>.inl (.inr a)))).setCell (p:=⟨b,4,none⟩) (.inl (.inl rfl)) _;have S:=u.on (y.on (Z:=λk=>a2=.map (some k)) (λk a=>by
   have⟨a6,a5,o⟩:=u.block a;exact⟨(gL o),λe=>by
    rcases e with e|e
    ·grind
    ·exact sF l o e⟩)) (λk a=>a)
  refine bodyPost_end (v:=.tuple #[]) ?_ rfl ⟨rfl,f,i,⟨by grind,aS s ((CJ (λk=>(Value.slice f (cW cs c).length i).ownBlock=some k) X).setCell (p:=⟨b,4,none⟩) (λa=>P a) _) (λk a=>a),S⟩,y.mono (λk a=>.inl (by rcases a with a|a;exact .inl a;exact .inr (.inl a))),?_⟩
  ·simp[results,Tryz.results40]
  ·rintro k (a|a|a)
   ·exact .inl (.inl a)
   ·exact(O k a).imp (λh=>.inr (.inl h)) id
   ·exact .inl (.inr (.inr a))
theorem eN.remap{w w' β t r ks}(h:eN w β t)(e:t.tk=.map (some r))(d:Tk w' (.map (some r)) ks)(c:Fr (Bl.one r) w w'):eN w' β {t with ks:=ks}:=by
 have⟨i,g,b⟩:=h.tk.block e;refine⟨c.heap h.box (λa=>by simp only[Bl.one]at a;subst a;rw[h.box]at b;cases b),eF h.row c (λj f a=>by simp only[Bl.one]at a;subst a;exact sF h.row b f),by grind⟩
def qX(cs:List Ch)(j:Nat):List ByteArray:=(cs.take j).map (·.key)
theorem zS{cs j}(b:j<cs.length)(a):a∈qX cs (j+1)↔a∈qX cs j\/a=(cs[j]).key:=by
 unfold qX;rw[AK b,BM,AO];simp
theorem qHh(β t)(cs:List Ch)(xa xc S w)(h:eN w β t)(hw:t.wr=true)(hR:aD w S xa (cs.flatMap Ch.cells))(hS:∀k,S k->k<w.heap.size/\k≠t.b/\t.tk≠.map (some k))(hn:cs.length<=1000000):
  cL 95 #[.p t.b 0,.slice xa cs.length xc] w λe w'=>e=.returned (.tuple #[])/\∃r ks,eN w' β {t with tk:=.map (some r),ks:=ks}/\Fr (λk=>k=t.b\/t.tk=.map (some k)) w w'/\(t.tk=.map (some r)\/w.heap.size<=r)/\∀y,y∈ks↔y∈t.ks\/y∈cs.map (·.key):=by
 have⟨q0,q1,q2,q3,q4,q5⟩:=rF h.box;have hfr:=aB h.box;rw[hw]at q1;have qm:∀(W:World) (r:Option Nat),(binOp .eql 92 (.map r) (.map none)).run Tryz.prog W=.ok (.bool r.isNone) W:=λW r=>run_eql_map_nil W _ _ _ r Tryz.underlying92;have hbl:=(gL h.box);have⟨tv,htv⟩:=nM (t.tk);have HTV:Hid (t.tk=tv):=htv;have hTk:=h.tk;rw[htv]at hTk q5;have H:Hid (eN w β t):=h;have HW:Hid (t.wr=true):=hw;have HKS:Hid (∀k,S k->k<w.heap.size/\k≠t.b/\t.tk≠.map (some k)):=hS;clear h hw htv hS;rcases hTk with⟨rfl,hks⟩|⟨r,es,cl,rfl,hb,hm⟩
 ·have HKE:Hid (t.ks=[]):=hks
  clear hks;have HW0:Hid (∀W0,(w.setCell ⟨t.b,5,none⟩ (.map (some w.heap.size))).alloc (.map #[] 0)=W0->eN W0 β {t with tk:=.map (some w.heap.size),ks:=t.ks}/\Fr (λk=>k=t.b\/t.tk=.map (some k)) w W0/\(∀k,S k->k<W0.heap.size/\k≠w.heap.size)/\aD W0 S xa (cs.flatMap Ch.cells)/\(t.tk=.map (some w.heap.size)\/w.heap.size<=w.heap.size)/\w.heap.size<=W0.heap.size):=by
   intro W0 hW0;have F0:Fr (λk=>k=t.b\/t.tk=.map (some k)) w W0:=hW0▸((AF _ w).setCell (p:=⟨t.b,5,none⟩) (.inl (.inl rfl)) _).alloc _;have b2:=aI (.map #[] 0) (aC H.box 5 (.map (some w.heap.size)));have m2:W0.heap[w.heap.size]?=some (.map #[] 0):=by
    have:=aA (w.setCell ⟨t.b,5,none⟩ (.map (some w.heap.size))) (.map #[] 0);simp_all
   refine⟨⟨by grind,eF H.row (Y:=Bl.one t.b) (hW0▸((AF (Bl.one t.b) w).setCell (p:=⟨t.b,5,none⟩) (.inl rfl) _).alloc _) (λk hk e=>by simp only[Bl.one]at e;subst e;exact aQ H.row H.box (by decide) hk),.inr ⟨_,_,_,rfl,m2,by rw[HKE.out];rfl⟩⟩,F0,λk hk=>⟨jY (HKS k hk).1 F0.size,by have:=(HKS k hk).1;omega⟩,hR.on (F0.on (λk hk=>⟨(HKS k hk).1,λe=>e.elim (HKS k hk).2.1 (HKS k hk).2.2⟩)),.inr (jU _),F0.size⟩
  have hmk:(Instr.makeMap 92 none).run Tryz.prog w=.ok (.map (some w.heap.size)) (w.alloc (.map #[] 0)):=by kernel_rfl
  go_enter Tryz.func95,Tryz.ntmps95;go_wp2;have⟨W0,hW0⟩:=nM ((w.setCell ⟨t.b,5,none⟩ (.map (some w.heap.size))).alloc (.map #[] 0));rw[hW0];have⟨hT0,hF0,hS0,hR0,hr0,hz0⟩:=HW0 W0 hW0;have⟨r,hr⟩:∃r,r=w.heap.size:=⟨_,rfl⟩;rw[<-hr]at hT0 hS0 hr0⊢;have HRZ:Hid (t.tk=.map (some r)\/w.heap.size<=r):=.inr (by omega);have HFN:Hid (∀X,Fr (Bl.one r) W0 X->Fr (λk=>k=t.b\/t.tk=.map (some k)) w X):=λX hX=>hF0.grow hX (λk hk=>.inr (by simp only[Bl.one]at hk;omega));clear HW0 hmk q0 q1 q2 q3 q4 q5 hfr hW0 hF0 hr0 hr;go_loopw [22] (λa wr=>∃(j:Nat) (ks:List ByteArray),a=.i j/\j<=cs.length/\eN wr β {t with tk:=.map (some r),ks:=ks}/\Fr (Bl.one r) W0 wr/\Hid (∀y,y∈ks↔y∈t.ks\/y∈qX cs j)) (λa _=>cs.length-(intOf a).toNat)
  case atStart=>exact⟨0,t.ks,rfl,AH _,hT0,AF _ _,λy=>by simp[qX]⟩
  case round =>
   obtain⟨j,ks,rfl,hj,hT,hF,HY⟩:=hrel;clear hT0;by_cases hlt:j<cs.length
   ·have hlti:(j:Int)<(cs.length:Int):=by omega
    have oS:On S W0 wr:=hF.on (λk hk=>⟨(hS0 k hk).1,λe=>by simp only[Bl.one]at e;grind⟩);have⟨rb,ro,hca,hrb,k0,k1,k2⟩:=(hR0.on oS).ch hlt;have⟨c,hcc⟩:=nM (cs[j]);rw[hcc]at k0 k1 k2;obtain⟨W1,hW1,B1,x1,-⟩:=al1 wr (.cells #[.string c.key,.string c.val,.bool c.gone] 101);have hT1:=hT.on (vV B1 hT.lies);have⟨u0,u1,u2,u3,u4,u5⟩:=rF hT1.box;have d0:W1.c wr.heap.size 0=some (.string c.key):=by simp[World.cell?,x1]
    have hTk:Tk W1.drew (.map (some r)) ks:=hT1.tk;have⟨W2,ks2,hup,hTk2,hF2,hY2⟩:=hTk.lay c.key;have F2:Fr (Bl.one r) wr W2:=(AA B1:Fr (Bl.one r) wr W1).trans ((AF (Bl.one r) W1).drew.trans hF2);have hT2:eN W2 β {t with tk:=.map (some r),ks:=ks2}:=eN.remap (t:={t with tk:=.map (some r),ks:=ks}) (ks:=ks2) (hT1.on (CJ _ _).drew) rfl hTk2 hF2;have x2:W2.c wr.heap.size 0=some (.string c.key)/\W2.c t.b 5=some (.map (some r)):=by
     have⟨v0,v1,v2,v3,v4,v5⟩:=rF hT2.box;have hz:wr.heap.size≠r:=λe=>by have⟨es,cl,hb⟩:=hT.tk.block rfl;grind
     have:=hF2.heap (o:=.cells #[.string c.key,.string c.val,.bool c.gone] 101) (k:=wr.heap.size) x1 (λe=>by simp only[Bl.one]at e;exact hz e);exact⟨by simp[World.cell?,this],v5⟩
    have⟨y0,y5⟩:=x2;rw[hca];have HCC:Hid (cs[j]=c):=hcc;have HT2:Hid (eN W2 β {t with tk:=.map (some r),ks:=ks2}):=hT2;have HF2:Hid (Fr (Bl.one r) W0 W2):=hF.trans F2;have HY2:Hid (∀y,y∈ks2↔y∈ks\/y=c.key):=hY2;clear hcc hT hT1 hT2 hTk hTk2 hF2 F2 hY2 u0 u1 u2 u3 u4 oS x1;go_wp2;go_region_held3 (λX=>X.c t.b 5=some (.map (some r))/\X.c wr.heap.size 0=some (.string c.key))
     ((first|(with_reducible exact⟨y5,y0⟩)|simp_all))
     (fail)
    all_goals go_wp2
    all_goals
     refine⟨⟨j+1,ks2,by simp,by omega,HT2,HF2,λy=>?_⟩,by simp[intOf];omega⟩;rw[HY2.out y,HY.out y,zS hlt,HCC.out];grind
   ·obtain rfl:j=cs.length:=by omega
    have hlti:¬(cs.length:Int)<(cs.length:Int):=by omega
    go_wp2;go_end0;exact⟨rfl,r,ks,hT,HFN _ hF,HRZ,λy=>by rw[HY.out y];simp[qX]⟩
 ·have hT0:eN w β {t with tk:=.map (some r),ks:=t.ks}:=⟨by have:=H.box;rw[txO,HTV.out]at this;exact this,H.row,.inr ⟨r,es,cl,rfl,hb,hm⟩⟩
  have hS0:∀k,S k->k<w.heap.size/\k≠r:=λk hk=>⟨(HKS k hk).1,λe=>(HKS k hk).2.2 (by rw[HTV.out,e])⟩;have hR0:=hR;have HRZ:Hid (t.tk=.map (some r)\/w.heap.size<=r):=.inl HTV;have HFW:Hid (∀X,Fr (Bl.one r) w X->Fr (λk=>k=t.b\/t.tk=.map (some k)) w X):=λX hX=>hX.mono (λk hk=>.inl (.inr (by simp only[Bl.one]at hk;rw[HTV.out,hk])));clear hb hm;go_enter Tryz.func95,Tryz.ntmps95;go_wp2;have⟨W0,hW0⟩:∃W0,W0=w:=⟨_,rfl⟩;rw[<-hW0]at hT0 hS0 hR0⊢;have HFN:Hid (∀X,Fr (Bl.one r) W0 X->Fr (λk=>k=t.b\/t.tk=.map (some k)) w X):=by simp_all
  clear q0 q1 q2 q3 q4 q5 hfr hW0;go_loopw [22] (λa wr=>∃(j:Nat) (ks:List ByteArray),a=.i j/\j<=cs.length/\eN wr β {t with tk:=.map (some r),ks:=ks}/\Fr (Bl.one r) W0 wr/\Hid (∀y,y∈ks↔y∈t.ks\/y∈qX cs j)) (λa _=>cs.length-(intOf a).toNat)
  case atStart=>exact⟨0,t.ks,rfl,AH _,hT0,AF _ _,λy=>by simp[qX]⟩
  case round =>
   obtain⟨j,ks,rfl,hj,hT,hF,HY⟩:=hrel;clear hT0;by_cases hlt:j<cs.length
   ·have hlti:(j:Int)<(cs.length:Int):=by omega
    have oS:On S W0 wr:=hF.on (λk hk=>⟨(hS0 k hk).1,λe=>by simp only[Bl.one]at e;grind⟩);have⟨rb,ro,hca,hrb,k0,k1,k2⟩:=(hR0.on oS).ch hlt;have⟨c,hcc⟩:=nM (cs[j]);rw[hcc]at k0 k1 k2;obtain⟨W1,hW1,B1,x1,-⟩:=al1 wr (.cells #[.string c.key,.string c.val,.bool c.gone] 101);have hT1:=hT.on (vV B1 hT.lies);have⟨u0,u1,u2,u3,u4,u5⟩:=rF hT1.box;have d0:W1.c wr.heap.size 0=some (.string c.key):=by simp[World.cell?,x1]
    have hTk:Tk W1.drew (.map (some r)) ks:=hT1.tk;have⟨W2,ks2,hup,hTk2,hF2,hY2⟩:=hTk.lay c.key;have F2:Fr (Bl.one r) wr W2:=(AA B1:Fr (Bl.one r) wr W1).trans ((AF (Bl.one r) W1).drew.trans hF2);have hT2:eN W2 β {t with tk:=.map (some r),ks:=ks2}:=eN.remap (t:={t with tk:=.map (some r),ks:=ks}) (ks:=ks2) (hT1.on (CJ _ _).drew) rfl hTk2 hF2;have x2:W2.c wr.heap.size 0=some (.string c.key)/\W2.c t.b 5=some (.map (some r)):=by
     have⟨v0,v1,v2,v3,v4,v5⟩:=rF hT2.box;have hz:wr.heap.size≠r:=λe=>by have⟨es,cl,hb⟩:=hT.tk.block rfl;grind
     have:=hF2.heap (o:=.cells #[.string c.key,.string c.val,.bool c.gone] 101) (k:=wr.heap.size) x1 (λe=>by simp only[Bl.one]at e;exact hz e);exact⟨by simp[World.cell?,this],v5⟩
    have⟨y0,y5⟩:=x2;rw[hca];have HCC:Hid (cs[j]=c):=hcc;have HT2:Hid (eN W2 β {t with tk:=.map (some r),ks:=ks2}):=hT2;have HF2:Hid (Fr (Bl.one r) W0 W2):=hF.trans F2;have HY2:Hid (∀y,y∈ks2↔y∈ks\/y=c.key):=hY2;clear hcc hT hT1 hT2 hTk hTk2 hF2 F2 hY2 u0 u1 u2 u3 u4 oS x1;go_wp2;go_region_held3 (λX=>X.c t.b 5=some (.map (some r))/\X.c wr.heap.size 0=some (.string c.key))
     ((first|(with_reducible exact⟨y5,y0⟩)|exact⟨u5,d0⟩))
     (fail)
    all_goals go_wp2
    all_goals
     refine⟨⟨j+1,ks2,by simp,by omega,HT2,HF2,λy=>?_⟩,by simp[intOf];omega⟩;rw[HY2.out y,HY.out y,zS hlt,HCC.out];grind
   ·obtain rfl:j=cs.length:=by omega
    have hlti:¬(cs.length:Int)<(cs.length:Int):=by omega
    go_wp2;go_end0;exact⟨rfl,r,ks,hT,HFN _ hF,HRZ,λy=>by rw[HY.out y];simp[qX]⟩
theorem qHi(β t c f d w)(h:eN w β t)(a:t.wr=false):
  cL 95 #[.p t.b 0,.slice c f d] w λe w'=>e=.returned (.tuple #[])/\w'=w:=by
 have⟨g,b,i,j,k,l⟩:=rF h.box;rw[a]at b;go_enter Tryz.func95,Tryz.ntmps95;go_wp2;apply BI (EG rfl _ _ _) rfl;simp
def qBp(t:Tx)(cs:List Ch)(t':Tx):Prop:=∃tk ks,t' = {t with tk:=tk,ks:=ks}/\(t.wr=true->∀y,y∈ks↔y∈t.ks\/y∈cs.map (·.key))
theorem qEj(β t cs b d S w)(h:eN w β t)(g:aD w S b (cs.flatMap Ch.cells))(c:∀k,S k->k<w.heap.size/\¬fpT t k)(j:cs.length<=1000000):
  cL 95 #[.p t.b 0,.slice b cs.length d] w λe w'=>e=.returned (.tuple #[])/\∃t',qBp t cs t'/\eN w' β t'/\Fr (fpT t) w w'/\∀k,fpT t' k->fpT t k\/w.heap.size<=k:=by
 cases hw:t.wr with
 |false =>
  apply(qHi β t b _ d w h hw).mono;rintro e w' ⟨rfl,rfl⟩;exact⟨rfl,t,⟨t.tk,t.ks,rfl,λe=>by grind⟩,h,AF _ _,λk a=>.inl a⟩
 |true =>
  apply(qHh β t cs b d S w h hw g (λk a=>⟨(c k a).1,λe=>(c k a).2 (.inl e),λe=>(c k a).2 (.inr (.inr e))⟩) j).mono;rintro e w' ⟨rfl,r,n,i,f,l,m⟩;refine⟨rfl,_,⟨_,_,rfl,λ_=>m⟩,i,f.mono (λk a=>.inl (a.elim (λh=>.inl h) (λh=>.inr (.inr h)))),?_⟩;rintro k (a|a|a)
  ·exact .inl (.inl a)
  ·exact .inl (.inr (.inl a))
  ·have e:r=k:=by grind
   subst e;exact l.imp (λh=>.inr (.inr h)) id
