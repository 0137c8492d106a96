import Derived.Test.YtdhgdcjmhofhaaaGreatD46
set_option linter.all false
set_option maxRecDepth 100000
set_option maxHeartbeats 8000000
namespace Go.Proofs.YtdhgdcjmhofhaaaGreat.Tree
open Go.RowKit Pages
variable {K:Bl} {q:Nat} {w:World}
theorem qCu:∀(a:List RT) (j:Nat) (t t':RT),a[j]?=some t->t'.num=t.num->t'.wr=t.wr->t'.vb=t.vb->t'.bv=t.bv->t'.vo=t.vo->((a.flatMap RT.cells).set (j * 7+4) t'.vl).set (j * 7+5) t'.vc=(a.set j t').flatMap RT.cells
 |[],_,_,_,h,_,_,_,_,_=>by simp at h
 |x :: a,0,t,t',h,h1,h2,h3,h4,h5=>by
  have:x=t:=by simpa using h
  subst this;simp[RT.cells,h1,h2,h3,h4,h5]
 |x :: a,j+1,t,t',h,h1,h2,h3,h4,h5=>by
  rw[jX,AJ,AJ,<-(qCu a j t t' (by simpa using h) h1 h2 h3 h4 h5)];have c:∀b,(j+1) * 7+b=(RT.cells x).length+(j * 7+b):=λb=>by simp;omega
  rw[c 4,c 5,ES _ _ (by omega),ES _ _ (by omega)];simp
theorem aZ.retx {w w' M}(h:aZ w K q M){j t t'}(E:M.ts[j]?=some t){g c}(e:M.ov=.q g M.ts.length c){K'}(y:∀k,K' k->K k\/w.heap.size<=k)(u:∀k,K k->K' k)(x:Fr (λk=>k=g\/fpX t k) w w')(R:w'.ownsRow 0 119 7 M.ov M.ts.length ((M.ts.set j t').flatMap RT.cells))(I:TxR w' K' t')(S:∀k,fpX t' k->fpX t k\/w.heap.size<=k)(H:∀k,K' k->k<w'.heap.size)(T:∀k,fpX t' k->¬K' k):aZ w' K' q {M with ts:=M.ts.set j t'}:=by
 have⟨F,N⟩:=AD.1 E;have G:=BL E;have r:M.ov.ownBlock=some g:=by rw[e];rfl
 have V:=aM h.row r;have W:=(gL h.box);have Q:∀s∈M.ts,¬fpX s q:=λs o d=>d.elim (aQ (h.each s o).ch h.box (by decide)) (aQ (h.each s o).oth h.box (by decide));have L:∀s∈M.ts,¬fpX s g:=λs o d=>by
  rcases d with d|d
  ·rcases dJ (h.each s o).ch h.row (by decide) with f|f
   ·rw[f]at d;cases d
   ·exact f (d.trans r.symm)
  ·rcases dJ (h.each s o).oth h.row (by decide) with f|f
   ·rw[f]at d;cases d
   ·exact f (d.trans r.symm)
 have P:q≠g:=λe=>aQ h.row h.box (by decide) (r.trans (by rw[e]));have B:=x.on (λk d=>⟨(h.kp k d).1,λp=>by
  rcases p with rfl|p
  ·exact(h.kp k d).2.2.1 r
  ·exact(h.kp k d).2.2.2 t G p⟩)
 have C:∀m (i:m<M.ts.length),m≠j->∀k,fpX M.ts[m] k->¬fpX t k:=λm i v k d l=>by
  subst N;rcases BS m j with O|U
  ·exact BB.1 h.apart m j i F O k d l
  ·exact BB.1 h.apart j m F i (by omega) k l d
 have D:∀m (i:m<M.ts.length),m≠j->∀k,fpX M.ts[m] k->¬fpX t' k:=λm i v k d l=>by
  rcases S k l with f|f
  ·exact C m i v k d f
  ·have:=(h.each _ (AB i)).lies k d;omega
 refine⟨x.heap h.box (λp=>p.elim P (Q t G)),by rw[CL];exact R,(h.now.on B).mono u,(h.ah.on B).mono u,λs o=>?_,?_,λk d=>⟨H k d,?_,?_,λs o=>?_⟩⟩
 ·obtain⟨m,i,rfl⟩:=AU o
  simp only[CL]at i;rw[DP];split
  ·exact I
  ·rename_i v
   have f:=h.each _ (AB i);have n:=f.on B (x.on (λk d=>⟨f.lies k d,λp=>by
    rcases p with rfl|p
    ·exact L _ (AB i) d
    ·exact C m i (λe=>v e.symm) k d p⟩))
   exact⟨n.bg.mono u,n.l.mono u,n.ch,n.oth⟩
 ·refine BB.2 (λa b z A J k d l=>?_)
  simp only[CL]at z A;simp only[DP]at d l;split at d
  ·split at l
   ·omega
   ·rename_i f n;exact D b A (λe=>n e.symm) k l d
  ·split at l
   ·rename_i f n;exact D a z (λe=>f e.symm) k d l
   ·exact BB.1 h.apart a b z A J k d l
 ·rcases y k d with f|f
  ·exact(h.kp k f).2.1
  ·omega
 ·rcases y k d with f|f
  ·exact(h.kp k f).2.2.1
  ·intro n;have:k=g:=by rw[show({M with ts:=M.ts.set j t'}:RM).ov=M.ov from rfl,r]at n;simpa using n.symm
   omega
 ·obtain⟨m,i,rfl⟩:=AU o
  simp only[CL]at i;rw[DP];split
  ·exact λl=>T k l d
  ·intro l
   rcases y k d with f|f
   ·exact(h.kp k f).2.2.2 _ (AB i) l
   ·have:=(h.each _ (AB i)).lies k l;omega
theorem Xp:(Tryz.prog.info? 131).map (λi=>(i.zero,i.size,i.bytes))=some (some (.agg #[.string ⟨#[]⟩,.string ⟨#[]⟩,.bool false]),3,40):=by kernel_rfl
def RT.changed(t:RT)(c:Ch)(v vc:Value):RT:={t with l:=eE t.l c,vl:=v,ch:=t.ch++[c],vc:=vc}
theorem aZ.change {w A E X3 r M}(h:aZ w K q M){j t}(I:M.ts[j]?=some t){g c}(e:M.ov=.q g M.ts.length c)(d f u)(G:bW w A)(ab:A.ownsRow 0 71 2 f (eE t.l d).length (aG (eE t.l d)))(P:∀k,f.ownBlock=some k->w.heap.size<=k)(a2:E=A.setCell ⟨g,j * 7+4,none⟩ f)(D:fB 131 3 t.vc t.ch.length (t.ch.flatMap Ch.cells) d.cells 1 E u X3)(a3:r=X3.setCell ⟨g,j * 7+5,none⟩ u):
  ∃K',aZ r K' q {M with ts:=M.ts.set j (t.changed d f u)}/\Fr (fpR q M) w r/\∀k,Bl.or K' (fpR q {M with ts:=M.ts.set j (t.changed d f u)}) k->Bl.or K (fpR q M) k\/w.heap.size<=k:=by
 obtain⟨ah,_⟩:=AD.1 I;have B:=BL I;have m:=h.each t B;have J:M.ov.ownBlock=some g:=by rw[e];rfl
 have ag:g<w.heap.size:=aM h.row J;have aj:=G.size;have ai:(M.ts.flatMap RT.cells).length=M.ts.length * 7:=h.row.1;have V:∀{X:World}{i:TypeId}{z n:Nat}{v:Value}{y:List Value},X.ownsRow 0 i z v n y->X.ownsRow 0 119 7 M.ov M.ts.length (M.ts.flatMap RT.cells)\/(∃L,X.ownsRow 0 119 7 M.ov M.ts.length L)->i≠119->∀k,v.ownBlock=some k->k≠g:=λ{X i z n v y} x Q H k a l=>by
  obtain⟨L,Q⟩:∃L,X.ownsRow 0 119 7 M.ov M.ts.length L:=Q.elim (λh=>⟨_,h⟩) id;rcases dJ x Q H with b|b
  ·rw[b]at a;cases a
  ·exact b (by rw[a,J,l])
 have a7:A.ownsRow 0 119 7 M.ov M.ts.length (M.ts.flatMap RT.cells):=aS h.row (vV (Y:=λk=>k<w.heap.size) G (λk a=>a)) (λk a=>aM h.row a);have N:Fr (Bl.one g) A E:=a2▸(AF (Bl.one g) A).setCell (p:=⟨g,j * 7+4,none⟩) (.inl rfl) _;have a8:E.ownsRow 0 119 7 M.ov M.ts.length ((M.ts.flatMap RT.cells).set (j * 7+4) f):=by
  have:=dI (e▸a7) (j * 7+4) (by omega) f;rw[a2,e];exact this
 have U:∀{i:TypeId}{z n:Nat}{v:Value}{y:List Value},A.ownsRow 0 i z v n y->i≠119->E.ownsRow 0 i z v n y:=λx H=>aS x (N.on (Z:=λk=>_=some k) (λk a=>⟨aM x a,λl=>V x (.inl a7) H k a l⟩)) (λk a=>a);have aa:=U ab (by decide);have v3:=D.keeps aa (dJ aa (D.row |> λ_=>U (aS m.ch (vV (Y:=λk=>k<w.heap.size) G (λk a=>a)) (λk a=>aM m.ch a)) (by decide)) (by decide));have a9:X3.ownsRow 0 119 7 M.ov M.ts.length ((M.ts.flatMap RT.cells).set (j * 7+4) f):=D.keeps a8 (dJ a8 (U (aS m.ch (vV (Y:=λk=>k<w.heap.size) G (λk a=>a)) (λk a=>aM m.ch a)) (by decide)) (by decide));have a4:Fr (Bl.one g) X3 r:=a3▸(AF (Bl.one g) X3).setCell (p:=⟨g,j * 7+5,none⟩) (.inl rfl) _;have ae:r.ownsRow 0 119 7 M.ov M.ts.length ((M.ts.set j (t.changed d f u)).flatMap RT.cells):=by
  have:=dI (e▸a9) (j * 7+5) (by rw[CL];omega) u;rw[a3,e,<-qCu M.ts j t (t.changed d f u) I rfl rfl rfl rfl rfl];exact this
 have a6:∀{i:TypeId}{z n:Nat}{v:Value}{y:List Value},X3.ownsRow 0 i z v n y->i≠119->r.ownsRow 0 i z v n y:=λx H=>aS x (a4.on (Z:=λk=>_=some k) (λk a=>⟨aM x a,λl=>V x (.inr ⟨_,a9⟩) H k a l⟩)) (λk a=>a);have W:=a6 v3 (by decide);have a1:=a6 D.row (by decide);have a0:Fr (λk=>k=g\/t.vc.ownBlock=some k) w r:=(((AA G).trans (N.mono (λk a=>.inl (.inl a)))).trans (D.fr.mono (λk a=>.inl (.inr a)))).trans (a4.mono (λk a=>.inl (.inl a)));have F:Fr (λk=>k=g\/fpX t k) w r:=a0.mono (λk a=>.inl (a.imp id .inl));have ac:r.ownsRow 0 9 1 t.vo t.oth.length (t.oth.map .string):=aS m.oth (a0.on (Z:=λk=>t.vo.ownBlock=some k) (λk a=>⟨aM m.oth a,λC=>by
  rcases C with l|C
  ·exact V m.oth (.inl h.row) (by decide) k a l
  ·rcases dJ m.oth m.ch (by decide) with b|b
   ·rw[b]at a;cases a
   ·exact b (a.trans C.symm)⟩)) (λk a=>a)
 have ad:On K w r:=F.on (λk a=>⟨(h.kp k a).1,λC=>by
  rcases C with l|C
  ·exact(h.kp k a).2.2.1 (by rw[J,l])
  ·exact(h.kp k a).2.2.2 t B C⟩)
 have T:∀k,u.ownBlock=some k->t.vc.ownBlock=some k\/w.heap.size<=k:=λk a=>(D.lies k a).imp id (λa5=>by have:=N.size;omega);have R:=h.retx (t':=t.changed d f u) (K':=λk=>K k\/f.ownBlock=some k) I e (λk a=>a.imp id (P k)) (λk a=>.inl a) F ae
  ⟨(m.bg.on ad).mono (λk a=>.inl a),(KM W).mono (λk a=>.inr a),by simpa[RT.changed] using a1,ac⟩
  (λk a=>by
   rcases a with a|a
   ·exact(T k a).imp .inl id
   ·exact .inl (.inr a))
  (λk a=>by
   rcases a with a|a
   ·have:=(h.kp k a).1;have:=F.size;omega
   ·exact aM W a)
  (λk a o=>by
   rcases a with a|a
   ·rcases o with o|o
    ·rcases T k a with b|b
     ·exact(h.kp k o).2.2.2 t B (.inl b)
     ·have:=(h.kp k o).1;omega
    ·have O:u.ownBlock=some k:=a
     rcases dJ a1 W (by decide) with b|b
     ·rw[b]at O;cases O
     ·exact b (O.trans o.symm)
   ·rcases o with o|o
    ·exact(h.kp k o).2.2.2 t B (.inr a)
    ·have b:=P k o;have af:=aM m.oth (show t.vo.ownBlock=some k from a);omega)
 refine⟨_,R,F.mono (λk a=>.inl ?_),λk a=>?_⟩
 ·rcases a with l|a
  ·exact .inr (.inl (by rw[J,l]))
  ·exact .inr (.inr ⟨t,B,a⟩)
 ·rcases a with(a|a)|rfl|a|⟨s,S,a⟩
  ·exact .inl (.inl a)
  ·exact .inr (P k a)
  ·exact .inl (.inr (.inl rfl))
  ·exact .inl (.inr (.inr (.inl a)))
  ·rcases EA S with S|rfl
   ·exact .inl (.inr (.inr (.inr ⟨s,S,a⟩)))
   ·rcases a with a|a
    ·exact(T k a).imp (λa5=>.inr (.inr (.inr ⟨t,B,.inl a5⟩))) id
    ·exact .inl (.inr (.inr (.inr ⟨t,B,.inr a⟩)))
def lU(o:Option (Nat×RT))(key val:ByteArray):Int:=if bU o≠0 then bU o else if (1<=key.size/\key.size<=24)/\val.size<=400 then 0 else 1
theorem qCx {M}(h:aZ w K q M)(x key a j t)(P:cC M.ts x (some (j,t)))(al:M.ts.length<=8)(aj:t.l.length<=1000000)(b3:t.ch.length<=1000000)(u:t.wr=true)(f:1<=key.size/\key.size<=24)(am:a.size<=400):
  cL 25 #[.p q 2,.i x,.string key,.string a] w λe w'=>e=.returned (.i 0)/\∃K' v y,aZ w' K' q {M with ts:=M.ts.set j (t.changed ⟨key,a,false⟩ v y)}/\Fr (fpR q M) w w'/\∀k,Bl.or K' (fpR q {M with ts:=M.ts.set j (t.changed ⟨key,a,false⟩ v y)}) k->Bl.or K (fpR q M) k\/w.heap.size<=k:=by
 have T:=gI h P al w (AC _ _);have I:=kM h x _ P;rw[show bU (some (j,t))=0 by simp[bU,u]]at I;have U:=qY key w;have V:=wI a w;rw[DM f]at U;rw[DM am]at V;have o:=P.1;have b4:=(AD.1 o).1;have s:=BL o;have⟨g,c,e,b2,aq,ar,au,av,ac,ad,aw⟩:=h.tx o;have ab:=(dL h.box).2.2.2.2.2.2.1;rw[e]at ab;have W:=Hk t.vl t.l key a K w (h.each t s).l (λk f=>(h.kp k f).1) aj;have⟨an,ao,a2,_⟩:=(h.each t s).l;rw[a2]at ac W;have⟨l,m,F⟩:=aF (h.each t s).ch;have ah:=(h.each t s).ch;rw[F]at ad ah;have b5:¬(j:Int)<0:=by omega
 have a4:Hid (∀X,bW w X->(∃Q,X.heap[g]?=some (.cells Q 119))/\X.cell? ⟨g,j * 7+4,none⟩=some (.slice an t.l.length ao)/\X.cell? ⟨g,j * 7+5,none⟩=some (.slice l t.ch.length m)/\X.ownsRow 0 131 3 (.slice l t.ch.length m) t.ch.length (t.ch.flatMap Ch.cells)):=λX ag=>by
  have J:=h.below ag;have⟨ax,ap,H,_,_,_,_,_,G,D,_⟩:=J.tx o;rw[e]at H;simp only[AP,AX,CA,DA,CT]at H;obtain⟨rfl,rfl⟩:=H;rw[a2]at G;rw[F]at D;have a0:=J.row;rw[e]at a0;have Y:=(J.each t s).ch;rw[F]at Y;exact⟨kO a0,G,D,Y⟩
 have a5:Hid (∀(b d X3 B:World) (i z:Value),bW w b->b.ownsRow 0 71 2 i (nJ t.l key a).length (aG (nJ t.l key a))->(∀k,i.ownBlock=some k->w.heap.size<=k)->d=b.setCell ⟨g,j * 7+4,none⟩ i->fB 131 3 (.slice l t.ch.length m) t.ch.length (t.ch.flatMap Ch.cells) [.string key,.string a,.bool false] 1 d z X3->B=X3.setCell ⟨g,j * 7+5,none⟩ z->∃K' v y,aZ B K' q {M with ts:=M.ts.set j (t.changed ⟨key,a,false⟩ v y)}/\Fr (fpR q M) w B/\∀k,Bl.or K' (fpR q {M with ts:=M.ts.set j (t.changed ⟨key,a,false⟩ v y)}) k->Bl.or K (fpR q M) k\/w.heap.size<=k):=λb d X3 B i z C a6 a7 a8 a9 aa=>by
  have⟨K',r⟩:=h.change o e ⟨key,a,false⟩ i z C a6 a7 a8 (by rw[F];exact a9) aa;exact⟨K',i,z,r⟩
 go_enter Tryz.func25,Tryz.ntmps25;simp only[iP]at T I;go_wp2_with (first
  |(go_at_call 66;(with_reducible apply jC T);rintro e w' ⟨rfl,u⟩;subst w')
  |(go_at_call 67;(with_reducible apply jC I);rintro e w' ⟨rfl,u⟩;subst w')
  |(go_at_call 68;(with_reducible apply jC U);rintro e w' ⟨rfl,u⟩;subst w')
  |(go_at_call 69;(with_reducible apply jC V);rintro e w' ⟨rfl,u⟩;subst w')
  |(go_at_call 70;(with_reducible apply jC W);rintro e b ⟨i,rfl,a1,S,ak⟩;have⟨⟨Q,O⟩,G,D,L⟩:=a4 b S;obtain⟨C,a3,rfl⟩:=aF a1;have az:=aB O;have⟨d,E⟩:=nM (b.setCell ⟨g,j * 7+4,none⟩ (.slice C (nJ t.l key a).length a3));have af:Fr (Bl.one g) b d:=E▸(AF (Bl.one g) b).setCell (p:=⟨g,j * 7+4,none⟩) (.inl rfl) _;have ae:d.cell? ⟨g,j * 7+5,none⟩=some (.slice l t.ch.length m):=(by rw[<-E,EC _ _ _ _ (by simp)];exact D);have N:=aS L (af.on (Z:=λk=>(Value.slice l t.ch.length m).ownBlock=some k) (λk f=>⟨aM L f,λR=>by simp only[Bl.one]at R;subst R;exact aQ L O (by decide) f⟩)) (λk f=>f);have n:=aC O (j * 7+4) (.slice C (nJ t.l key a).length a3);rw[E]at n)
  |(at_builtin;apply fK d rfl (.tmp 55) (.tmp 59) 117 131 _ 3 40 rfl Tryz.underlying117 Xp rfl (by decide) (.slice l t.ch.length m) t.ch.length (t.ch.flatMap Ch.cells) rfl N [.string key,.string a,.bool false] rfl rfl (by simp[Value.oneCell']) (by omega) (by omega);intro v3 X3 A;obtain⟨ay,b6,rfl⟩:=A.shape (by decide);have b1:=(A.fr.cell (gL n) (aQ N n (by decide))).trans ae;have b0:=aB (A.fr.heap n (aQ N n (by decide)))))
 go_ret;exact⟨rfl,a5 b d X3 _ _ _ S a1 ak E.symm A rfl⟩
theorem qCw {M}(h:aZ w K q M)(x key b o)(m:cC M.ts x o)(p:M.ts.length<=8)(n:lU o key b≠0):
  cL 25 #[.p q 2,.i x,.string key,.string b] w λe w'=>e=.returned (.i (lU o key b))/\w'=w:=by
 have k:=gI h m p w (AC _ _)
 have j:=kM h x o m
 have d:=qY key w
 have f:=wI b w
 have c:Hid (lU o key b=if bU o≠0 then bU o else if (1<=key.size/\key.size<=24)/\b.size<=400 then 0 else 1):=rfl
 generalize lU o key b=za at c n⊢
 generalize bU o=z at j c
 generalize iP o=i at k j
 by_cases hzz:z=0
 ·have r:(z != 0)=false:=by simp[hzz]
  by_cases hk:1<=key.size/\key.size<=24
  ·have l:¬b.size<=400:=λl=>n (by rw[c.out,AQ (λh=>h hzz),AW ⟨hk,l⟩])
   rw[DM hk]at d
   rw[FH l]at f
   have g:Hid (za=1):=by show _=_;rw[c.out,AQ (λh=>h hzz),AQ (λh=>l h.2)]
   go_enter Tryz.func25,Tryz.ntmps25
   go_wp2_with (first
   |(go_at_call 66;(with_reducible apply jC k);rintro e w' ⟨rfl,a⟩;subst w')
   |(go_at_call 67;(with_reducible apply jC j);rintro e w' ⟨rfl,a⟩;subst w')
   |(go_at_call 68;(with_reducible apply jC d);rintro e w' ⟨rfl,a⟩;subst w')
   |(go_at_call 69;(with_reducible apply jC f);rintro e w' ⟨rfl,a⟩;subst w'))
   go_ret
   exact⟨by rw[g.out];rfl,rfl⟩
  ·rw[FH hk]at d
   have g:Hid (za=1):=by show _=_;rw[c.out,AQ (λh=>h hzz),AQ (λh=>hk h.1)]
   generalize decide (b.size<=400)=vb at f
   go_enter Tryz.func25,Tryz.ntmps25
   go_wp2_with (first
   |(go_at_call 66;(with_reducible apply jC k);rintro e w' ⟨rfl,a⟩;subst w')
   |(go_at_call 67;(with_reducible apply jC j);rintro e w' ⟨rfl,a⟩;subst w')
   |(go_at_call 68;(with_reducible apply jC d);rintro e w' ⟨rfl,a⟩;subst w')
   |(go_at_call 69;(with_reducible apply jC f);rintro e w' ⟨rfl,a⟩;subst w'))
   go_ret
   exact⟨by rw[g.out];rfl,rfl⟩
 ·have r:(z != 0)=true:=by simpa using hzz
  have g:Hid (za=z):=by show _=_;rw[c.out,AW hzz]
  generalize decide (b.size<=400)=vb at f
  generalize decide (1<=key.size/\key.size<=24)=kb at d
  go_enter Tryz.func25,Tryz.ntmps25
  go_wp2_with (first
   |(go_at_call 66;(with_reducible apply jC k);rintro e w' ⟨rfl,a⟩;subst w')
   |(go_at_call 67;(with_reducible apply jC j);rintro e w' ⟨rfl,a⟩;subst w')
   |(go_at_call 68;(with_reducible apply jC d);rintro e w' ⟨rfl,a⟩;subst w')
   |(go_at_call 69;(with_reducible apply jC f);rintro e w' ⟨rfl,a⟩;subst w'))
  go_ret
  exact⟨by rw[g.out];rfl,rfl⟩
theorem qDb {M}(h:aZ w K q M)(x key j t)(D:cC M.ts x (some (j,t)))(W:M.ts.length<=8)(ak:t.l.length<=1000000)(b3:t.ch.length<=1000000)(F:t.wr=true)(d:1<=key.size/\key.size<=24)(a3)(ai:rO t.l key=some a3)(am:∀t∈M.ts,t.l.length<=1000000):
  cL 73 #[.p q 2,.i x,.string key] w λe w'=>e=.returned (.i 0)/\∃K' v s,aZ w' K' q {M with ts:=M.ts.set j (t.changed ⟨key,⟨#[]⟩,true⟩ v s)}/\Fr (fpR q M) w w'/\∀k,Bl.or K' (fpR q {M with ts:=M.ts.set j (t.changed ⟨key,⟨#[]⟩,true⟩ v s)}) k->Bl.or K (fpR q M) k\/w.heap.size<=k:=by
 have S:=gI h D W w (AC _ _);have I:=kM h x _ D;rw[show bU (some (j,t))=0 by simp[bU,F]]at I;have T:=Cr h x key _ D W am;rw[show eR (some (j,t)) key=(a3,0) by simp only[eR];rw[AW d,ai]]at T;have n:=D.1;have b4:=(AD.1 n).1;have o:=BL n;have⟨g,c,e,b2,aq,ar,au,av,ac,ad,aw⟩:=h.tx n;have ab:=(dL h.box).2.2.2.2.2.2.1;rw[e]at ab;have U:=Wu t.vl t.l key K w (h.each t o).l (λk d=>(h.kp k d).1) ak;have⟨an,ao,a1,_⟩:=(h.each t o).l;rw[a1]at ac U;have⟨i,l,E⟩:=aF (h.each t o).ch;have ah:=(h.each t o).ch;rw[E]at ad ah;have b5:¬(j:Int)<0:=by omega
 have a4:Hid (∀X,bW w X->(∃P,X.heap[g]?=some (.cells P 119))/\X.cell? ⟨g,j * 7+4,none⟩=some (.slice an t.l.length ao)/\X.cell? ⟨g,j * 7+5,none⟩=some (.slice i t.ch.length l)/\X.ownsRow 0 131 3 (.slice i t.ch.length l) t.ch.length (t.ch.flatMap Ch.cells)):=λX ag=>by
  have J:=h.below ag;have⟨ax,ap,H,_,_,_,_,_,G,B,_⟩:=J.tx n;rw[e]at H;simp only[AP,AX,CA,DA,CT]at H;obtain⟨rfl,rfl⟩:=H;rw[a1]at G;rw[E]at B;have Y:=J.row;rw[e]at Y;have V:=(J.each t o).ch;rw[E]at V;exact⟨kO Y,G,B,V⟩
 have a5:Hid (∀(a b X3 z:World) (f u:Value),bW w a->a.ownsRow 0 71 2 f (rwo t.l key).length (aG (rwo t.l key))->(∀k,f.ownBlock=some k->w.heap.size<=k)->b=a.setCell ⟨g,j * 7+4,none⟩ f->fB 131 3 (.slice i t.ch.length l) t.ch.length (t.ch.flatMap Ch.cells) [.string key,.string ⟨#[]⟩,.bool true] 1 b u X3->z=X3.setCell ⟨g,j * 7+5,none⟩ u->∃K' v s,aZ z K' q {M with ts:=M.ts.set j (t.changed ⟨key,⟨#[]⟩,true⟩ v s)}/\Fr (fpR q M) w z/\∀k,Bl.or K' (fpR q {M with ts:=M.ts.set j (t.changed ⟨key,⟨#[]⟩,true⟩ v s)}) k->Bl.or K (fpR q M) k\/w.heap.size<=k):=λa b X3 z f u A a6 a7 a8 a9 aa=>by
  have⟨K',r⟩:=h.change n e ⟨key,⟨#[]⟩,true⟩ f u A a6 a7 a8 (by rw[E];exact a9) aa;exact⟨K',f,u,r⟩
 go_enter Tryz.func73,Tryz.ntmps73;simp only[iP]at S I;go_wp2_with (first
  |(go_at_call 66;(with_reducible apply jC S);rintro e w' ⟨rfl,F⟩;subst w')
  |(go_at_call 67;(with_reducible apply jC I);rintro e w' ⟨rfl,F⟩;subst w')
  |(go_at_call 59;(with_reducible apply jC T);rintro e w' ⟨rfl,F⟩;subst w')
  |(go_at_call 108;(with_reducible apply jC U);rintro e a ⟨f,rfl,a0,R,al⟩;have⟨⟨P,O⟩,G,B,L⟩:=a4 a R;obtain⟨A,a2,rfl⟩:=aF a0;have az:=aB O;have⟨b,C⟩:=nM (a.setCell ⟨g,j * 7+4,none⟩ (.slice A (rwo t.l key).length a2));have af:Fr (Bl.one g) a b:=C▸(AF (Bl.one g) a).setCell (p:=⟨g,j * 7+4,none⟩) (.inl rfl) _;have ae:b.cell? ⟨g,j * 7+5,none⟩=some (.slice i t.ch.length l):=(by rw[<-C,EC _ _ _ _ (by simp)];exact B);have N:=aS L (af.on (Z:=λk=>(Value.slice i t.ch.length l).ownBlock=some k) (λk d=>⟨aM L d,λQ=>by simp only[Bl.one]at Q;subst Q;exact aQ L O (by decide) d⟩)) (λk d=>d);have m:=aC O (j * 7+4) (.slice A (rwo t.l key).length a2);rw[C]at m)
  |(at_builtin;apply fK b rfl (.tmp 50) (.tmp 53) 117 131 _ 3 40 rfl Tryz.underlying117 Xp rfl (by decide) (.slice i t.ch.length l) t.ch.length (t.ch.flatMap Ch.cells) rfl N [.string key,.string ⟨#[]⟩,.bool true] rfl rfl (by simp[Value.oneCell']) (by omega) (by omega);intro v3 X3 y;obtain⟨ay,b6,rfl⟩:=y.shape (by decide);have b1:=(y.fr.cell (gL m) (aQ N m (by decide))).trans ae;have b0:=aB (y.fr.heap m (aQ N m (by decide)))))
 go_ret;exact⟨rfl,a5 a b X3 _ _ _ R a0 al C.symm y rfl⟩
def iW(o:Option (Nat×RT))(key:ByteArray):Int:=if bU o≠0 then bU o else (eR o key).2
theorem qDa {M}(h:aZ w K q M)(x key o)(j:cC M.ts x o)(l:M.ts.length<=8)(m:∀t∈M.ts,t.l.length<=1000000)(k:iW o key≠0):
  cL 73 #[.p q 2,.i x,.string key] w λe w'=>e=.returned (.i (iW o key))/\w'=w:=by
 have g:=gI h j l w (AC _ _)
 have d:=kM h x o j
 have f:=Cr h x key o j l m
 have a:Hid (iW o key=if bU o≠0 then bU o else (eR o key).2):=rfl
 generalize iW o key=za at a k⊢
 generalize bU o=z at d a
 generalize iP o=i at g d
 generalize (eR o key).1=gv at f
 generalize (eR o key).2=gz at f a
 by_cases hzz:z=0
 ·have n:(z != 0)=false:=by simp[hzz]
  have c:Hid (za=gz):=by show _=_;rw[a.out,AQ (λh=>h hzz)]
  have p:(gz != 0)=true:=by rw[c.out]at k;simpa using k
  go_enter Tryz.func73,Tryz.ntmps73
  go_wp2_with (first
   |(go_at_call 66;(with_reducible apply jC g);rintro e w' ⟨rfl,b⟩;subst w')
   |(go_at_call 67;(with_reducible apply jC d);rintro e w' ⟨rfl,b⟩;subst w')
   |(go_at_call 59;(with_reducible apply jC f);rintro e w' ⟨rfl,b⟩;subst w'))
  go_ret
  exact⟨by rw[c.out];rfl,rfl⟩
 ·have n:(z != 0)=true:=by simpa using hzz
  have c:Hid (za=z):=by show _=_;rw[a.out,AW hzz]
  go_enter Tryz.func73,Tryz.ntmps73
  go_wp2_with (first
   |(go_at_call 66;(with_reducible apply jC g);rintro e w' ⟨rfl,b⟩;subst w')
   |(go_at_call 67;(with_reducible apply jC d);rintro e w' ⟨rfl,b⟩;subst w')
   |(go_at_call 59;(with_reducible apply jC f);rintro e w' ⟨rfl,b⟩;subst w'))
  go_ret
  exact⟨by rw[c.out];rfl,rfl⟩
theorem Ku:(Tryz.prog.info? 119).map (λi=>(i.zero,i.size,i.bytes))=some (some (.agg #[.i 0,.bool false,.n,.i 0,.n,.n,.n]),7,120):=by kernel_rfl
theorem jM:∀(a:List RT),(a.flatMap RT.cells).length=a.length * 7
 |[]=>rfl
 |x :: a=>by have:=jM a;simp only[AJ,jK,jB,this];simp;omega
theorem aZ.one {M}(h:aZ w K q M){c:List RT}(i:∀t∈c,t∈M.ts):∀u∈c.flatMap RT.cells,u.oneCell'=true:=by
 intro u b;have⟨t,j,b⟩:=AV.1 b;have a:=h.each t (i t j);have⟨k,l,d,_⟩:=a.bg;have⟨o,p,e,_⟩:=a.l;have⟨m,n,f⟩:=aF a.ch;have⟨r,s,g⟩:=aF a.oth;simp only[RT.cells,AR,FC,KI]at b;rcases b with rfl|rfl|rfl|rfl|rfl|rfl|rfl
 ·rfl
 ·rfl
 ·rw[d];rfl
 ·rfl
 ·rw[e];rfl
 ·rw[f];rfl
 ·rw[g];rfl
theorem aZ.rerow {w w' M}(h:aZ w K q M){b v}(g:b.Sublist M.ts)(i:Fr (Bl.one q) w w')(m:w'.heap[q]?=some ({M with ov:=v,ts:=b}:RM).obj)(n:w'.ownsRow 0 119 7 v b.length (b.flatMap RT.cells))(l:∀k,v.ownBlock=some k->w.heap.size<=k):
  aZ w' K q {M with ov:=v,ts:=b}/\∀k,Bl.or K (fpR q {M with ov:=v,ts:=b}) k->Bl.or K (fpR q M) k\/w.heap.size<=k:=by
 have j:=i.on (λk a=>⟨(h.kp k a).1,λc=>(h.kp k a).2.1 c⟩);refine⟨⟨m,n,h.now.on j,h.ah.on j,λe d=>?_,h.apart.sublist g,λk a=>⟨jY (h.kp k a).1 i.size,(h.kp k a).2.1,λc=>by have o:=l k c;have p:=(h.kp k a).1;omega,λe d=>(h.kp k a).2.2.2 e (g.subset d)⟩⟩,λk a=>?_⟩
 ·have f:=h.each e (g.subset d)
  exact f.on j (i.on (λk a=>⟨f.lies k a,λc=>by
   simp only[Bl.one]at c;subst c;exact a.elim (aQ f.ch h.box (by decide)) (aQ f.oth h.box (by decide))⟩))
 ·rcases a with a|rfl|a|⟨e,d,a⟩
  ·exact .inl (.inl a)
  ·exact .inl (.inr (.inl rfl))
  ·exact .inr (l k a)
  ·exact .inl (.inr (.inr (.inr ⟨e,g.subset d,a⟩)))
theorem Cu {M}(h:aZ w K q M)(x j t)(Y:cC M.ts x (some (j,t)))(aj:M.ts.length<=8):
  cL 28 #[.p q 2,.i x] w λe w'=>e=.returned (.i 0)/\∃v,aZ w' K q {M with ov:=v,ts:=M.ts.eraseIdx j}/\Fr (Bl.one q) w w'/\∀k,Bl.or K (fpR q {M with ov:=v,ts:=M.ts.eraseIdx j}) k->Bl.or K (fpR q M) k\/w.heap.size<=k:=by
 have T:=gI h Y aj w (AC _ _);have W:=Y.1;have ah:j<M.ts.length:=(AD.1 W).1;obtain⟨g,c,e,an,_⟩:=h.tx W;obtain⟨au,av,B,_,U⟩:=bR h.row;rw[e]at B;simp only[AP,CT]at B;obtain⟨rfl,rfl⟩:=B;have a9:=(dL h.box).2.2.2.2.2.2.1;rw[e]at a9;have ao:¬(j:Int)<0:=by omega
 have ar:IntKind.i64.wrap ((j:Int)+1)=(j:Int)+1:=by rw[CO];omega
 have y:Hid (aD w (λk=>M.ov.ownBlock=some k) (some ⟨g,0,none⟩) ((M.ts.take j).flatMap RT.cells)/\((M.ts.take j).flatMap RT.cells).length=j * 7/\(∀i∈(M.ts.take j).flatMap RT.cells,i.oneCell'=true)):=by
  refine⟨?_,by rw[jM,AZ];congr 1;omega,h.one (λt I=>CZ I)⟩;have A:(M.ts.take j).flatMap RT.cells++(M.ts.drop j).flatMap RT.cells=M.ts.flatMap RT.cells:=by rw[<-BU,CB]
  rcases U with C|⟨b,a2,o,E,G⟩
  ·have:=jM M.ts;rw[C]at this;simp at this;omega
  ·exact .inr ⟨b,a2,o,E,λJ i r=>G J i (by rw[<-A];exact(BT (AD.1 r).1).trans r)⟩
 have a5:Hid (∀X L,bW w X->(j+1<M.ts.length->L=some ⟨g,(j+1) * 7,none⟩)->aD X (λk=>M.ov.ownBlock=some k) L ((M.ts.drop (j+1)).flatMap RT.cells)):=by
  intro X L D am;rcases BS (j+1) M.ts.length with ai|ag
  ·have A:(M.ts.take (j+1)).flatMap RT.cells++(M.ts.drop (j+1)).flatMap RT.cells=M.ts.flatMap RT.cells:=by rw[<-BU,CB]
   have aa:((M.ts.take (j+1)).flatMap RT.cells).length=(j+1) * 7:=by rw[jM,AZ];congr 1;omega
   have ae:=U.on (vV D (λk d=>aM h.row d));rcases ae with C|⟨b,a2,o,E,G⟩
   ·have:=jM M.ts;rw[C]at this;simp at this;omega
   ·simp only[AX,CA,DA]at o
    obtain⟨rfl,rfl⟩:=o;refine .inr ⟨g,(j+1) * 7,am ai,E,λJ i r=>?_⟩;have:=G ((j+1) * 7+J) i (by rw[<-A,BJ (by omega),aa,Nat.add_sub_cancel_left];exact r);simpa using this
  ·exact .inl (by rw[CR ag];rfl)
 have N:Hid (((M.ts.drop (j+1)).flatMap RT.cells).length=(M.ts.length-(j+1)) * 7/\∀i∈(M.ts.drop (j+1)).flatMap RT.cells,i.oneCell'=true):=⟨by rw[jM,BH],h.one (λt I=>BO I)⟩;have u:Hid (∀X,bW w X->X.c q 6=some (.q g M.ts.length c)/\X.heap[q]?=some M.obj):=λX D=>by
  have Q:=(h.below D).box;have:=(dL Q).2.2.2.2.2.2.1;rw[e]at this;exact⟨this,Q⟩
 have a6:Hid (∀(a:World) (f:Value) (s:Nat),bW w a->s=M.ts.length-(j+1)->a.ownsRow 0 119 7 f (j+s) ([]++(M.ts.take j).flatMap RT.cells++(M.ts.drop (j+1)).flatMap RT.cells)->(∀k,f.ownBlock=some k->w.heap.size<=k)->∃v,aZ (a.setCell ⟨q,6,none⟩ f) K q {M with ov:=v,ts:=M.ts.eraseIdx j}/\Fr (Bl.one q) w (a.setCell ⟨q,6,none⟩ f)/\∀k,Bl.or K (fpR q {M with ov:=v,ts:=M.ts.eraseIdx j}) k->Bl.or K (fpR q M) k\/w.heap.size<=k):=by
  intro a f s R ap H al;have V:=(u.out a R).2;have P:Fr (Bl.one q) a (a.setCell ⟨q,6,none⟩ f):=(AF (Bl.one q) a).setCell (p:=⟨q,6,none⟩) (.inl rfl) _;have F:=(AA R).trans P;have af:=aC V 6 f;have a0:=aS H (P.on (Z:=λk=>f.ownBlock=some k) (λk d=>⟨aM H d,λO=>by simp only[Bl.one]at O;subst O;exact aQ H V (by decide) d⟩)) (λk d=>d);have ad:=(List.eraseIdx_eq_take_drop_succ M.ts j).symm;have ac : []++(M.ts.take j).flatMap RT.cells++(M.ts.drop (j+1)).flatMap RT.cells=(M.ts.eraseIdx j).flatMap RT.cells:=by rw[<-ad,BU];rfl
  have ab:j+s=(M.ts.eraseIdx j).length:=by rw[CH ah];omega
  rw[ac,ab]at a0;obtain⟨a7,a8⟩:=h.rerow (v:=f) (DG M.ts j) F (by simpa using af) a0 al;exact⟨f,a7,F,a8⟩
 simp only[iP]at T;go_enter Tryz.func28,Tryz.ntmps28;go_wp2_with (first
  |(go_at_call 66;(with_reducible refine jC T ?_);rintro e w' ⟨rfl,aq⟩;subst w')
  |(at_builtin;refine eY w rfl (.tmp 12) (.tmp 18) 33 119 _ 7 120 rfl Tryz.underlying33 Ku rfl (by decide) .n 0 [] rfl (AL _ _ _ _) (some ⟨g,0,none⟩) j c _ ((M.ts.take j).flatMap RT.cells) rfl y.out.2.1 y.out.1 y.out.2.2 (by omega) (by omega) ?_;intro az z m;obtain⟨a3,a4,rfl⟩:=aF m.row;have l:=m.fr.below (jU _) (λk d=>by simp[Value.ownBlock]at d);have aw:=(u.out z l).1;have a1:∀k,(Value.slice a3 (0+j) a4).ownBlock=some k->w.heap.size<=k:=λk d=>(m.lies k d).elim (λh=>by simp[Value.ownBlock]at h) id)
  |(at_builtin;refine eY z rfl (.tmp 21) (.tmp 28) 33 119 _ 7 120 rfl Tryz.underlying33 Ku rfl (by decide) (.slice a3 (0+j) a4) (0+j) ([]++(M.ts.take j).flatMap RT.cells) (by simp[Act.eval]) m.row _ _ _ _ ((M.ts.drop (j+1)).flatMap RT.cells) rfl (by rw[N.out.1]<;>omega) (a5.out z _ l (by first|(intro _;rfl)|(intro h;exact AQ (by omega))|(intro h;exfalso;omega))) N.out.2 (by omega) (by omega) ?_;intro f a n;obtain⟨b0,b1,rfl⟩:=aF n.row;have S:=l.trans (n.fr.below l.size a1);obtain⟨ax,ak⟩:=u.out a S;have ay:=aB ak))
 all_goals go_ret
 all_goals exact⟨rfl,a6.out a _ (M.ts.length-(j+1)) S rfl (by have:=n.row;simpa only[DO] using this) (λk d=>(n.lies k (by simpa only[DO] using d)).elim (a1 k) (λh=>vJ l.size h))⟩
theorem qGw {M}(h:aZ w K q M)(x)(c:cC M.ts x none)(b:M.ts.length<=8):
  cL 28 #[.p q 2,.i x] w λe w'=>e=.returned (.i 3)/\w'=w:=by
 have a:=gI h c b w (AC _ _);simp only[iP]at a;go_enter Tryz.func28,Tryz.ntmps28;go_wp2_with (go_at_call 66;(with_reducible apply jC a);rintro e w' ⟨rfl,d⟩;subst w');go_ret;exact⟨rfl,rfl⟩
def RM.begun(M:RM)(num:Int)(wr:Bool)(v:Value):RT:=⟨num,wr,M.now,M.nv,M.now,[],[],M.vn,v,.slice none 0 0,.slice none 0 0⟩
variable {M:RM}
theorem aZ.push {w A X3}(h:aZ w K q M)(u:bW w A){i v3}(U:A.ownsRow 0 71 2 i M.now.length (aG M.now))(T:∀k,i.ownBlock=some k->w.heap.size<=k)(o r)(s:fB 119 7 M.ov M.ts.length (M.ts.flatMap RT.cells) (M.begun o r i).cells 1 A v3 X3):
  ∃K',aZ (X3.setCell ⟨q,6,none⟩ v3) K' q {M with ov:=v3,ts:=M.ts++[M.begun o r i]}/\Fr (fpR q M) w (X3.setCell ⟨q,6,none⟩ v3)/\∀k,Bl.or K' (fpR q {M with ov:=v3,ts:=M.ts++[M.begun o r i]}) k->Bl.or K (fpR q M) k\/w.heap.size<=k:=by
 have⟨l,B⟩:=nM (X3.setCell ⟨q,6,none⟩ v3);rw[B];have a9:=u.size;have a0:=aS h.row (vV (Y:=λk=>k<w.heap.size) u (λk c=>c)) (λk c=>aM h.row c);have L:=(h.below u).box;have N:=s.fr.heap L (aQ a0 L (by decide));have P:Fr (Bl.one q) X3 l:=B▸(AF (Bl.one q) X3).setCell (p:=⟨q,6,none⟩) (.inl rfl) _;have a3:l.heap[q]?=some ({M with ov:=v3,ts:=M.ts++[M.begun o r i]}:RM).obj:=by rw[<-B];have:=aC N 6 v3;simpa using this
 have X:∀{y:TypeId}{z n:Nat}{v:Value}{a2:List Value},X3.ownsRow 0 y z v n a2->y≠43->l.ownsRow 0 y z v n a2:=λD a5=>aS D (P.on (Z:=λk=>_=some k) (λk c=>⟨aM D c,λO=>by simp only[Bl.one]at O;subst O;exact aQ D N (λg=>a5 g.symm) c⟩)) (λk c=>c);have a1:=X s.row (by decide);have J:=X (s.keeps U (dJ U a0 (by decide))) (by decide);have F:Fr (λk=>k=q\/M.ov.ownBlock=some k) w l:=((AA u).trans (s.fr.mono (λk c=>.inl (.inr c)))).trans (P.mono (λk c=>.inl (.inl c)));have x:=F.on (λk c=>⟨(h.kp k c).1,λH=>H.elim (h.kp k c).2.1 (h.kp k c).2.2.1⟩);have V:∀k,v3.ownBlock=some k->M.ov.ownBlock=some k\/w.heap.size<=k:=λk c=>(s.lies k c).imp id (λQ=>by omega);have W:∀e∈M.ts,∀k,fpX e k->k≠q/\M.ov.ownBlock≠some k:=λe d k c=>by
  have j:=h.each e d;refine⟨λg=>by subst g;exact c.elim (aQ j.ch h.box (by decide)) (aQ j.oth h.box (by decide)),λg=>?_⟩;rcases c with c|c
  ·rcases dJ j.ch h.row (by decide) with f|f
   ·rw[f]at c;cases c
   ·exact f (c.trans g.symm)
  ·rcases dJ j.oth h.row (by decide) with f|f
   ·rw[f]at c;cases c
   ·exact f (c.trans g.symm)
 have C:∀k,¬fpX (M.begun o r i) k:=λk c=>by rcases c with c|c<;>simp[RM.begun,Value.ownBlock]at c
 refine⟨λk=>K k\/i.ownBlock=some k,⟨a3,by simpa using a1,(h.now.on x).mono (λk c=>.inl c),(h.ah.on x).mono (λk c=>.inl c),λe d=>?_,?_,λk c=>?_⟩,F.mono (λk c=>.inl (c.imp id .inl)),λk c=>?_⟩
 ·rcases AO.1 d with d|d
  ·have j:=h.each e d
   have t:=j.on x (F.on (λk c=>⟨j.lies k c,λH=>H.elim (W e d k c).1 (W e d k c).2⟩));exact⟨t.bg.mono (λk c=>.inl c),t.l.mono (λk c=>.inl c),t.ch,t.oth⟩
  ·rw[AS]at d
   subst d;exact⟨(h.now.on x).mono (λk c=>.inl c),(KM J).mono (λk c=>.inr c),AL _ _ _ _,AL _ _ _ _⟩
 ·refine CI.2 ⟨h.apart,by simp,λa a6 b S k c a4=>?_⟩
  rw[AS]at S;subst S;exact C k a4
 ·have R:∀e∈M.ts++[M.begun o r i],fpX e k->∃e∈M.ts,fpX e k:=λe d m=>by
   rcases AO.1 d with d|d
   ·exact⟨e,d,m⟩
   ·rw[AS]at d;subst d;exact absurd m (C k)
  rcases c with c|c
  ·refine⟨jY (h.kp k c).1 F.size,(h.kp k c).2.1,λg=>?_,λe d m=>?_⟩
   ·rcases V k g with f|f
    ·exact(h.kp k c).2.2.1 f
    ·have:=(h.kp k c).1;omega
   ·have⟨I,E,G⟩:=R e d m
    exact(h.kp k c).2.2.2 I E G
  ·have a7:=T k c
   have a8:=(gL h.box);refine⟨aM J c,by omega,λg=>?_,λe d m=>?_⟩
   ·rcases dJ J a1 (by decide) with f|f
    ·rw[f]at c;cases c
    ·exact f (c.trans g.symm)
   ·have⟨I,E,G⟩:=R e d m
    have:=(h.each I E).lies k G;omega
 ·rcases c with(c|c)|rfl|c|⟨e,d,c⟩
  ·exact .inl (.inl c)
  ·exact .inr (T k c)
  ·exact .inl (.inr (.inl rfl))
  ·exact(V k c).imp (λQ=>.inr (.inr (.inl Q))) id
  ·rcases AO.1 d with d|d
   ·exact .inl (.inr (.inr (.inr ⟨e,d,c⟩)))
   ·rw[AS]at d;subst d;exact absurd c (C k)
theorem aZ.renum (h:aZ w K q M)(z):aZ (w.setCell ⟨q,7,none⟩ (.i z)) K q {M with last:=z}:=by
 have e:Fr (Bl.one q) w (w.setCell ⟨q,7,none⟩ (.i z)):=(AF (Bl.one q) w).setCell (p:=⟨q,7,none⟩) (.inl rfl) _;have g:=e.on (λc a=>⟨(h.kp c a).1,λd=>(h.kp c a).2.1 d⟩);have b:=aC h.box 7 (.i z);refine⟨by simpa using b,aS h.row (e.on (Z:=λc=>M.ov.ownBlock=some c) (λc a=>⟨aM h.row a,λi=>by simp only[Bl.one]at i;subst i;exact aQ h.row h.box (by decide) a⟩)) (λc a=>a),h.now.on g,h.ah.on g,λk j=>?_,h.apart,λc a=>⟨jY (h.kp c a).1 e.size,(h.kp c a).2⟩⟩;have f:=h.each k j;exact f.on g (e.on (λc a=>⟨f.lies c a,λd=>by
  simp only[Bl.one]at d;subst d;exact a.elim (aQ f.ch h.box (by decide)) (aQ f.oth h.box (by decide))⟩))
theorem Mu (h:aZ w K q M)(c)(f:8<=M.ts.length):
  cL 22 #[.p q 2,.bool c] w λe w'=>e=.returned (.tuple #[.i 0,.i 6])/\w'=w:=by
 have a:=(dL h.box).2.2.2.2.2.2.1;have⟨g,i,b⟩:=aF h.row;rw[b]at a;have d:(8:Int)<=(M.ts.length:Int):=by omega
 go_enter Tryz.func22,Tryz.ntmps22;go_wp2;go_ret2;exact⟨rfl,rfl⟩
theorem Sz (h:aZ w K q M)(l)(aq:M.ts.length<8)(a8:M.now.length<=1000000)(au:0<=M.last/\M.last<1000000000):
  cL 22 #[.p q 2,.bool l] w λe w'=>e=.returned (.tuple #[.i (M.last+1),.i 0])/\∃K' v N,aZ w' K' q {M with last:=M.last+1,ov:=v,ts:=M.ts++[M.begun (M.last+1) l N]}/\Fr (fpR q M) w w'/\∀k,Bl.or K' (fpR q {M with last:=M.last+1,ov:=v,ts:=M.ts++[M.begun (M.last+1) l N]}) k->Bl.or K (fpR q M) k\/w.heap.size<=k:=by
 have⟨ah,ai,aj,ak,al,am,a3,an,_⟩:=dL h.box;have⟨g,j,s⟩:=aF h.row;have⟨c,d,y,_⟩:=h.now;rw[s]at a3;have ap:¬(8:Int)<=(M.ts.length:Int):=by omega
 have ar:IntKind.i64.wrap (M.last+1)=M.last+1:=by rw[CO];omega
 have⟨a,G⟩:=nM (w.setCell ⟨q,7,none⟩ (.i (M.last+1)));have o:=h.renum (M.last+1);rw[G]at o;have aw:a.heap.size=w.heap.size:=by rw[<-G];simp[World.setCell]
 have Z:Fr (Bl.one q) w a:=G▸(AF (Bl.one q) w).setCell (p:=⟨q,7,none⟩) (.inl rfl) _;have z:Hid (∀X,bW a X->X.c q 6=some (.slice g M.ts.length j)/\X.c q 7=some (.i (M.last+1))/\X.c q 2=some (.slice c M.now.length d)/\X.c q 3=some (.i M.nv)):=λX u=>by
  have⟨_,_,ae,af,_,_,ag,W,_⟩:=dL (o.below u).box;refine⟨?_,W,?_,af⟩
  ·rw[<-s];exact ag
  ·rw[<-y];exact ae
 have a0:Hid (∀X,bW a X->cL 58 #[.slice c M.now.length d] X λe w'=>∃v',e=.returned v'/\w'.ownsRow 0 71 2 v' M.now.length (aG M.now)/\bW X w'/\∀k,v'.ownBlock=some k->X.heap.size<=k):=λX u=>by
  have:=vD M.vn M.now K X (o.below u).now a8;rw[y]at this;exact this
 have O:Hid (∀X,bW a X->X.ownsRow 0 119 7 (.slice g M.ts.length j) M.ts.length (M.ts.flatMap RT.cells)):=λX u=>by rw[<-s];exact(o.below u).row
 have a2:Hid (∀b X3 (v3:Value) (V:List Value),bW a b->fB 119 7 (.slice g M.ts.length j) M.ts.length (M.ts.flatMap RT.cells) V 1 b v3 X3->X3.heap[q]?=some (.cells #[M.f,M.x,.slice c M.now.length d,.i M.nv,M.va,.i M.av,.slice g M.ts.length j,.i (M.last+1),M.p0,M.p1,M.p2,M.p3,M.p4,M.p5,M.p6,M.p7,M.p8,M.p9] 43)):=λb X3 v3 V A C=>by
  have Q:=(o.below A).box;have:=C.fr.heap Q (aQ (O.out b A) Q (by decide));rw[<-s,<-y];exact this
 have a1:Hid (∀b X3 (m:Option Addr) (n:Nat) (v3:Value),bW a b->b.ownsRow 0 71 2 (.slice m M.now.length n) M.now.length (aG M.now)->(∀k,(Value.slice m M.now.length n).ownBlock=some k->a.drew.heap.size<=k)->fB 119 7 (.slice g M.ts.length j) M.ts.length (M.ts.flatMap RT.cells) [.i (M.last+1),.bool l,.slice c M.now.length d,.i M.nv,.slice m M.now.length n,.n,.n] 1 b v3 X3->∃K',aZ (X3.setCell ⟨q,6,none⟩ v3) K' q {M with last:=M.last+1,ov:=v3,ts:=M.ts++[M.begun (M.last+1) l (.slice m M.now.length n)]}/\Fr (fpR q M) w (X3.setCell ⟨q,6,none⟩ v3)/\∀k,Bl.or K' (fpR q {M with last:=M.last+1,ov:=v3,ts:=M.ts++[M.begun (M.last+1) l (.slice m M.now.length n)]}) k->Bl.or K (fpR q M) k\/w.heap.size<=k):=by
  intro b X3 m n v3 A ab a9 C;have Y:fB 119 7 M.ov M.ts.length (M.ts.flatMap RT.cells) (M.begun (M.last+1) l (.slice m M.now.length n)).cells 1 b v3 X3:=by
   rw[s];simp only[RM.begun,RT.cells,y];exact C
  have⟨K',R,B,E⟩:=o.push A ab (λk x=>a9 k x) (M.last+1) l Y;exact⟨K',R,(Z.mono (λk x=>.inl (.inl x))).trans B,λk x=>(E k x).imp id (λao=>by omega)⟩
 have av:=aB h.box;clear h o y s;go_enter Tryz.func22,Tryz.ntmps22;go_wp2;apply dF (S:=(λX:World=>X.c q 6=some (.slice g M.ts.length j)/\X.c q 7=some (.i (M.last+1))/\X.c q 2=some (.slice c M.now.length d)/\X.c q 3=some (.i M.nv))) 25 (by kernel_rfl);have F:=(show(λX:World=>X.c q 6=some (.slice g M.ts.length j)/\X.c q 7=some (.i (M.last+1))/\X.c q 2=some (.slice c M.now.length d)/\X.c q 3=some (.i M.nv)) a.drew from z.out _ (AC _ a).drew);apply tks [(0,.p q 2),(1,.p q 2),(2,.p q 2),(3,.p q 6),(4,.slice g M.ts.length j),(5,.p q 2),(6,.p q 2),(7,.p q 7),(8,.i (M.last+1)),(9,.bool l),(10,.p q 2),(11,.p q 2),(12,.p q 2),(13,.agg #[.slice c M.now.length d,.i M.nv]),(14,.p q 2),(15,.p q 2),(16,.p q 2),(17,.p q 2),(18,.slice c M.now.length d)] (by assumption);iterate 19 (refine⟨_,rfl,by kernel_rfl,λ_ _ _ h=>h,.inl ⟨by rfl,λw t=>by(try dsimp only at t);go_simp⟩,?_⟩;try simp only[pS])
 apply tke;refine aR (i:=19) (by kernel_rfl) rfl (λK f=>?_);go_simp;go_at_call 58
 (with_reducible apply jC (a0.out _ (AC _ a).drew))
 rintro e b ⟨N,rfl,U,a5,aa⟩;have r:bW a b:=(AC _ a).drew.trans a5;obtain⟨m,n,rfl⟩:=aF U;simp only[];apply f.out _ _ (λ_=>z.out _ r);clear f K;try simp only[pS]
 have F:=(show(λX:World=>X.c q 6=some (.slice g M.ts.length j)/\X.c q 7=some (.i (M.last+1))/\X.c q 2=some (.slice c M.now.length d)/\X.c q 3=some (.i M.nv)) b from z.out _ r);refine lS (i:=20) (v:=.agg #[.i (M.last+1),.bool l,.slice c M.now.length d,.i M.nv,.slice m M.now.length n,.n,.n]) rfl (by kernel_rfl) (λ_ _ _ h=>h) (.inl ⟨by rfl,λw t=>by(try dsimp only at t);go_simp⟩) (by assumption) (λF=>?_);try simp only[pS]
 refine aR (i:=21) (by kernel_rfl) rfl (λK f=>?_);go_simp;apply f.out _ _ (λ_=>z.out _ (r.alloc r.size _));clear f K;try simp only[pS]
 refine aR (i:=22) (by kernel_rfl) rfl (λK f=>?_)
 (apply iO b rfl (.tmp 23) (.tmp 40) 33 119 _ 7 120 rfl Tryz.underlying33 Ku rfl (by decide) (.slice g M.ts.length j) M.ts.length (M.ts.flatMap RT.cells) (by simp[Act.eval,Act.put]) (O.out b r) [.i (M.last+1),.bool l,.slice c M.now.length d,.i M.nv,.slice m M.now.length n,.n,.n] (by simp[Act.eval,Act.put]) rfl (by simp[Value.oneCell']) (by omega) (by omega);intro v3 X3 D;obtain⟨a4,ac,rfl⟩:=D.shape (by decide);have T:=a2.out b X3 _ _ r D;have⟨_,_,H,I,_,_,J,L,_⟩:=dL T;have ad:=aB T)
 apply f.out _ _ (λ_=>⟨J,L,H,I⟩);clear f K;try simp only[pS]
 have F:=(show(λX:World=>X.c q 6=some (.slice g M.ts.length j)/\X.c q 7=some (.i (M.last+1))/\X.c q 2=some (.slice c M.now.length d)/\X.c q 3=some (.i M.nv)) X3 from ⟨J,L,H,I⟩);apply tks [(23,.p q 2),(24,.p q 6)] (by assumption);iterate 2 (refine⟨_,rfl,by kernel_rfl,λ_ _ _ h=>h,.inl ⟨by rfl,λw t=>by(try dsimp only at t);go_simp⟩,?_⟩;try simp only[pS])
 apply tke;refine aR (i:=25) (by kernel_rfl) rfl (λK f=>?_);go_simp;apply f.out _ _ (λe=>by cases e);clear f K;try simp only[pS]
 refine cY (by kernel_rfl) ?_ _;have⟨K',R,B,E⟩:=a1.out b X3 _ _ _ r U aa D;have⟨P,a6⟩:=nM (X3.setCell ⟨q,6,none⟩ (.q a4 (M.ts.length+1) ac));rw[a6]at R B⊢;have W:=(dL R.box).2.2.2.2.2.2.2.1;clear H I J L ad;go_wp2;go_ret2;exact⟨rfl,K',_,_,R,B,E⟩
theorem pK{l}(b:l.length<=1000000)(a:∀x∈l,x.2.size<=400):dH l<=4000002:=by
 have:=Do l a;rw[Sv];omega
def kI(M:RM)(t:RT):Nat:=dH (t.ch.foldl eE M.now)+dH M.now+dH M.ah+2+tot (λt:RT=>dH t.bg) M.ts
theorem Mr (h:aZ w K q M)(x j t)(b4:cC M.ts x (some (j,t)))(bp:M.ts.length<=8)(bm:M.now.length+t.ch.length<=1000000)(bq:M.nv<1000000000/\0<=M.nv)(b3:M.ah.length<=1000000)(ag:∀t∈M.ts,t.bg.length<=1000000)(an:∀x∈t.ch.foldl eE M.now,x.2.size<=400)(b7:∀x∈M.now,x.2.size<=400)(v3:∀x∈M.ah,x.2.size<=400)(ao:∀t∈M.ts,∀x∈t.bg,x.2.size<=400):
  cL 78 #[.p q 2,.i x] w λe w'=>e=.returned (.i (kI M t:Nat))/\bW w w':=by
 have bh:=uM h x j t b4 bp bm bq;have af:(t.ch.foldl eE M.now).length<=1000000:=by have:=sT t.ch M.now;omega
 have bu:=pK af an;have bv:=pK (l:=M.now) (by omega) b7;have bw:=pK b3 v3;have be:Hid (∀i,i<=M.ts.length->tot (λt:RT=>dH t.bg) (M.ts.take i)<=4000002 * 8):=λi a4=>by
  have:∀(o:List RT),(∀t∈o,t∈M.ts)->tot (λt:RT=>dH t.bg) o<=4000002 * o.length:=λo=>by
   induction o with
   |nil=>intro _;exact jU _
   |cons y o ih =>
    intro ai;have c8:=pK (ag y (ai y (by simp))) (ao y (ai y (by simp)));have c9:=ih (λz br=>ai z (by simp[br]));simp only[cG,jB];omega
  have:=this (M.ts.take i) (λt aj=>CZ aj);rw[AZ]at this;omega
 have a1:Hid (∀X v (ap:Int) (o:KV) (S:Bl),gA X S v o->(∀u,S u->u<X.heap.size)->o.length<=1000000->(∀x∈o,x.2.size<=400)->cL 109 #[.agg #[v,.i ap]] X λe w'=>e=.returned (.i (dH o:Nat))/\bW X w'):=λX v ap o S a b c d=>Zu v ap o S X a b c d;have c5:Hid (∀X,bW w X->aZ X K q M):=λX k=>h.below k;have a0:Hid (kI M t=dH (t.ch.foldl eE M.now)+dH M.now+dH M.ah+2+tot (λt:RT=>dH t.bg) M.ts):=rfl;obtain⟨G,H,am,_⟩:=h.now;obtain⟨E,F,ak,_⟩:=h.ah;obtain⟨b5,b6,ah⟩:=aF h.row;have av:Hid (∀X,bW w X->X.c q 2=some (.slice G M.now.length H)/\X.c q 3=some (.i M.nv)/\X.c q 4=some (.slice E M.ah.length F)/\X.c q 5=some (.i M.av)/\X.c q 6=some (.slice b5 M.ts.length b6)):=λX k=>by
  obtain⟨_,_,a5,aq,a6,ar,au,_⟩:=dL (h.below k).box;rw[am]at a5;rw[ak]at a6;rw[ah]at au;exact⟨a5,aq,a6,ar,au⟩
 have a7:Hid (∀X,bW w X->gA X K (.slice G M.now.length H) M.now/\gA X K (.slice E M.ah.length F) M.ah/\∀u,K u->u<X.heap.size):=λX k=>by
  have P:=h.below k;exact⟨am▸P.now,ak▸P.ah,λu J=>(P.kp u J).1⟩
 have bf:Hid (∀X i (a4:i<M.ts.length),bW w X->∃g c N O,b5=some ⟨g,0,none⟩/\b6=c/\M.ts.length<=c/\X.c g (i * 7+2)=some (.slice N (M.ts[i]).bg.length O)/\X.c g (i * 7+3)=some (.i (M.ts[i]).bv)/\gA X K (.slice N (M.ts[i]).bg.length O) (M.ts[i]).bg):=λX i a4 k=>by
  have P:=h.below k;obtain⟨g,c,e,bk,_,_,a9,ay,_⟩:=P.tx (jQ a4);rw[ah]at e;simp only[AP,CT]at e;have a3:=(P.each _ (AB a4)).bg;obtain⟨N,O,al,r⟩:=a3;rw[al]at a9;exact⟨g,c,N,O,e.1,e.2,bk,a9,ay,al▸⟨N,O,al,r⟩⟩
 generalize hNA:dH (t.ch.foldl eE M.now)=p at bu a0;generalize hNN:dH M.now=s at bv a0;generalize hNH:dH M.ah=B at bw a0;clear am ak ah h b4;go_enter Tryz.func78,Tryz.ntmps78;go_wp2_with (go_at_call 79;(with_reducible refine jC bh ?_);rintro e m ⟨cd,rfl,ab,az,bn⟩;obtain⟨C,D,rfl⟩:=aF ab);generalize (t.ch.foldl eE M.now)=LA at ab af an hNA bn⊢;obtain⟨f,a2,-,b8,-⟩:=al1 m (.cells #[.slice C LA.length D,.i (M.nv+1)] 32);have I:bW w f:=a2▸az.alloc az.size _;have ac:=CG (w:=m) ab (.cells #[.slice C LA.length D,.i (M.nv+1)] 32);try rw[a2]
 rw[a2]at ac;have L:Hid (∀X,bW f X->X.c m.heap.size 0=some (.slice C LA.length D)/\X.c m.heap.size 1=some (.i (M.nv+1))/\X.c q 2=some (.slice G M.now.length H)/\X.c q 3=some (.i M.nv)/\X.c q 4=some (.slice E M.ah.length F)/\X.c q 5=some (.i M.av)):=λX k=>by
  obtain⟨c2,c3⟩:=bS ((k.block _ (gL b8)).trans b8);obtain⟨a5,aq,a6,ar,_⟩:=av.out X (I.trans (k.mono I.size));exact⟨c2,c3,a5,aq,a6,ar⟩
 have bb:Hid (cL 109 #[.agg #[.slice C LA.length D,.i (M.nv+1)]] f.drew λe w'=>e=.returned (.i (p:Nat))/\bW f w'):=by
  have a3:bW f f.drew:=(AC _ f).drew;have b1:=aS ac (vV (Y:=λu=>u<f.heap.size) a3 (λu J=>J)) (λu J=>aM ac J);refine(a1.out f.drew _ (M.nv+1) LA _ (KM b1) (λu J=>aM b1 J) af an).mono ?_;rintro e w' ⟨rfl,W⟩;exact⟨by rw[hNA],a3.trans W⟩
 have bc:Hid (∀X,bW f X->cL 109 #[.agg #[.slice G M.now.length H,.i M.nv]] X λe w'=>e=.returned (.i (s:Nat))/\bW f w'):=λX k=>by
  obtain⟨bs,_,Z⟩:=a7.out X (I.trans (k.mono I.size));refine(a1.out X _ M.nv M.now K bs Z (by omega) b7).mono ?_;rintro e w' ⟨rfl,W⟩;exact⟨by rw[hNN],k.trans (W.mono k.size)⟩
 have bd:Hid (∀X,bW f X->cL 109 #[.agg #[.slice E M.ah.length F,.i M.av]] X λe w'=>e=.returned (.i (B:Nat))/\bW f w'):=λX k=>by
  obtain⟨_,bt,Z⟩:=a7.out X (I.trans (k.mono I.size));refine(a1.out X _ M.av M.ah K bt Z b3 v3).mono ?_;rintro e w' ⟨rfl,W⟩;exact⟨by rw[hNH],k.trans (W.mono k.size)⟩
 have bx:IntKind.i64.wrap ((p:Int)+(s:Int))=(p:Int)+(s:Int):=by rw[CO];omega
 have bz:IntKind.i64.wrap ((p:Int)+(s:Int)+(B:Int))=(p:Int)+(s:Int)+(B:Int):=by rw[CO];omega
 have c0:IntKind.i64.wrap ((p:Int)+(s:Int)+(B:Int)+2)=((p+s+B+2:Nat):Int):=by rw[CO];omega
 have c4:=I.size;refine dF (S:=(λX:World=>X.c m.heap.size 0=some (.slice C LA.length D)/\X.c m.heap.size 1=some (.i (M.nv+1))/\X.c q 2=some (.slice G M.now.length H)/\X.c q 3=some (.i M.nv)/\X.c q 4=some (.slice E M.ah.length F)/\X.c q 5=some (.i M.av))) 15 (by kernel_rfl) ?_;have aa:=(show(λX:World=>X.c m.heap.size 0=some (.slice C LA.length D)/\X.c m.heap.size 1=some (.i (M.nv+1))/\X.c q 2=some (.slice G M.now.length H)/\X.c q 3=some (.i M.nv)/\X.c q 4=some (.slice E M.ah.length F)/\X.c q 5=some (.i M.av)) f.drew from L.out _ (AC _ f).drew);refine tks [(0,.agg #[.slice C LA.length D,.i (M.nv+1)]),(2,.p q 2),(3,.p q 2),(4,.p q 2),(5,.agg #[.slice G M.now.length H,.i M.nv]),(8,.p q 2),(9,.p q 2),(10,.p q 4),(11,.agg #[.slice E M.ah.length F,.i M.av])] (by assumption) ?_;iterate 9 (refine⟨_,rfl,by kernel_rfl,λ_ _ _ h=>h,.inl ⟨by rfl,λw V=>by(try dsimp only at V);go_simp⟩,?_⟩;try simp only[pS])
 refine tke ?_;refine aR (i:=1) (by kernel_rfl) rfl (λK A=>?_);go_simp;go_at_call 109
 (with_reducible refine jC bb.out ?_)
 rintro e c6 ⟨rfl,b2⟩;simp only[];refine A.out _ _ (λ_=>L.out _ b2) ?_;clear A K;try simp only[pS]
 refine aR (i:=6) (by kernel_rfl) rfl (λK A=>?_);go_simp;go_at_call 109
 (with_reducible refine jC (bc.out _ b2) ?_)
 rintro e bg ⟨rfl,ad⟩;simp only[];refine A.out _ _ (λ_=>L.out _ ad) ?_;clear A K;try simp only[pS]
 have aa:=(show(λX:World=>X.c m.heap.size 0=some (.slice C LA.length D)/\X.c m.heap.size 1=some (.i (M.nv+1))/\X.c q 2=some (.slice G M.now.length H)/\X.c q 3=some (.i M.nv)/\X.c q 4=some (.slice E M.ah.length F)/\X.c q 5=some (.i M.av)) bg from L.out _ ad);refine lS (i:=7) (v:=.i ((p:Int)+(s:Int))) rfl (by kernel_rfl) (λ_ _ _ h=>h) (.inl ⟨by rfl,λw V=>by(try dsimp only at V);go_simp⟩) (by assumption) (λaa=>?_);try simp only[pS]
 refine aR (i:=12) (by kernel_rfl) rfl (λK A=>?_);go_simp;go_at_call 109
 (with_reducible refine jC (bd.out _ ad) ?_)
 rintro e ax ⟨rfl,ae⟩;simp only[];refine A.out _ _ (λ_=>L.out _ ae) ?_;clear A K;try simp only[pS]
 have aa:=(show(λX:World=>X.c m.heap.size 0=some (.slice C LA.length D)/\X.c m.heap.size 1=some (.i (M.nv+1))/\X.c q 2=some (.slice G M.now.length H)/\X.c q 3=some (.i M.nv)/\X.c q 4=some (.slice E M.ah.length F)/\X.c q 5=some (.i M.av)) ax from L.out _ ae);refine tks [(13,.i ((p:Int)+(s:Int)+(B:Int))),(14,.i ((p+s+B+2:Nat):Int))] (by assumption) ?_;iterate 2 (refine⟨_,rfl,by kernel_rfl,λ_ _ _ h=>h,.inl ⟨by rfl,λw V=>by(try dsimp only at V);go_simp⟩,?_⟩;try simp only[pS])
 refine tke ?_;refine aR (i:=15) (by kernel_rfl) rfl (λK A=>?_);go_simp;refine A.out _ _ (λe=>by cases e) ?_;clear A K;try simp only[pS]
 refine cY (by kernel_rfl) ?_ _;have b9:bW w ax:=I.trans (ae.mono c4);clear bx bz c0;go_wp2;go_loopw [6,7] (λn i c1=>∃l:Nat,i=.i l/\l<=M.ts.length/\n=.i ((p+s+B+2+tot (λt:RT=>dH t.bg) (M.ts.take l):Nat):Int)/\Hid (bW w c1)) (λ_ i _=>M.ts.length-(intOf i).toNat)
 case atStart=>exact⟨0,rfl,AH _,by simp[tot],b9⟩
 case round =>
  obtain⟨l,rfl,bo,rfl,ba⟩:=hrel;have Q:=ba.out;have au:=(av.out _ Q).2.2.2.2;have aj:=be.out l bo;rcases BS l M.ts.length with U|cb
  ·have cc:(l:Int)<(M.ts.length:Int):=by omega
   obtain⟨g,c,N,O,rfl,rfl,ca,a9,ay,bl⟩:=bf.out _ l U Q;have Z:=(a7.out _ Q).2.2;have b0:=a1.out _ _ (M.ts[l]).bv (M.ts[l]).bg K bl Z (ag _ (AB U)) (ao _ (AB U));have bj:=pK (ag _ (AB U)) (ao _ (AB U));have a8:Hid (tot (λt:RT=>dH t.bg) (M.ts.take (l+1))=tot (λt:RT=>dH t.bg) (M.ts.take l)+dH (M.ts[l]).bg):=lF _ _ _ U;generalize tot (λt:RT=>dH t.bg) (M.ts.take l)=T at aj a8⊢;generalize dH (M.ts[l]).bg=R at bj b0 a8;go_wp2_with (go_at_call 109;(with_reducible refine jC b0 ?_);rintro e c7 ⟨rfl,bi⟩);exact⟨⟨l+1,by simp,by omega,by rw[a8.out];simp;omega,Q.trans (bi.mono Q.size)⟩,by simp[intOf];omega⟩
  ·obtain rfl:l=M.ts.length:=by omega
   have aw:Hid (p+s+B+2+tot (λt:RT=>dH t.bg) (M.ts.take M.ts.length)=kI M t):=by show _=_;rw[BG,a0.out]
   generalize p+s+B+2+tot (λt:RT=>dH t.bg) (M.ts.take M.ts.length)=T at aw⊢;go_wp2;go_ret;exact⟨by rw[aw.out];rfl,Q⟩
theorem Mq(g b i h d c j f w):
  cL 53 #[.agg #[.slice g i h,.i j],.agg #[.slice b d c,.i f]] w λe w'=>e=.returned (.agg #[.slice g i h,.i j,.slice b d c,.i f,.n,.i 0])/\bW w w':=by
 obtain⟨a,k,m,q,r,l,-⟩:=al3 w (.cells #[.slice g i h,.i j] 32) (.cells #[.slice b d c,.i f] 32) (.cells #[.n,.i 0,.n,.i 0,.n,.i 0] 35); have⟨t,u⟩:=bS q;have⟨x,y⟩:=bS r;have⟨z,A,B,C,D,E⟩:=rF l;have F:=aB l;have s:=aC (aC (aC (aC (aC (aC l 0 (.slice g i h)) 1 (.i j)) 2 (.slice b d c)) 3 (.i f)) 4 .n) 5 (.i 0);have n:Fr (Bl.one (w.heap.size+1+1)) a ((((((a.setCell ⟨w.heap.size+1+1,0,none⟩ (.slice g i h)).setCell ⟨w.heap.size+1+1,1,none⟩ (.i j)).setCell ⟨w.heap.size+1+1,2,none⟩ (.slice b d c)).setCell ⟨w.heap.size+1+1,3,none⟩ (.i f)).setCell ⟨w.heap.size+1+1,4,none⟩ .n).setCell ⟨w.heap.size+1+1,5,none⟩ (.i 0)):=((((((AF (Bl.one (w.heap.size+1+1)) a).setCell (p:=⟨w.heap.size+1+1,0,none⟩) (.inl rfl) _).setCell (p:=⟨w.heap.size+1+1,1,none⟩) (.inl rfl) _).setCell (p:=⟨w.heap.size+1+1,2,none⟩) (.inl rfl) _).setCell (p:=⟨w.heap.size+1+1,3,none⟩) (.inl rfl) _).setCell (p:=⟨w.heap.size+1+1,4,none⟩) (.inl rfl) _).setCell (p:=⟨w.heap.size+1+1,5,none⟩) (.inl rfl) _;go_enter Tryz.func53,Tryz.ntmps53;go_wp2;refine BI (v:=.agg #[.slice g i h,.i j,.slice b d c,.i f,.n,.i 0]) ?_ rfl ⟨rfl,m.trans (n.below m.size (oK (by omega)))⟩;exact ER (p:=4) rfl _ _ (w.heap.size+1+1) _ _ _ _ rfl (by simpa using s) Tryz.underlying35 rfl (by kernel_rfl)
