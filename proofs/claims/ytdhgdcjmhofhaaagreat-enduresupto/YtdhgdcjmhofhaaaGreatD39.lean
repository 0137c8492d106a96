import Derived.Test.YtdhgdcjmhofhaaaGreatD38
import Derived.Test.YtdhgdcjmhofhaaaGreatD37
set_option linter.all false
set_option maxRecDepth 100000
set_option maxHeartbeats 8000000
namespace Go.Proofs.YtdhgdcjmhofhaaaGreat.Tree
open Go.RowKit Pages
variable {K:Bl} {q:Nat} {w:World}
def qEq:∀(a:List RT) (j:Nat) (t t':RT),a[j]?=some t->t'.num=t.num->t'.wr=t.wr->t'.vb=t.vb->t'.bv=t.bv->t'.vo=t.vo->((a.flatMap RT.cells).set (j * 7+4) t'.vl).set (j * 7+5) t'.vc=(a.set j t').flatMap RT.cells
 |[],_,_,_,h,_,_,_,_,_=>by simp at h
 |x :: a,0,t,t',h,h1,h2,h3,h4,h5=>by
  have:x=t:=by simpa using h
  subst this;simp[RT.cells,h1,h2,h3,h4,h5]
 |x :: a,j+1,t,t',h,h1,h2,h3,h4,h5=>by
  rw[jX,AK,AK,<-(qEq a j t t' (by simpa using h) h1 h2 h3 h4 h5)];have c:∀b,(j+1) * 7+b=(RT.cells x).length+(j * 7+b):=λb=>by simp;omega
  rw[c 4,c 5,EW _ _ (by omega),EW _ _ (by omega)];simp
def aY.retx {w w' M}(h:aY w K q M){j t t'}(E:M.ts[j]?=some t){g c}(e:M.ov=.q g M.ts.length c){K'}(y:∀k,K' k->K k\/w.heap.size<=k)(u:∀k,K k->K' k)(x:Fr (λk=>k=g\/fpX t k) w w')(R:w'.ownsRow 0 119 7 M.ov M.ts.length ((M.ts.set j t').flatMap RT.cells))(I:TxR w' K' t')(S:∀k,fpX t' k->fpX t k\/w.heap.size<=k)(H:lW K' w')(T:∀k,fpX t' k->¬K' k):aY w' K' q {M with ts:=M.ts.set j t'}:=by
 have⟨F,N⟩:=AD.1 E;have G:=BL E;have r:M.ov.ownBlock=some g:=by rw[e];rfl
 have V:=aK h.row r;have W:=(gL h.box);have Q:∀s∈M.ts,¬fpX s q:=λs o d=>d.elim (aP (h.each s o).ch h.box (by decide)) (aP (h.each s o).oth h.box (by decide));have L:∀s∈M.ts,¬fpX s g:=λs o d=>by
  rcases d with d|d
  .rcases dS (h.each s o).ch h.row (by decide) with f|f
   .rw[f]at d;cases d
   .exact f (d.t r.symm)
  .rcases dS (h.each s o).oth h.row (by decide) with f|f
   .rw[f]at d;cases d
   .exact f (d.t r.symm)
 have P:q≠g:=λe=>aP h.row h.box (by decide) (r.t (by rw[e]));have B:=x.on (λk d=>⟨(h.kp k d).1,λp=>by
  rcases p with rfl|p
  .exact(h.kp k d).2.2.1 r
  .exact(h.kp k d).2.2.2 t G p⟩)
 have C:∀m (i:m<M.ts.length),m≠j->∀k,fpX M.ts[m] k->¬fpX t k:=λm i v k d l=>by
  subst N;rcases BR m j with O|U
  .exact BD.1 h.apart m j i F O k d l
  .exact BD.1 h.apart j m F i (by omega) k l d
 have D:∀m (i:m<M.ts.length),m≠j->∀k,fpX M.ts[m] k->¬fpX t' k:=λm i v k d l=>by
  rcases S k l with f|f
  .exact C m i v k d f
  .have:=(h.each _ (AA i)).lies k d;omega
 refine⟨x.heap h.box (λp=>p.elim P (Q t G)),by rw[CL];exact R,(h.now.on B).m u,(h.ah.on B).m u,λs o=>?_,?_,λk d=>⟨H k d,?_,?_,λs o=>?_⟩⟩
 .obtain⟨m,i,rfl⟩:=AV o
  simp only[CL]at i;rw[DN];split
  .exact I
  .rename_i v
   have f:=h.each _ (AA i);have n:=f.on B (x.on (λk d=>⟨f.lies k d,λp=>by
    rcases p with rfl|p
    .exact L _ (AA i) d
    .exact C m i (λe=>v e.symm) k d p⟩))
   exact⟨n.bg.m u,n.l.m u,n.ch,n.oth⟩
 .refine BD.2 (λa b z A J k d l=>?_)
  simp only[CL]at z A;simp only[DN]at d l;split at d
  .split at l
   .omega
   .rename_i f n;exact D b A (λe=>n e.symm) k l d
  .split at l
   .rename_i f n;exact D a z (λe=>f e.symm) k d l
   .exact BD.1 h.apart a b z A J k d l
 .rcases y k d with f|f
  .exact(h.kp k f).2.1
  .omega
 .rcases y k d with f|f
  .exact(h.kp k f).2.2.1
  .intro n;have:k=g:=by rw[show({M with ts:=M.ts.set j t'}:RM).ov=M.ov from rfl,r]at n;simpa using n.symm
   omega
 .obtain⟨m,i,rfl⟩:=AV o
  simp only[CL]at i;rw[DN];split
  .exact λl=>T k l d
  .intro l
   rcases y k d with f|f
   .exact(h.kp k f).2.2.2 _ (AA i) l
   .have:=(h.each _ (AA i)).lies k l;omega
def Zb:(Tryz.prog.info? 131).map (λi=>(i.zero,i.size,i.bytes))=some (some (.agg #[.e,.e,.bool false]),3,40):=by kernel_rfl
def RT.changed(t:RT)(c:Ch)(v vc:Value):RT:={t with l:=dP t.l c,vl:=v,ch:=t.ch++[c],vc:=vc}
def aY.change {w A E X3 r M}(h:aY w K q M){j t}(I:M.ts[j]?=some t){g c}(e:M.ov=.q g M.ts.length c)(d f u)(G:bW w A)(ab:A.ownsRow 0 71 2 f (dP t.l d).length (aI (dP t.l d)))(P:nW f w)(a2:E=A.setCell (aD g (j * 7+4)) f)(D:fF 131 3 t.vc t.ch.length (t.ch.flatMap Ch.cells) d.cells 1 E u X3)(a3:r=X3.setCell (aD g (j * 7+5)) u):
  ∃K',aY r K' q {M with ts:=M.ts.set j (t.changed d f u)}/\Fr (fpR q M) w r/\∀k,Bl.or K' (fpR q {M with ts:=M.ts.set j (t.changed d f u)}) k->Bl.or K (fpR q M) k\/w.heap.size<=k:=by
 obtain⟨ah,_⟩:=AD.1 I;have B:=BL I;have m:=h.each t B;have J:M.ov.ownBlock=some g:=by rw[e];rfl
 have ag:g<w.heap.size:=aK h.row J;have aj:=G.size;have ai:(M.ts.flatMap RT.cells).length=M.ts.length * 7:=h.row.1;have V:∀{X:World}{i:TypeId}{z n:Nat}{v:Value}{y:List Value},X.ownsRow 0 i z v n y->X.ownsRow 0 119 7 M.ov M.ts.length (M.ts.flatMap RT.cells)\/(∃L,X.ownsRow 0 119 7 M.ov M.ts.length L)->i≠119->∀k,v.ownBlock=some k->k≠g:=λ{X i z n v y} x Q H k a l=>by
  obtain⟨L,Q⟩:∃L,X.ownsRow 0 119 7 M.ov M.ts.length L:=Q.elim (λh=>⟨_,h⟩) id;rcases dS x Q H with b|b
  .rw[b]at a;cases a
  .exact b (by rw[a,J,l])
 have a7:A.ownsRow 0 119 7 M.ov M.ts.length (M.ts.flatMap RT.cells):=aS h.row (vV (Y:=λk=>k<w.heap.size) G (λk a=>a)) (λk a=>aK h.row a);have N:Fr (Bl.one g) A E:=a2▸(AE (Bl.one g) A).s g (j * 7+4);have a8:E.ownsRow 0 119 7 M.ov M.ts.length ((M.ts.flatMap RT.cells).set (j * 7+4) f):=by
  have:=dR (e▸a7) (j * 7+4) (by omega) f;rw[a2,e];exact this
 have U:∀{i:TypeId}{z n:Nat}{v:Value}{y:List Value},A.ownsRow 0 i z v n y->i≠119->E.ownsRow 0 i z v n y:=λx H=>aS x (N.on (Z:=λk=>_=some k) (λk a=>⟨aK x a,λl=>V x (.inl a7) H k a l⟩)) (λk a=>a);have aa:=U ab (by decide);have v3:=D.keeps aa (dS aa (D.row |> λ_=>U (aS m.ch (vV (Y:=λk=>k<w.heap.size) G (λk a=>a)) (λk a=>aK m.ch a)) (by decide)) (by decide));have a9:X3.ownsRow 0 119 7 M.ov M.ts.length ((M.ts.flatMap RT.cells).set (j * 7+4) f):=D.keeps a8 (dS a8 (U (aS m.ch (vV (Y:=λk=>k<w.heap.size) G (λk a=>a)) (λk a=>aK m.ch a)) (by decide)) (by decide));have a4:Fr (Bl.one g) X3 r:=a3▸(AE (Bl.one g) X3).s g (j * 7+5);have ae:r.ownsRow 0 119 7 M.ov M.ts.length ((M.ts.set j (t.changed d f u)).flatMap RT.cells):=by
  have:=dR (e▸a9) (j * 7+5) (by rw[CL];omega) u;rw[a3,e,<-qEq M.ts j t (t.changed d f u) I rfl rfl rfl rfl rfl];exact this
 have a6:∀{i:TypeId}{z n:Nat}{v:Value}{y:List Value},X3.ownsRow 0 i z v n y->i≠119->r.ownsRow 0 i z v n y:=λx H=>aS x (a4.on (Z:=λk=>_=some k) (λk a=>⟨aK x a,λl=>V x (.inr ⟨_,a9⟩) H k a l⟩)) (λk a=>a);have W:=a6 v3 (by decide);have a1:=a6 D.row (by decide);have a0:Fr (λk=>k=g\/t.vc.ownBlock=some k) w r:=(((AB G).t (N.m (λk a=>.inl (.inl a)))).t (D.fr.m (λk a=>.inl (.inr a)))).t (a4.m (λk a=>.inl (.inl a)));have F:Fr (λk=>k=g\/fpX t k) w r:=a0.m (λk a=>.inl (a.imp id .inl));have ac:r.ownsRow 0 9 1 t.vo t.oth.length (t.oth.map .string):=aS m.oth (a0.on (Z:=λk=>t.vo.ownBlock=some k) (λk a=>⟨aK m.oth a,λC=>by
  rcases C with l|C
  .exact V m.oth (.inl h.row) (by decide) k a l
  .rcases dS m.oth m.ch (by decide) with b|b
   .rw[b]at a;cases a
   .exact b (a.t C.symm)⟩)) (λk a=>a)
 have ad:On K w r:=F.on (λk a=>⟨(h.kp k a).1,λC=>by
  rcases C with l|C
  .exact(h.kp k a).2.2.1 (by rw[J,l])
  .exact(h.kp k a).2.2.2 t B C⟩)
 have T:∀k,u.ownBlock=some k->t.vc.ownBlock=some k\/w.heap.size<=k:=λk a=>(D.lies k a).imp id (λa5=>by have:=N.size;omega);have R:=h.retx (t':=t.changed d f u) (K':=λk=>K k\/f.ownBlock=some k) I e (λk a=>a.imp id (P k)) (λk a=>.inl a) F ae
  ⟨(m.bg.on ad).m (λk a=>.inl a),(JT W).m (λk a=>.inr a),by simpa[RT.changed] using a1,ac⟩
  (λk a=>by
   rcases a with a|a
   .exact(T k a).imp .inl id
   .exact .inl (.inr a))
  (λk a=>by
   rcases a with a|a
   .have:=(h.kp k a).1;have:=F.size;omega
   .exact aK W a)
  (λk a o=>by
   rcases a with a|a
   .rcases o with o|o
    .rcases T k a with b|b
     .exact(h.kp k o).2.2.2 t B (.inl b)
     .have:=(h.kp k o).1;omega
    .have O:u.ownBlock=some k:=a
     rcases dS a1 W (by decide) with b|b
     .rw[b]at O;cases O
     .exact b (O.t o.symm)
   .rcases o with o|o
    .exact(h.kp k o).2.2.2 t B (.inr a)
    .have b:=P k o;have af:=aK m.oth (show t.vo.ownBlock=some k from a);omega)
 refine⟨_,R,F.m (λk a=>.inl ?_),λk a=>?_⟩
 .rcases a with l|a
  .exact .inr (.inl (by rw[J,l]))
  .exact .inr (.inr ⟨t,B,a⟩)
 .rcases a with(a|a)|rfl|a|⟨s,S,a⟩
  .exact .inl (.inl a)
  .exact .inr (P k a)
  .exact .inl (.inr (.inl rfl))
  .exact .inl (.inr (.inr (.inl a)))
  .rcases EI S with S|rfl
   .exact .inl (.inr (.inr (.inr ⟨s,S,a⟩)))
   .rcases a with a|a
    .exact(T k a).imp (λa5=>.inr (.inr (.inr ⟨t,B,.inl a5⟩))) id
    .exact .inl (.inr (.inr (.inr ⟨t,B,.inr a⟩)))
def mG(o:Option (Nat×RT))(key val:ByteArray):Int:=if bU o≠0 then bU o else if (1<=key.size/\key.size<=24)/\val.size<=400 then 0 else 1
def qEt {M}(h:aY w K q M)(x key a j t)(P:cD M.ts x (some (j,t)))(al:M.ts.length<=8)(aj:t.l.length<=1000000)(b3:t.ch.length<=1000000)(u:t.wr=true)(f:1<=key.size/\key.size<=24)(am:a.size<=400):
  cL 25 #[.p q 2,.i x,.t key,.t a] w λe w'=>e=.r (.i 0)/\∃K' v y,aY w' K' q {M with ts:=M.ts.set j (t.changed ⟨key,a,false⟩ v y)}/\Fr (fpR q M) w w'/\∀k,Bl.or K' (fpR q {M with ts:=M.ts.set j (t.changed ⟨key,a,false⟩ v y)}) k->Bl.or K (fpR q M) k\/w.heap.size<=k:=by
 have T:=gS h P al w (AC _ _);have I:=kX h x _ P;rw[show bU (some (j,t))=0 by simp[bU,u]]at I;have U:=rQ key w;have V:=xS a w;rw[CU f]at U;rw[CU am]at V;have o:=P.1;have b4:=(AD.1 o).1;have s:=BL o;have⟨g,c,e,b2,aq,ar,au,av,ac,ad,aw⟩:=h.tx o;have ab:=(dE h.box).2.2.2.2.2.2.1;rw[e]at ab;have W:=Iu t.vl t.l key a K w (h.each t s).l (λk f=>(h.kp k f).1) aj;have⟨an,ao,a2,_⟩:=(h.each t s).l;rw[a2]at ac W;have⟨l,m,F⟩:=aG (h.each t s).ch;have ah:=(h.each t s).ch;rw[F]at ad ah;have b5:¬(j:Int)<0:=by omega
 have a4:Hid (∀X,bW w X->(∃Q,cW X g Q 119)/\X.cell? (aD g (j * 7+4))=some (.s an t.l.length ao)/\X.cell? (aD g (j * 7+5))=some (.s l t.ch.length m)/\X.ownsRow 0 131 3 (.s l t.ch.length m) t.ch.length (t.ch.flatMap Ch.cells)):=λX ag=>by
  have J:=h.below ag;have⟨ax,ap,H,_,_,_,_,_,G,D,_⟩:=J.tx o;rw[e]at H;simp only[AQ,BB,CC,DD,CV]at H;obtain⟨rfl,rfl⟩:=H;rw[a2]at G;rw[F]at D;have a0:=J.row;rw[e]at a0;have Y:=(J.each t s).ch;rw[F]at Y;exact⟨kZ a0,G,D,Y⟩
 have a5:Hid (∀(b d X3 B:World) (i z:Value),bW w b->b.ownsRow 0 71 2 i (oG t.l key a).length (aI (oG t.l key a))->(nW i w)->d=b.setCell (aD g (j * 7+4)) i->fF 131 3 (.s l t.ch.length m) t.ch.length (t.ch.flatMap Ch.cells) [.t key,.t a,.bool false] 1 d z X3->B=X3.setCell (aD g (j * 7+5)) z->∃K' v y,aY B K' q {M with ts:=M.ts.set j (t.changed ⟨key,a,false⟩ v y)}/\Fr (fpR q M) w B/\∀k,Bl.or K' (fpR q {M with ts:=M.ts.set j (t.changed ⟨key,a,false⟩ v y)}) k->Bl.or K (fpR q M) k\/w.heap.size<=k):=λb d X3 B i z C a6 a7 a8 a9 aa=>by
  have⟨K',r⟩:=h.change o e ⟨key,a,false⟩ i z C a6 a7 a8 (by rw[F];exact a9) aa;exact⟨K',i,z,r⟩
 go_enter Tryz.func25,Tryz.ntmps25;simp only[jD]at T I;go_wp2_with (first
  |(go_at_call 66;apply Calls.m T;rintro e w' ⟨rfl,u⟩;subst w')
  |(go_at_call 67;apply Calls.m I;rintro e w' ⟨rfl,u⟩;subst w')
  |(go_at_call 68;apply Calls.m U;rintro e w' ⟨rfl,u⟩;subst w')
  |(go_at_call 69;apply Calls.m V;rintro e w' ⟨rfl,u⟩;subst w')
  |(go_at_call 70;apply Calls.m W;rintro e b ⟨i,rfl,a1,S,ak⟩;have⟨⟨Q,O⟩,G,D,L⟩:=a4 b S;obtain⟨C,a3,rfl⟩:=aG a1;have az:=aA O;have⟨d,E⟩:=nM (b.setCell (aD g (j * 7+4)) (.s C (oG t.l key a).length a3));have af:Fr (Bl.one g) b d:=E▸(AE (Bl.one g) b).s g (j * 7+4);have ae:d.cell? (aD g (j * 7+5))=some (.s l t.ch.length m):=(by rw[<-E,DV _ _ _ _ (by simp)];exact D);have N:=aS L (af.on (Z:=λk=>(Value.slice l t.ch.length m).ownBlock=some k) (λk f=>⟨aK L f,λR=>by simp only[Bl.one]at R;subst R;exact aP L O (by decide) f⟩)) (λk f=>f);have n:=aB O (j * 7+4) (.s C (oG t.l key a).length a3);rw[E]at n)
  |(at_builtin;apply fQ d rfl (.tmp 55) (.tmp 59) 117 131 _ 3 40 rfl Tryz.underlying117 Zb rfl (by decide) (.s l t.ch.length m) t.ch.length (t.ch.flatMap Ch.cells) rfl N [.t key,.t a,.bool false] rfl rfl (by simp[Value.oneCell']) (by omega) (by omega);intro v3 X3 A;obtain⟨ay,b6,rfl⟩:=A.shape (by decide);have b1:=(A.fr.cell (gL n) (aP N n (by decide))).t ae;have b0:=aA (A.fr.heap n (aP N n (by decide)))))
 go_ret;exact⟨rfl,a5 b d X3 _ _ _ S a1 ak E.symm A rfl⟩
def qEs {M}(h:aY w K q M)(x key b o)(m:cD M.ts x o)(p:M.ts.length<=8)(n:mG o key b≠0):
  cL 25 #[.p q 2,.i x,.t key,.t b] w λe w'=>e=.r (.i (mG o key b))/\w'=w:=by
 have k:=gS h m p w (AC _ _);have j:=kX h x o m;have d:=rQ key w;have f:=xS b w;have c:Hid (mG o key b=if bU o≠0 then bU o else if (1<=key.size/\key.size<=24)/\b.size<=400 then 0 else 1):=rfl;generalize mG o key b=za at c n⊢;generalize bU o=z at j c;generalize jD o=i at k j;by_cases hzz:z=0
 .have r:(z != 0)=false:=by simp[hzz]
  by_cases hk:1<=key.size/\key.size<=24
  .have l:¬b.size<=400:=λl=>n (by rw[c.o,AR (λh=>h hzz),AU ⟨hk,l⟩])
   rw[CU hk]at d;rw[EP l]at f;have g:Hid (za=1):=by show _=_;rw[c.o,AR (λh=>h hzz),AR (λh=>l h.2)]
   go_enter Tryz.func25,Tryz.ntmps25;go_wp2_with (first
   |(go_at_call 66;apply Calls.m k;rintro e w' ⟨rfl,a⟩;subst w')
   |(go_at_call 67;apply Calls.m j;rintro e w' ⟨rfl,a⟩;subst w')
   |(go_at_call 68;apply Calls.m d;rintro e w' ⟨rfl,a⟩;subst w')
   |(go_at_call 69;apply Calls.m f;rintro e w' ⟨rfl,a⟩;subst w'))
   go_ret;exact⟨by rw[g.o];rfl,rfl⟩
  .rw[EP hk]at d
   have g:Hid (za=1):=by show _=_;rw[c.o,AR (λh=>h hzz),AR (λh=>hk h.1)]
   generalize decide (b.size<=400)=vb at f;go_enter Tryz.func25,Tryz.ntmps25;go_wp2_with (first
   |(go_at_call 66;apply Calls.m k;rintro e w' ⟨rfl,a⟩;subst w')
   |(go_at_call 67;apply Calls.m j;rintro e w' ⟨rfl,a⟩;subst w')
   |(go_at_call 68;apply Calls.m d;rintro e w' ⟨rfl,a⟩;subst w')
   |(go_at_call 69;apply Calls.m f;rintro e w' ⟨rfl,a⟩;subst w'))
   go_ret;exact⟨by rw[g.o];rfl,rfl⟩
 .have r:(z != 0)=true:=by simpa using hzz
  have g:Hid (za=z):=by show _=_;rw[c.o,AU hzz]
  generalize decide (b.size<=400)=vb at f;generalize decide (1<=key.size/\key.size<=24)=kb at d;go_enter Tryz.func25,Tryz.ntmps25;go_wp2_with (first
   |(go_at_call 66;apply Calls.m k;rintro e w' ⟨rfl,a⟩;subst w')
   |(go_at_call 67;apply Calls.m j;rintro e w' ⟨rfl,a⟩;subst w')
   |(go_at_call 68;apply Calls.m d;rintro e w' ⟨rfl,a⟩;subst w')
   |(go_at_call 69;apply Calls.m f;rintro e w' ⟨rfl,a⟩;subst w'))
  go_ret;exact⟨by rw[g.o];rfl,rfl⟩
def qEw {M}(h:aY w K q M)(x key j t)(D:cD M.ts x (some (j,t)))(W:M.ts.length<=8)(ak:t.l.length<=1000000)(b3:t.ch.length<=1000000)(F:t.wr=true)(d:1<=key.size/\key.size<=24)(a3)(ai:rF t.l key=some a3)(am:∀t∈M.ts,t.l.length<=1000000):
  cL 73 #[.p q 2,.i x,.t key] w λe w'=>e=.r (.i 0)/\∃K' v s,aY w' K' q {M with ts:=M.ts.set j (t.changed ⟨key,⟨#[]⟩,true⟩ v s)}/\Fr (fpR q M) w w'/\∀k,Bl.or K' (fpR q {M with ts:=M.ts.set j (t.changed ⟨key,⟨#[]⟩,true⟩ v s)}) k->Bl.or K (fpR q M) k\/w.heap.size<=k:=by
 have S:=gS h D W w (AC _ _);have I:=kX h x _ D;rw[show bU (some (j,t))=0 by simp[bU,F]]at I;have T:=Dw h x key _ D W am;rw[show eO (some (j,t)) key=(a3,0) by simp only[eO];rw[AU d,ai]]at T;have n:=D.1;have b4:=(AD.1 n).1;have o:=BL n;have⟨g,c,e,b2,aq,ar,au,av,ac,ad,aw⟩:=h.tx n;have ab:=(dE h.box).2.2.2.2.2.2.1;rw[e]at ab;have U:=Yg t.vl t.l key K w (h.each t o).l (λk d=>(h.kp k d).1) ak;have⟨an,ao,a1,_⟩:=(h.each t o).l;rw[a1]at ac U;have⟨i,l,E⟩:=aG (h.each t o).ch;have ah:=(h.each t o).ch;rw[E]at ad ah;have b5:¬(j:Int)<0:=by omega
 have a4:Hid (∀X,bW w X->(∃P,cW X g P 119)/\X.cell? (aD g (j * 7+4))=some (.s an t.l.length ao)/\X.cell? (aD g (j * 7+5))=some (.s i t.ch.length l)/\X.ownsRow 0 131 3 (.s i t.ch.length l) t.ch.length (t.ch.flatMap Ch.cells)):=λX ag=>by
  have J:=h.below ag;have⟨ax,ap,H,_,_,_,_,_,G,B,_⟩:=J.tx n;rw[e]at H;simp only[AQ,BB,CC,DD,CV]at H;obtain⟨rfl,rfl⟩:=H;rw[a1]at G;rw[E]at B;have Y:=J.row;rw[e]at Y;have V:=(J.each t o).ch;rw[E]at V;exact⟨kZ Y,G,B,V⟩
 have a5:Hid (∀(a b X3 z:World) (f u:Value),bW w a->a.ownsRow 0 71 2 f (rwo t.l key).length (aI (rwo t.l key))->(nW f w)->b=a.setCell (aD g (j * 7+4)) f->fF 131 3 (.s i t.ch.length l) t.ch.length (t.ch.flatMap Ch.cells) [.t key,.e,.bool true] 1 b u X3->z=X3.setCell (aD g (j * 7+5)) u->∃K' v s,aY z K' q {M with ts:=M.ts.set j (t.changed ⟨key,⟨#[]⟩,true⟩ v s)}/\Fr (fpR q M) w z/\∀k,Bl.or K' (fpR q {M with ts:=M.ts.set j (t.changed ⟨key,⟨#[]⟩,true⟩ v s)}) k->Bl.or K (fpR q M) k\/w.heap.size<=k):=λa b X3 z f u A a6 a7 a8 a9 aa=>by
  have⟨K',r⟩:=h.change n e ⟨key,⟨#[]⟩,true⟩ f u A a6 a7 a8 (by rw[E];exact a9) aa;exact⟨K',f,u,r⟩
 go_enter Tryz.func73,Tryz.ntmps73;simp only[jD]at S I;go_wp2_with (first
  |(go_at_call 66;apply Calls.m S;rintro e w' ⟨rfl,F⟩;subst w')
  |(go_at_call 67;apply Calls.m I;rintro e w' ⟨rfl,F⟩;subst w')
  |(go_at_call 59;apply Calls.m T;rintro e w' ⟨rfl,F⟩;subst w')
  |(go_at_call 108;apply Calls.m U;rintro e a ⟨f,rfl,a0,R,al⟩;have⟨⟨P,O⟩,G,B,L⟩:=a4 a R;obtain⟨A,a2,rfl⟩:=aG a0;have az:=aA O;have⟨b,C⟩:=nM (a.setCell (aD g (j * 7+4)) (.s A (rwo t.l key).length a2));have af:Fr (Bl.one g) a b:=C▸(AE (Bl.one g) a).s g (j * 7+4);have ae:b.cell? (aD g (j * 7+5))=some (.s i t.ch.length l):=(by rw[<-C,DV _ _ _ _ (by simp)];exact B);have N:=aS L (af.on (Z:=λk=>(Value.slice i t.ch.length l).ownBlock=some k) (λk d=>⟨aK L d,λQ=>by simp only[Bl.one]at Q;subst Q;exact aP L O (by decide) d⟩)) (λk d=>d);have m:=aB O (j * 7+4) (.s A (rwo t.l key).length a2);rw[C]at m)
  |(at_builtin;apply fQ b rfl (.tmp 50) (.tmp 53) 117 131 _ 3 40 rfl Tryz.underlying117 Zb rfl (by decide) (.s i t.ch.length l) t.ch.length (t.ch.flatMap Ch.cells) rfl N [.t key,.e,.bool true] rfl rfl (by simp[Value.oneCell']) (by omega) (by omega);intro v3 X3 y;obtain⟨ay,b6,rfl⟩:=y.shape (by decide);have b1:=(y.fr.cell (gL m) (aP N m (by decide))).t ae;have b0:=aA (y.fr.heap m (aP N m (by decide)))))
 go_ret;exact⟨rfl,a5 a b X3 _ _ _ R a0 al C.symm y rfl⟩
def iF(o:Option (Nat×RT))(key:ByteArray):Int:=if bU o≠0 then bU o else (eO o key).2
def qEv {M}(h:aY w K q M)(x key o)(j:cD M.ts x o)(l:M.ts.length<=8)(m:∀t∈M.ts,t.l.length<=1000000)(k:iF o key≠0):
  cL 73 #[.p q 2,.i x,.t key] w λe w'=>e=.r (.i (iF o key))/\w'=w:=by
 have g:=gS h j l w (AC _ _);have d:=kX h x o j;have f:=Dw h x key o j l m;have a:Hid (iF o key=if bU o≠0 then bU o else (eO o key).2):=rfl;generalize iF o key=za at a k⊢;generalize bU o=z at d a;generalize jD o=i at g d;generalize (eO o key).1=gv at f;generalize (eO o key).2=gz at f a;by_cases hzz:z=0
 .have n:(z != 0)=false:=by simp[hzz]
  have c:Hid (za=gz):=by show _=_;rw[a.o,AR (λh=>h hzz)]
  have p:(gz != 0)=true:=by rw[c.o]at k;simpa using k
  go_enter Tryz.func73,Tryz.ntmps73;go_wp2_with (first
   |(go_at_call 66;apply Calls.m g;rintro e w' ⟨rfl,b⟩;subst w')
   |(go_at_call 67;apply Calls.m d;rintro e w' ⟨rfl,b⟩;subst w')
   |(go_at_call 59;apply Calls.m f;rintro e w' ⟨rfl,b⟩;subst w'))
  go_ret;exact⟨by rw[c.o];rfl,rfl⟩
 .have n:(z != 0)=true:=by simpa using hzz
  have c:Hid (za=z):=by show _=_;rw[a.o,AU hzz]
  go_enter Tryz.func73,Tryz.ntmps73;go_wp2_with (first
   |(go_at_call 66;apply Calls.m g;rintro e w' ⟨rfl,b⟩;subst w')
   |(go_at_call 67;apply Calls.m d;rintro e w' ⟨rfl,b⟩;subst w')
   |(go_at_call 59;apply Calls.m f;rintro e w' ⟨rfl,b⟩;subst w'))
  go_ret;exact⟨by rw[c.o];rfl,rfl⟩
def Mf:(Tryz.prog.info? 119).map (λi=>(i.zero,i.size,i.bytes))=some (some (.agg #[.i 0,.bool false,.n,.i 0,.n,.n,.n]),7,120):=by kernel_rfl
def kK:∀(a:List RT),(a.flatMap RT.cells).length=a.length * 7
 |[]=>rfl
 |x :: a=>by have:=kK a;simp only[AK,jK,jB,this];simp;omega
def aY.one {M}(h:aY w K q M){c:List RT}(i:∀t∈c,t∈M.ts):∀u∈c.flatMap RT.cells,u.oneCell'=true:=by
 intro u b;have⟨t,j,b⟩:=AX.1 b;have a:=h.each t (i t j);have⟨k,l,d,_⟩:=a.bg;have⟨o,p,e,_⟩:=a.l;have⟨m,n,f⟩:=aG a.ch;have⟨r,s,g⟩:=aG a.oth;simp only[RT.cells,AS,FK,KT]at b;rcases b with rfl|rfl|rfl|rfl|rfl|rfl|rfl
 .rfl
 .rfl
 .rw[d];rfl
 .rfl
 .rw[e];rfl
 .rw[f];rfl
 .rw[g];rfl
def aY.rerow {w w' M}(h:aY w K q M){b v}(g:b.Sublist M.ts)(i:Fr (Bl.one q) w w')(m:w'.heap[q]?=some ({M with ov:=v,ts:=b}:RM).obj)(n:w'.ownsRow 0 119 7 v b.length (b.flatMap RT.cells))(l:nW v w):
  aY w' K q {M with ov:=v,ts:=b}/\∀k,Bl.or K (fpR q {M with ov:=v,ts:=b}) k->Bl.or K (fpR q M) k\/w.heap.size<=k:=by
 have j:=i.on (λk a=>⟨(h.kp k a).1,λc=>(h.kp k a).2.1 c⟩);refine⟨⟨m,n,h.now.on j,h.ah.on j,λe d=>?_,h.apart.sublist g,λk a=>⟨jY (h.kp k a).1 i.size,(h.kp k a).2.1,λc=>by have o:=l k c;have p:=(h.kp k a).1;omega,λe d=>(h.kp k a).2.2.2 e (g.subset d)⟩⟩,λk a=>?_⟩
 .have f:=h.each e (g.subset d)
  exact f.on j (i.on (λk a=>⟨f.lies k a,λc=>by
   cases c;exact a.elim (aP f.ch h.box (by decide)) (aP f.oth h.box (by decide))⟩))
 .rcases a with a|rfl|a|⟨e,d,a⟩
  .exact .inl (.inl a)
  .exact .inl (.inr (.inl rfl))
  .exact .inr (l k a)
  .exact .inl (.inr (.inr (.inr ⟨e,g.subset d,a⟩)))
def wS {M}(h:aY w K q M)(x j t)(Y:cD M.ts x (some (j,t)))(aj:M.ts.length<=8):
  cL 28 #[.p q 2,.i x] w λe w'=>e=.r (.i 0)/\∃v,aY w' K q {M with ov:=v,ts:=M.ts.eraseIdx j}/\Fr (Bl.one q) w w'/\∀k,Bl.or K (fpR q {M with ov:=v,ts:=M.ts.eraseIdx j}) k->Bl.or K (fpR q M) k\/w.heap.size<=k:=by
 have T:=gS h Y aj w (AC _ _);have W:=Y.1;have ah:j<M.ts.length:=(AD.1 W).1;obtain⟨g,c,e,an,_⟩:=h.tx W;obtain⟨au,av,B,_,U⟩:=bR h.row;rw[e]at B;simp only[AQ,CV]at B;obtain⟨rfl,rfl⟩:=B;have a9:=(dE h.box).2.2.2.2.2.2.1;rw[e]at a9;have ao:¬(j:Int)<0:=by omega
 have ar:IntKind.i64.wrap ((j:Int)+1)=(j:Int)+1:=by rw[CS];omega
 have y:Hid (aH w (λk=>M.ov.ownBlock=some k) (some (aD g 0)) ((M.ts.take j).flatMap RT.cells)/\((M.ts.take j).flatMap RT.cells).length=j * 7/\(∀i∈(M.ts.take j).flatMap RT.cells,i.oneCell'=true)):=by
  refine⟨?_,by rw[kK,AY];congr 1;omega,h.one (λt I=>DC I)⟩;have A:(M.ts.take j).flatMap RT.cells++(M.ts.drop j).flatMap RT.cells=M.ts.flatMap RT.cells:=by rw[<-BV,CD]
  rcases U with C|⟨b,a2,o,E,G⟩
  .have:=kK M.ts;rw[C]at this;simp at this;omega
  .exact .inr ⟨b,a2,o,E,λJ i r=>G J i (by rw[<-A];exact(BO (AD.1 r).1).t r)⟩
 have a5:Hid (∀X L,bW w X->(j+1<M.ts.length->L=some (aD g ((j+1) * 7)))->aH X (λk=>M.ov.ownBlock=some k) L ((M.ts.drop (j+1)).flatMap RT.cells)):=by
  intro X L D am;rcases BR (j+1) M.ts.length with ai|ag
  .have A:(M.ts.take (j+1)).flatMap RT.cells++(M.ts.drop (j+1)).flatMap RT.cells=M.ts.flatMap RT.cells:=by rw[<-BV,CD]
   have aa:((M.ts.take (j+1)).flatMap RT.cells).length=(j+1) * 7:=by rw[kK,AY];congr 1;omega
   have ae:=U.on (vV D (λk d=>aK h.row d));rcases ae with C|⟨b,a2,o,E,G⟩
   .have:=kK M.ts;rw[C]at this;simp at this;omega
   .simp only[BB,CC,DD]at o
    obtain⟨rfl,rfl⟩:=o;refine .inr ⟨g,(j+1) * 7,am ai,E,λJ i r=>?_⟩;have:=G ((j+1) * 7+J) i (by rw[<-A,BC (by omega),aa,Nat.add_sub_cancel_left];exact r);simpa using this
  .exact .inl (by rw[CW ag];rfl)
 have N:Hid (((M.ts.drop (j+1)).flatMap RT.cells).length=(M.ts.length-(j+1)) * 7/\∀i∈(M.ts.drop (j+1)).flatMap RT.cells,i.oneCell'=true):=⟨by rw[kK,BE],h.one (λt I=>BS I)⟩;have u:Hid (∀X,bW w X->X.c q 6=some (.q g M.ts.length c)/\X.heap[q]?=some M.obj):=λX D=>by
  have Q:=(h.below D).box;have:=(dE Q).2.2.2.2.2.2.1;rw[e]at this;exact⟨this,Q⟩
 have a6:Hid (∀(a:World) (f:Value) (s:Nat),bW w a->s=M.ts.length-(j+1)->a.ownsRow 0 119 7 f (j+s) ([]++(M.ts.take j).flatMap RT.cells++(M.ts.drop (j+1)).flatMap RT.cells)->(nW f w)->∃v,aY (a.setCell (aD q 6) f) K q {M with ov:=v,ts:=M.ts.eraseIdx j}/\Fr (Bl.one q) w (a.setCell (aD q 6) f)/\∀k,Bl.or K (fpR q {M with ov:=v,ts:=M.ts.eraseIdx j}) k->Bl.or K (fpR q M) k\/w.heap.size<=k):=by
  intro a f s R ap H al;have V:=(u.o a R).2;have P:Fr (Bl.one q) a (a.setCell (aD q 6) f):=(AE (Bl.one q) a).s q 6;have F:=(AB R).t P;have af:=aB V 6 f;have a0:=aS H (P.on (Z:=λk=>f.ownBlock=some k) (λk d=>⟨aK H d,λO=>by simp only[Bl.one]at O;subst O;exact aP H V (by decide) d⟩)) (λk d=>d);have ad:=(List.eraseIdx_eq_take_drop_succ M.ts j).symm;have ac : []++(M.ts.take j).flatMap RT.cells++(M.ts.drop (j+1)).flatMap RT.cells=(M.ts.eraseIdx j).flatMap RT.cells:=by rw[<-ad,BV];rfl
  have ab:j+s=(M.ts.eraseIdx j).length:=by rw[CJ ah];omega
  rw[ac,ab]at a0;obtain⟨a7,a8⟩:=h.rerow (v:=f) (DF M.ts j) F (by simpa using af) a0 al;exact⟨f,a7,F,a8⟩
 simp only[jD]at T;go_enter Tryz.func28,Tryz.ntmps28;go_wp2_with (first
  |(go_at_call 66;apply Calls.m T;rintro e w' ⟨rfl,aq⟩;subst w')
  |(at_builtin;refine fC w rfl (.tmp 12) (.tmp 18) 33 119 _ 7 120 rfl Tryz.underlying33 Mf rfl (by decide) .n 0 [] rfl (AL _ _ _ _) (some (aD g 0)) j c _ ((M.ts.take j).flatMap RT.cells) rfl y.o.2.1 y.o.1 y.o.2.2 (by omega) (by omega) ?_;intro az z m;obtain⟨a3,a4,rfl⟩:=aG m.row;have l:=m.fr.below (jU _) (λk d=>by simp[Value.ownBlock]at d);have aw:=(u.o z l).1;have a1:∀k,(Value.slice a3 (0+j) a4).ownBlock=some k->w.heap.size<=k:=λk d=>(m.lies k d).elim (λh=>by simp[Value.ownBlock]at h) id)
  |(at_builtin;refine fC z rfl (.tmp 21) (.tmp 28) 33 119 _ 7 120 rfl Tryz.underlying33 Mf rfl (by decide) (.s a3 (0+j) a4) (0+j) ([]++(M.ts.take j).flatMap RT.cells) (by simp[Act.eval]) m.row _ _ _ _ ((M.ts.drop (j+1)).flatMap RT.cells) rfl (by rw[N.o.1]<;>omega) (a5.o z _ l (by first|(intro _;rfl)|(intro h;exact AR (by omega))|(intro h;exfalso;omega))) N.o.2 (by omega) (by omega) ?_;intro f a n;obtain⟨b0,b1,rfl⟩:=aG n.row;have S:=l.t (n.fr.below l.size a1);obtain⟨ax,ak⟩:=u.o a S;have ay:=aA ak))
 all_goals go_ret
 all_goals exact⟨rfl,a6.o a _ (M.ts.length-(j+1)) S rfl (by have:=n.row;simpa only[DS] using this) (λk d=>(n.lies k (by simpa only[DS] using d)).elim (a1 k) (λh=>vJ l.size h))⟩
def qIy {M}(h:aY w K q M)(x)(c:cD M.ts x none)(b:M.ts.length<=8):
  cL 28 #[.p q 2,.i x] w λe w'=>e=.r (.i 3)/\w'=w:=by
 have a:=gS h c b w (AC _ _);simp only[jD]at a;go_enter Tryz.func28,Tryz.ntmps28;go_wp2_with (go_at_call 66;apply Calls.m a;rintro e w' ⟨rfl,d⟩;subst w');go_ret;exact⟨rfl,rfl⟩
def RM.begun(M:RM)(num:Int)(wr:Bool)(v:Value):RT:=⟨num,wr,M.now,M.nv,M.now,[],[],M.vn,v,.slice none 0 0,.slice none 0 0⟩
variable {M:RM}
def aY.push {w A X3}(h:aY w K q M)(u:bW w A){i v3}(U:A.ownsRow 0 71 2 i M.now.length (aI M.now))(T:nW i w)(o r)(s:fF 119 7 M.ov M.ts.length (M.ts.flatMap RT.cells) (M.begun o r i).cells 1 A v3 X3):
  ∃K',aY (X3.setCell (aD q 6) v3) K' q {M with ov:=v3,ts:=M.ts++[M.begun o r i]}/\Fr (fpR q M) w (X3.setCell (aD q 6) v3)/\∀k,Bl.or K' (fpR q {M with ov:=v3,ts:=M.ts++[M.begun o r i]}) k->Bl.or K (fpR q M) k\/w.heap.size<=k:=by
 have⟨l,B⟩:=nM (X3.setCell (aD q 6) v3);rw[B];have a9:=u.size;have p:=aS h.row (vV (Y:=λk=>k<w.heap.size) u (λk c=>c)) (λk c=>aK h.row c);have L:=(h.below u).box;have N:=s.fr.heap L (aP p L (by decide));have P:Fr (Bl.one q) X3 l:=B▸(AE (Bl.one q) X3).s q 6;have a3:l.heap[q]?=some ({M with ov:=v3,ts:=M.ts++[M.begun o r i]}:RM).obj:=by rw[<-B];have:=aB N 6 v3;simpa using this
 have X:∀{y:TypeId}{z n:Nat}{v:Value}{a2:List Value},X3.ownsRow 0 y z v n a2->y≠43->l.ownsRow 0 y z v n a2:=λD a5=>aS D (P.on (Z:=λk=>_=some k) (λk c=>⟨aK D c,λO=>by cases O;exact aP D N (λg=>a5 g.symm) c⟩)) (λk c=>c);have a1:=X s.row (by decide);have J:=X (s.keeps U (dS U p (by decide))) (by decide);have F:Fr (λk=>k=q\/M.ov.ownBlock=some k) w l:=((AB u).t (s.fr.m (λk c=>.inl (.inr c)))).t (P.m (λk c=>.inl (.inl c)));have x:=F.on (λk c=>⟨(h.kp k c).1,λH=>H.elim (h.kp k c).2.1 (h.kp k c).2.2.1⟩);have V:∀k,v3.ownBlock=some k->M.ov.ownBlock=some k\/w.heap.size<=k:=λk c=>(s.lies k c).imp id (λQ=>by omega);have W:∀e∈M.ts,∀k,fpX e k->k≠q/\M.ov.ownBlock≠some k:=λe d k c=>by
  have j:=h.each e d;refine⟨λg=>by subst g;exact c.elim (aP j.ch h.box (by decide)) (aP j.oth h.box (by decide)),λg=>?_⟩;rcases c with c|c
  .rcases dS j.ch h.row (by decide) with f|f
   .rw[f]at c;cases c
   .exact f (c.t g.symm)
  .rcases dS j.oth h.row (by decide) with f|f
   .rw[f]at c;cases c
   .exact f (c.t g.symm)
 have C:∀k,¬fpX (M.begun o r i) k:=λk c=>by rcases c with c|c<;>simp[RM.begun,Value.ownBlock]at c
 refine⟨λk=>K k\/i.ownBlock=some k,⟨a3,by simpa using a1,(h.now.on x).m (λk c=>.inl c),(h.ah.on x).m (λk c=>.inl c),λe d=>?_,?_,λk c=>?_⟩,F.m (λk c=>.inl (c.imp id .inl)),λk c=>?_⟩
 .rcases AO.1 d with d|d
  .have j:=h.each e d
   have t:=j.on x (F.on (λk c=>⟨j.lies k c,λH=>H.elim (W e d k c).1 (W e d k c).2⟩));exact⟨t.bg.m (λk c=>.inl c),t.l.m (λk c=>.inl c),t.ch,t.oth⟩
  .rw[AJ]at d
   subst d;exact⟨(h.now.on x).m (λk c=>.inl c),(JT J).m (λk c=>.inr c),AL _ _ _ _,AL _ _ _ _⟩
 .refine CO.2 ⟨h.apart,by simp,λa a6 b S k c a4=>?_⟩
  rw[AJ]at S;subst S;exact C k a4
 .have R:∀e∈M.ts++[M.begun o r i],fpX e k->∃e∈M.ts,fpX e k:=λe d m=>by
   rcases AO.1 d with d|d
   .exact⟨e,d,m⟩
   .rw[AJ]at d;subst d;exact absurd m (C k)
  rcases c with c|c
  .refine⟨jY (h.kp k c).1 F.size,(h.kp k c).2.1,λg=>?_,λe d m=>?_⟩
   .rcases V k g with f|f
    .exact(h.kp k c).2.2.1 f
    .have:=(h.kp k c).1;omega
   .have⟨I,E,G⟩:=R e d m
    exact(h.kp k c).2.2.2 I E G
  .have a7:=T k c
   have a8:=(gL h.box);refine⟨aK J c,by omega,λg=>?_,λe d m=>?_⟩
   .rcases dS J a1 (by decide) with f|f
    .rw[f]at c;cases c
    .exact f (c.t g.symm)
   .have⟨I,E,G⟩:=R e d m
    have:=(h.each I E).lies k G;omega
 .rcases c with(c|c)|rfl|c|⟨e,d,c⟩
  .exact .inl (.inl c)
  .exact .inr (T k c)
  .exact .inl (.inr (.inl rfl))
  .exact(V k c).imp (λQ=>.inr (.inr (.inl Q))) id
  .rcases AO.1 d with d|d
   .exact .inl (.inr (.inr (.inr ⟨e,d,c⟩)))
   .rw[AJ]at d;subst d;exact absurd c (C k)
def aY.renum (h:aY w K q M)(z):aY (w.setCell (aD q 7) (.i z)) K q {M with last:=z}:=by
 have e:Fr (Bl.one q) w (w.setCell (aD q 7) (.i z)):=(AE (Bl.one q) w).s q 7;have g:=e.on (λc a=>⟨(h.kp c a).1,λd=>(h.kp c a).2.1 d⟩);have b:=aB h.box 7 (.i z);refine⟨by simpa using b,aS h.row (e.on (Z:=λc=>M.ov.ownBlock=some c) (λc a=>⟨aK h.row a,λi=>by cases i;exact aP h.row h.box (by decide) a⟩)) (λc a=>a),h.now.on g,h.ah.on g,λk j=>?_,h.apart,λc a=>⟨jY (h.kp c a).1 e.size,(h.kp c a).2⟩⟩;have f:=h.each k j;exact f.on g (e.on (λc a=>⟨f.lies c a,λd=>by
  cases d;exact a.elim (aP f.ch h.box (by decide)) (aP f.oth h.box (by decide))⟩))
def Oe (h:aY w K q M)(c)(f:8<=M.ts.length):
  cL 22 #[.p q 2,.bool c] w λe w'=>e=.r (.tuple #[.i 0,.i 6])/\w'=w:=by
 have a:=(dE h.box).2.2.2.2.2.2.1;have⟨g,i,b⟩:=aG h.row;rw[b]at a;have d:(8:Int)<=(M.ts.length:Int):=by omega
 go_enter Tryz.func22,Tryz.ntmps22;go_wp2;go_ret2;exact⟨rfl,rfl⟩
def Uj (h:aY w K q M)(l)(aq:M.ts.length<8)(a8:M.now.length<=1000000)(au:0<=M.last/\M.last<1000000000):
  cL 22 #[.p q 2,.bool l] w λe w'=>e=.r (.tuple #[.i (M.last+1),.i 0])/\∃K' v N,aY w' K' q {M with last:=M.last+1,ov:=v,ts:=M.ts++[M.begun (M.last+1) l N]}/\Fr (fpR q M) w w'/\∀k,Bl.or K' (fpR q {M with last:=M.last+1,ov:=v,ts:=M.ts++[M.begun (M.last+1) l N]}) k->Bl.or K (fpR q M) k\/w.heap.size<=k:=by
 have⟨ah,ai,aj,ak,al,am,a3,an,_⟩:=dE h.box;have⟨g,j,s⟩:=aG h.row;have⟨c,d,y,_⟩:=h.now;rw[s]at a3;have ap:¬(8:Int)<=(M.ts.length:Int):=by omega
 have ar:IntKind.i64.wrap (M.last+1)=M.last+1:=by rw[CS];omega
 have⟨a,G⟩:=nM (w.setCell (aD q 7) (.i (M.last+1)));have o:=h.renum (M.last+1);rw[G]at o;have aw:a.heap.size=w.heap.size:=by rw[<-G];simp[World.setCell]
 have Z:Fr (Bl.one q) w a:=G▸(AE (Bl.one q) w).s q 7;have z:Hid (∀X,bW a X->X.c q 6=some (.s g M.ts.length j)/\X.c q 7=some (.i (M.last+1))/\X.c q 2=some (.slice c M.now.length d)/\X.c q 3=some (.i M.nv)):=λX u=>by
  have⟨_,_,ae,af,_,_,ag,W,_⟩:=dE (o.below u).box;exact⟨by rw[<-s];exact ag,W,by rw[<-y];exact ae,af⟩
 have a0:Hid (∀X,bW a X->cL 58 #[.slice c M.now.length d] X λe w'=>∃v',e=.returned v'/\w'.ownsRow 0 71 2 v' M.now.length (aI M.now)/\bW X w'/\∀k,v'.ownBlock=some k->X.heap.size<=k):=λX u=>by
  have:=wD M.vn M.now K X (o.below u).now a8;rw[y]at this;exact this
 have O:Hid (∀X,bW a X->X.ownsRow 0 119 7 (.s g M.ts.length j) M.ts.length (M.ts.flatMap RT.cells)):=λX u=>by rw[<-s];exact(o.below u).row
 have a2:Hid (∀b X3 (v3:Value) (V:List Value),bW a b->fF 119 7 (.s g M.ts.length j) M.ts.length (M.ts.flatMap RT.cells) V 1 b v3 X3->X3.heap[q]?=some (.cells #[M.f,M.x,.slice c M.now.length d,.i M.nv,M.va,.i M.av,.s g M.ts.length j,.i (M.last+1),M.p0,M.p1,M.p2,M.p3,M.p4,M.p5,M.p6,M.p7,M.p8,M.p9] 43)):=λb X3 v3 V A C=>by
  have Q:=(o.below A).box;have:=C.fr.heap Q (aP (O b A) Q (by decide));rw[<-s,<-y];exact this
 have a1:Hid (∀b X3 (m:Option Addr) (n:Nat) (v3:Value),bW a b->b.ownsRow 0 71 2 (.slice m M.now.length n) M.now.length (aI M.now)->(∀k,(Value.slice m M.now.length n).ownBlock=some k->a.drew.heap.size<=k)->fF 119 7 (.s g M.ts.length j) M.ts.length (M.ts.flatMap RT.cells) [.i (M.last+1),.bool l,.slice c M.now.length d,.i M.nv,.slice m M.now.length n,.n,.n] 1 b v3 X3->∃K',aY (X3.setCell (aD q 6) v3) K' q {M with last:=M.last+1,ov:=v3,ts:=M.ts++[M.begun (M.last+1) l (.slice m M.now.length n)]}/\Fr (fpR q M) w (X3.setCell (aD q 6) v3)/\∀k,Bl.or K' (fpR q {M with last:=M.last+1,ov:=v3,ts:=M.ts++[M.begun (M.last+1) l (.slice m M.now.length n)]}) k->Bl.or K (fpR q M) k\/w.heap.size<=k):=by
  intro b X3 m n v3 A ab a9 C;have Y:fF 119 7 M.ov M.ts.length (M.ts.flatMap RT.cells) (M.begun (M.last+1) l (.slice m M.now.length n)).cells 1 b v3 X3:=by
   rw[s];simp only[RM.begun,RT.cells,y];exact C
  have⟨K',R,B,E⟩:=o.push A ab (λk x=>a9 k x) (M.last+1) l Y;exact⟨K',R,(Z.m (λk x=>.inl (.inl x))).t B,λk x=>(E k x).imp id (λao=>by omega)⟩
 have av:=aA h.box;clear h o y s;go_enter Tryz.func22,Tryz.ntmps22;go_wp2;apply cS (S:=(λX:World=>X.c q 6=some (.s g M.ts.length j)/\X.c q 7=some (.i (M.last+1))/\X.c q 2=some (.slice c M.now.length d)/\X.c q 3=some (.i M.nv))) 25 (by kernel_rfl);have F:=(show(λX:World=>X.c q 6=some (.s g M.ts.length j)/\X.c q 7=some (.i (M.last+1))/\X.c q 2=some (.slice c M.now.length d)/\X.c q 3=some (.i M.nv)) a.drew from z _ (AC _ a).drew);apply tks [(0,.p q 2),(1,.p q 2),(2,.p q 2),(3,.p q 6),(4,.s g M.ts.length j),(5,.p q 2),(6,.p q 2),(7,.p q 7),(8,.i (M.last+1)),(9,.bool l),(10,.p q 2),(11,.p q 2),(12,.p q 2),(13,.agg #[.slice c M.now.length d,.i M.nv]),(14,.p q 2),(15,.p q 2),(16,.p q 2),(17,.p q 2),(18,.slice c M.now.length d)] (by assumption);iterate 19 (refine⟨_,rfl,by kernel_rfl,λ_ _ _ h=>h,.inl ⟨by rfl,λw t=>by(try dsimp only at t);go_simp⟩,?_⟩;try simp only[pS])
 apply tke;refine aR (i:=19) (by kernel_rfl) rfl (λK f=>?_);go_simp;go_at_call 58
 apply Calls.m (a0 _ (AC _ a).drew)
 rintro e b ⟨N,rfl,U,a5,aa⟩;have r:bW a b:=(AC _ a).drew.t a5;obtain⟨m,n,rfl⟩:=aG U;simp only[];apply f _ _ (λ_=>z _ r);clear f K;try simp only[pS]
 have F:=(show(λX:World=>X.c q 6=some (.s g M.ts.length j)/\X.c q 7=some (.i (M.last+1))/\X.c q 2=some (.slice c M.now.length d)/\X.c q 3=some (.i M.nv)) b from z _ r);refine mE (i:=20) (v:=.agg #[.i (M.last+1),.bool l,.slice c M.now.length d,.i M.nv,.slice m M.now.length n,.n,.n]) rfl (by kernel_rfl) (λ_ _ _ h=>h) (.inl ⟨by rfl,λw t=>by(try dsimp only at t);go_simp⟩) (by assumption) (λF=>?_);try simp only[pS]
 refine aR (i:=21) (by kernel_rfl) rfl (λK f=>?_);go_simp;apply f _ _ (λ_=>z _ (r.alloc r.size _));clear f K;try simp only[pS]
 refine aR (i:=22) (by kernel_rfl) rfl (λK f=>?_)
 (apply iZ b rfl (.tmp 23) (.tmp 40) 33 119 _ 7 120 rfl Tryz.underlying33 Mf rfl (by decide) (.s g M.ts.length j) M.ts.length (M.ts.flatMap RT.cells) (by simp[Act.eval,Act.put]) (O b r) [.i (M.last+1),.bool l,.slice c M.now.length d,.i M.nv,.slice m M.now.length n,.n,.n] (by simp[Act.eval,Act.put]) rfl (by simp[Value.oneCell']) (by omega) (by omega);intro v3 X3 D;obtain⟨a4,ac,rfl⟩:=D.shape (by decide);have T:=a2 b X3 _ _ r D;have⟨_,_,H,I,_,_,J,L,_⟩:=dE T;have ad:=aA T)
 apply f _ _ (λ_=>⟨J,L,H,I⟩);clear f K;try simp only[pS]
 have F:=(show(λX:World=>X.c q 6=some (.s g M.ts.length j)/\X.c q 7=some (.i (M.last+1))/\X.c q 2=some (.slice c M.now.length d)/\X.c q 3=some (.i M.nv)) X3 from ⟨J,L,H,I⟩);apply tks [(23,.p q 2),(24,.p q 6)] (by assumption);iterate 2 (refine⟨_,rfl,by kernel_rfl,λ_ _ _ h=>h,.inl ⟨by rfl,λw t=>by(try dsimp only at t);go_simp⟩,?_⟩;try simp only[pS])
 apply tke;refine aR (i:=25) (by kernel_rfl) rfl (λK f=>?_);go_simp;apply f _ _ (λe=>by cases e);clear f K;try simp only[pS]
 refine dC (by kernel_rfl) ?_ _;have⟨K',R,B,E⟩:=a1 b X3 _ _ _ r U aa D;have⟨P,a6⟩:=nM (X3.setCell (aD q 6) (.q a4 (M.ts.length+1) ac));rw[a6]at R B⊢;have W:=(dE R.box).2.2.2.2.2.2.2.1;clear H I J L ad;go_wp2;go_ret2;exact⟨rfl,K',_,_,R,B,E⟩
def qD{l}(b:l.length<=1000000)(a:∀x∈l,x.2.size<=400):dJ l<=4000002:=by
 have:=Es l a;rw[Uf];omega
def iN(M:RM)(t:RT):Nat:=dJ (t.ch.foldl dP M.now)+dJ M.now+dJ M.ah+2+tot (λt:RT=>dJ t.bg) M.ts
def Ny (h:aY w K q M)(x j t)(b4:cD M.ts x (some (j,t)))(bp:M.ts.length<=8)(bm:M.now.length+t.ch.length<=1000000)(bq:M.nv<1000000000/\0<=M.nv)(b3:M.ah.length<=1000000)(ag:∀t∈M.ts,t.bg.length<=1000000)(an:∀x∈t.ch.foldl dP M.now,x.2.size<=400)(b7:∀x∈M.now,x.2.size<=400)(v3:∀x∈M.ah,x.2.size<=400)(ao:∀t∈M.ts,∀x∈t.bg,x.2.size<=400):
  cL 78 #[.p q 2,.i x] w λe w'=>e=.r (.i (iN M t:Nat))/\bW w w':=by
 have bh:=vI h x j t b4 bp bm bq;have af:(t.ch.foldl dP M.now).length<=1000000:=by have:=qR t.ch M.now;omega
 have bu:=qD af an;have bv:=qD (l:=M.now) (by omega) b7;have bw:=qD b3 v3;have be:Hid (∀i,i<=M.ts.length->tot (λt:RT=>dJ t.bg) (M.ts.take i)<=4000002 * 8):=λi a3=>by
  have:∀(o:List RT),(∀t∈o,t∈M.ts)->tot (λt:RT=>dJ t.bg) o<=4000002 * o.length:=λo=>by
   induction o with
   |nil=>intro _;exact jU _
   |cons y o ih =>
    intro ai;have c8:=qD (ag y (ai y (by simp))) (ao y (ai y (by simp)));have c9:=ih (λz br=>ai z (by simp[br]));simp only[cK,jB];omega
  have:=this (M.ts.take i) (λt aj=>DC aj);rw[AY]at this;omega
 have a1:Hid (∀X v (ap:Int) (o:KV) (S:Bl),fM X S v o->(∀u,S u->u<X.heap.size)->o.length<=1000000->(∀x∈o,x.2.size<=400)->cL 109 #[.agg #[v,.i ap]] X λe w'=>e=.returned (.i (dJ o:Nat))/\bW X w'):=λX v ap o S a b c d=>qBp v ap o S X a b c d;have c5:Hid (∀X,bW w X->aY X K q M):=λX f=>h.below f;have a0:Hid (iN M t=dJ (t.ch.foldl dP M.now)+dJ M.now+dJ M.ah+2+tot (λt:RT=>dJ t.bg) M.ts):=rfl;obtain⟨G,H,am,_⟩:=h.now;obtain⟨E,F,ak,_⟩:=h.ah.1;obtain⟨b5,b6,ah⟩:=aG h.row;have av:Hid (∀X,bW w X->X.c q 2=some (.slice G M.now.length H)/\X.c q 3=some (.i M.nv)/\X.c q 4=some (.slice E M.ah.length F)/\X.c q 5=some (.i M.av)/\X.c q 6=some (.slice b5 M.ts.length b6)):=λX f=>by
  obtain⟨_,_,a4,aq,a5,ar,au,_⟩:=dE (h.below f).box;rw[am]at a4;rw[ak]at a5;rw[ah]at au;exact⟨a4,aq,a5,ar,au⟩
 have a7:Hid (∀X,bW w X->fM X K (.slice G M.now.length H) M.now/\fM X K (.slice E M.ah.length F) M.ah/\∀u,K u->u<X.heap.size):=λX f=>by
  have P:=h.below f;exact⟨am▸P.now,ak▸P.ah.1,λu J=>(P.kp u J).1⟩
 have bf:Hid (∀X i (a3:i<M.ts.length),bW w X->∃g c N O,b5=some (aD g 0)/\b6=c/\M.ts.length<=c/\X.c g (i * 7+2)=some (.slice N (M.ts[i]).bg.length O)/\X.c g (i * 7+3)=some (.i (M.ts[i]).bv)/\fM X K (.slice N (M.ts[i]).bg.length O) (M.ts[i]).bg):=λX i a3 f=>by
  have P:=h.below f;obtain⟨g,c,e,bk,_,_,a9,ay,_⟩:=P.tx (jQ a3);rw[ah]at e;simp only[AQ,CV]at e;have a2:=(P.each _ (AA a3)).bg;obtain⟨N,O,al,r⟩:=a2;rw[al]at a9;exact⟨g,c,N,O,e.1,e.2,bk,a9,ay,al▸⟨N,O,al,r⟩⟩
 generalize hNA:dJ (t.ch.foldl dP M.now)=p at bu a0;generalize hNN:dJ M.now=s at bv a0;generalize hNH:dJ M.ah=B at bw a0;clear am ak ah h b4;go_enter Tryz.func78,Tryz.ntmps78;go_wp2_with (go_at_call 79;apply Calls.m bh;rintro e m ⟨cd,rfl,ab,az,bn⟩;obtain⟨C,D,rfl⟩:=aG ab);generalize (t.ch.foldl dP M.now)=LA at ab af an hNA bn⊢;obtain⟨k,a6,-,b8,-⟩:=al1 m (.cells #[.slice C LA.length D,.i (M.nv+1)] 32);have I:bW w k:=a6▸az.alloc az.size _;have ac:=CH (w:=m) ab (.cells #[.slice C LA.length D,.i (M.nv+1)] 32);try rw[a6]
 rw[a6]at ac;have L:Hid (∀X,bW k X->X.c m.heap.size 0=some (.slice C LA.length D)/\X.c m.heap.size 1=some (.i (M.nv+1))/\X.c q 2=some (.slice G M.now.length H)/\X.c q 3=some (.i M.nv)/\X.c q 4=some (.slice E M.ah.length F)/\X.c q 5=some (.i M.av)):=λX f=>by
  obtain⟨c2,c3⟩:=bY ((f.block _ (gL b8)).t b8);obtain⟨a4,aq,a5,ar,_⟩:=av.o X (I.t (f.m I.size));exact⟨c2,c3,a4,aq,a5,ar⟩
 have bb:Hid (cL 109 #[.agg #[.slice C LA.length D,.i (M.nv+1)]] k.drew λe w'=>e=.returned (.i (p:Nat))/\bW k w'):=by
  have a2:bW k k.drew:=(AC _ k).drew;have b1:=aS ac (vV (Y:=λu=>u<k.heap.size) a2 (λu J=>J)) (λu J=>aK ac J);refine(a1.o k.drew _ (M.nv+1) LA _ (JT b1) (λu J=>aK b1 J) af an).m ?_;rintro e w' ⟨rfl,W⟩;exact⟨by rw[hNA],a2.t W⟩
 have bc:Hid (∀X,bW k X->cL 109 #[.agg #[.slice G M.now.length H,.i M.nv]] X λe w'=>e=.returned (.i (s:Nat))/\bW k w'):=λX f=>by
  obtain⟨bs,_,Z⟩:=a7.o X (I.t (f.m I.size));refine(a1.o X _ M.nv M.now K bs Z (by omega) b7).m ?_;rintro e w' ⟨rfl,W⟩;exact⟨by rw[hNN],f.t (W.m f.size)⟩
 have bd:Hid (∀X,bW k X->cL 109 #[.agg #[.slice E M.ah.length F,.i M.av]] X λe w'=>e=.returned (.i (B:Nat))/\bW k w'):=λX f=>by
  obtain⟨_,bt,Z⟩:=a7.o X (I.t (f.m I.size));refine(a1.o X _ M.av M.ah K bt Z b3 v3).m ?_;rintro e w' ⟨rfl,W⟩;exact⟨by rw[hNH],f.t (W.m f.size)⟩
 have bx:IntKind.i64.wrap ((p:Int)+(s:Int))=(p:Int)+(s:Int):=by rw[CS];omega
 have bz:IntKind.i64.wrap ((p:Int)+(s:Int)+(B:Int))=(p:Int)+(s:Int)+(B:Int):=by rw[CS];omega
 have c0:IntKind.i64.wrap ((p:Int)+(s:Int)+(B:Int)+2)=((p+s+B+2:Nat):Int):=by rw[CS];omega
 have c4:=I.size;refine cS (S:=(λX:World=>X.c m.heap.size 0=some (.slice C LA.length D)/\X.c m.heap.size 1=some (.i (M.nv+1))/\X.c q 2=some (.slice G M.now.length H)/\X.c q 3=some (.i M.nv)/\X.c q 4=some (.slice E M.ah.length F)/\X.c q 5=some (.i M.av))) 15 (by kernel_rfl) ?_;have aa:=(show(λX:World=>X.c m.heap.size 0=some (.slice C LA.length D)/\X.c m.heap.size 1=some (.i (M.nv+1))/\X.c q 2=some (.slice G M.now.length H)/\X.c q 3=some (.i M.nv)/\X.c q 4=some (.slice E M.ah.length F)/\X.c q 5=some (.i M.av)) k.drew from L.o _ (AC _ k).drew);refine tks [(0,.agg #[.slice C LA.length D,.i (M.nv+1)]),(2,.p q 2),(3,.p q 2),(4,.p q 2),(5,.agg #[.slice G M.now.length H,.i M.nv]),(8,.p q 2),(9,.p q 2),(10,.p q 4),(11,.agg #[.slice E M.ah.length F,.i M.av])] (by assumption) ?_;iterate 9 (refine⟨_,rfl,by kernel_rfl,λ_ _ _ h=>h,.inl ⟨by rfl,λw V=>by(try dsimp only at V);go_simp⟩,?_⟩;try simp only[pS])
 refine tke ?_;refine aR (i:=1) (by kernel_rfl) rfl (λK A=>?_);go_simp;go_at_call 109
 apply Calls.m bb.o
 rintro e c6 ⟨rfl,b2⟩;simp only[];refine A.out _ _ (λ_=>L.o _ b2) ?_;clear A K;try simp only[pS]
 refine aR (i:=6) (by kernel_rfl) rfl (λK A=>?_);go_simp;go_at_call 109
 apply Calls.m (bc.o _ b2)
 rintro e bg ⟨rfl,ad⟩;simp only[];refine A.out _ _ (λ_=>L.o _ ad) ?_;clear A K;try simp only[pS]
 have aa:=(show(λX:World=>X.c m.heap.size 0=some (.slice C LA.length D)/\X.c m.heap.size 1=some (.i (M.nv+1))/\X.c q 2=some (.slice G M.now.length H)/\X.c q 3=some (.i M.nv)/\X.c q 4=some (.slice E M.ah.length F)/\X.c q 5=some (.i M.av)) bg from L.o _ ad);refine mE (i:=7) (v:=.i ((p:Int)+(s:Int))) rfl (by kernel_rfl) (λ_ _ _ h=>h) (.inl ⟨by rfl,λw V=>by(try dsimp only at V);go_simp⟩) (by assumption) (λaa=>?_);try simp only[pS]
 refine aR (i:=12) (by kernel_rfl) rfl (λK A=>?_);go_simp;go_at_call 109
 apply Calls.m (bd.o _ ad)
 rintro e ax ⟨rfl,ae⟩;simp only[];refine A.out _ _ (λ_=>L.o _ ae) ?_;clear A K;try simp only[pS]
 have aa:=(show(λX:World=>X.c m.heap.size 0=some (.slice C LA.length D)/\X.c m.heap.size 1=some (.i (M.nv+1))/\X.c q 2=some (.slice G M.now.length H)/\X.c q 3=some (.i M.nv)/\X.c q 4=some (.slice E M.ah.length F)/\X.c q 5=some (.i M.av)) ax from L.o _ ae);refine tks [(13,.i ((p:Int)+(s:Int)+(B:Int))),(14,.i ((p+s+B+2:Nat):Int))] (by assumption) ?_;iterate 2 (refine⟨_,rfl,by kernel_rfl,λ_ _ _ h=>h,.inl ⟨by rfl,λw V=>by(try dsimp only at V);go_simp⟩,?_⟩;try simp only[pS])
 refine tke ?_;refine aR (i:=15) (by kernel_rfl) rfl (λK A=>?_);go_simp;refine A.out _ _ (λe=>by cases e) ?_;clear A K;try simp only[pS]
 refine dC (by kernel_rfl) ?_ _;have b9:bW w ax:=I.t (ae.m c4);clear bx bz c0;go_wp2;go_loopw [6,7] (λn i c1=>∃l:Nat,i=.i l/\l<=M.ts.length/\n=.i ((p+s+B+2+tot (λt:RT=>dJ t.bg) (M.ts.take l):Nat):Int)/\Hid (bW w c1)) (λ_ i _=>M.ts.length-(intOf i).toNat)
 case atStart=>exact⟨0,rfl,AG _,by simp[tot],b9⟩
 case round =>
  obtain⟨l,rfl,bo,rfl,ba⟩:=hrel;have Q:=ba.o;have au:=(av.o _ Q).2.2.2.2;have aj:=be.o l bo;rcases BR l M.ts.length with U|cb
  .have cc:(l:Int)<(M.ts.length:Int):=by omega
   obtain⟨g,c,N,O,rfl,rfl,ca,a9,ay,bl⟩:=bf.o _ l U Q;have Z:=(a7.o _ Q).2.2;have b0:=a1.o _ _ (M.ts[l]).bv (M.ts[l]).bg K bl Z (ag _ (AA U)) (ao _ (AA U));have bj:=qD (ag _ (AA U)) (ao _ (AA U));have a8:Hid (tot (λt:RT=>dJ t.bg) (M.ts.take (l+1))=tot (λt:RT=>dJ t.bg) (M.ts.take l)+dJ (M.ts[l]).bg):=lP _ _ _ U;generalize tot (λt:RT=>dJ t.bg) (M.ts.take l)=T at aj a8⊢;generalize dJ (M.ts[l]).bg=R at bj b0 a8;go_wp2_with (go_at_call 109;apply Calls.m b0;rintro e c7 ⟨rfl,bi⟩);exact⟨⟨l+1,by simp,by omega,by rw[a8.o];simp;omega,Q.t (bi.m Q.size)⟩,by simp[intOf];omega⟩
  .obtain rfl:l=M.ts.length:=by omega
   have aw:Hid (p+s+B+2+tot (λt:RT=>dJ t.bg) (M.ts.take M.ts.length)=iN M t):=by show _=_;rw[BK,a0.o]
   generalize p+s+B+2+tot (λt:RT=>dJ t.bg) (M.ts.take M.ts.length)=T at aw⊢;go_wp2;go_ret;exact⟨by rw[aw.o];rfl,Q⟩
def Aj(g b i h d c j f w):
  cL 53 #[.agg #[.s g i h,.i j],.agg #[.s b d c,.i f]] w λe w'=>e=.r (.agg #[.s g i h,.i j,.s b d c,.i f,.n,.i 0])/\bW w w':=by
 obtain⟨a,k,m,q,r,l,-⟩:=al3 w (.cells #[.s g i h,.i j] 32) (.cells #[.s b d c,.i f] 32) (.cells #[.n,.i 0,.n,.i 0,.n,.i 0] 35); have⟨t,u⟩:=bY q;have⟨x,y⟩:=bY r;have⟨z,A,B,C,D,E⟩:=qA l;have F:=aA l;have s:=aB (aB (aB (aB (aB (aB l 0 (.s g i h)) 1 (.i j)) 2 (.s b d c)) 3 (.i f)) 4 .n) 5 (.i 0);have n:Fr (Bl.one (w.heap.size+1+1)) a ((((((a.setCell (aD (w.heap.size+1+1) 0) (.s g i h)).setCell (aD (w.heap.size+1+1) 1) (.i j)).setCell (aD (w.heap.size+1+1) 2) (.s b d c)).setCell (aD (w.heap.size+1+1) 3) (.i f)).setCell (aD (w.heap.size+1+1) 4) .n).setCell (aD (w.heap.size+1+1) 5) (.i 0)):=((((((AE (Bl.one (w.heap.size+1+1)) a).s (w.heap.size+1+1) 0).s (w.heap.size+1+1) 1).s (w.heap.size+1+1) 2).s (w.heap.size+1+1) 3).s (w.heap.size+1+1) 4).s (w.heap.size+1+1) 5;go_enter Tryz.func53,Tryz.ntmps53;go_wp2;refine BI (v:=.agg #[.s g i h,.i j,.s b d c,.i f,.n,.i 0]) ?_ rfl ⟨rfl,m.t (n.below m.size (λG o=>by cases o;omega))⟩;exact EL (p:=4) rfl _ _ (w.heap.size+1+1) _ _ _ _ rfl (by simpa using s) Tryz.underlying35 rfl (by kernel_rfl)
def uQ(D)(g:Nat)(first o)(r:∀args w,(callFunc g args).run Tryz.prog w=.ok (.enter g args) w)(w)(h:aO w 0 D)(Z)(R:Int->World->Prop)(u:∀k,Z k->¬fpD D k/\k<w.heap.size)(B:∀a,aO a 1 D->Fr (Bl.one D.d) w a->w.heap.size<a.heap.size->cL g (first++o) a λe w'=>∃z,e=.r (.i z)/\Fr Z a w'/\R z w')(t:∀z W k v,R z W->k=w.heap.size\/k=D.d->R z (W.setCell (aD k 0) v)):
    cL 32 #[.p D.d 0,.func (.func g) first o] w λe w'=>∃z,e=.r (.i z)/\aO w' 0 D/\Fr (Bl.or (Bl.one D.d) Z) w w'/\R z w':=by
  have G:=(gL h.box);have⟨c,j⟩:=nM (w.setCell (aD D.d 0) (.int .i32 1));have s:aO c 1 D:=j▸h.lock;have F:Fr (Bl.one D.d) w c:=j▸(AE (Bl.one D.d) w).s D.d 0;have E:c.heap.size=w.heap.size:=by rw[<-j];simp
  obtain⟨a,n,q,-⟩:=al1 c (.cells #[.int .i64 0] 48);have x:cW a w.heap.size #[.int .i64 0] 48:=by rw[<-n,<-E];exact aC c _
  have l:=s.on (vV q s.lies);have p:=F.t (AB q);have y:¬fpD D w.heap.size:=λb=>by have:=h.lies _ b;omega
  have A:¬Z w.heap.size:=λb=>by grind
  refine(Gi D.d g first o r w (λz W=>aO W 1 D/\Fr Z a W/\R z W) _ h.box rfl ?_).m ?_
  . rw[j,n]
    apply(B a l p ((gL x))).m;rintro e w' ⟨z,rfl,d,m⟩;have f:=l.on (d.on (λk b=>⟨l.lies k b,λC=>(u k C).1 b⟩));exact⟨z,rfl,d.heap x A,⟨_,f.box,rfl⟩,f,d,m⟩
  . rintro e w' ⟨z,W,rfl,⟨f,d,m⟩,rfl⟩
    exact⟨z,rfl,(f.beside (i:=0) y (.int .i64 z)).lock (st':=0),(((p.m (λk b=>.inl (.inl b))).t (d.m (λk b=>.inl (.inr b)))).s w.heap.size 0 (.inr (jU _))).s D.d 0 (.inl (.inl rfl)),t _ _ _ _ (t _ _ _ _ m (.inl rfl)) (.inr rfl)⟩
def qMx(o:Option (Nat×T))(cs:List Ch)(key:ByteArray)(q:Nat)(z:Int)(W:World):Prop :=
  ∃v,W.heap[q]?=some (.cells #[.string v] 9)/\((sB o cs key=none/\z=5/\v=⟨#[]⟩)\/∃l,sB o cs key=some l/\z=0/\v=⟨l.toArray⟩)
def qGx(D x i t o key b0 b1 b2 b3 w)(h:aO w 1 D)(hal:fnd t.cs key=false->o≠none->(D.fs.life==0)=false)(hro:bQ D.fs t.root o)(hfl:pM o)(hn:D.ts.length≤1000)(hi:i<D.ts.length)(ht:D.ts[i]=t)(hx:gG D.ts x=i)(hr:cF t.cs)(hgd:∀ c∈t.cs,c.good)(hcs:t.cs.length≤1000000)(hk1:1≤key.size)(hk2:key.size≤24)(x0:cW w b0 #[.p D.d 0] 29)(x1:cW w b1 #[.i x] 3)(x2:cW w b2 #[.t key] 9)(x3:cW w b3 #[.e] 9):
    cL 45 #[.p b0 0,.p b1 0,.p b2 0,.p b3 0] w λe w'=>∃ z,e=.r (.i z)∧Fr (Bl.one b3) w w'∧qMx o t.cs key b3 z w':=by
  have hWr:=gJ D 1 x i t w h (by omega) hi ht hx;have hm:t∈D.ts:=ht▸AA hi;have HK:Hid (∀ X,bW w X→aO X 1 D∧X.c b0 0=some (.p D.d 0)∧X.c b1 0=some (.i x)∧cW X b2 #[.t key] 9∧X.c t.b 2=some (.p D.β 0)∧X.c t.b 3=some (.i t.root)∧X.c t.b 4=some (.s t.ca t.cs.length t.cc)∧cW X b3 #[.e] 9):=by
    intro X hX;have hD:=h.on (vV hX h.lies);obtain⟨q0,q1,q2,q3,q4,q5⟩:=qA (hD.each t hm).box;exact⟨hD,bJ ((hX.block _ (gL x0)).t x0),bJ ((hX.block _ (gL x1)).t x1),(hX.block _ (gL x2)).t x2,q2,q3,q4,(hX.block _ (gL x3)).t x3⟩
  obtain⟨_,c0,c1,y2,q2,q3,q4,y3⟩:=HK.o w (AC _ _);have c2:=bJ y2;have hKy:∀ X,cL 39 #[.t key] X λe w'=>e=.r (.bool true)∧w'=X:=λX=>by
    have:=iD key X;rw [CU (LQ hk1 hk2)] at this;exact this
  obtain⟨fb,hfb⟩:=nM (kI o t.cs key);have HFi:Hid (∀ X,aO X 1 D→cL 47 #[.agg #[.p D.β 0,.i t.root,.s t.ca t.cs.length t.cc],.t key] X λe w'=>∃ E:Ent,e=.r (.tuple #[.agg #[.t E.key,.t E.val,.i E.size,.i E.over],.bool fb])∧bW X w'∧Hid ((fb=false∧sB o t.cs key=none)∨∃ V:En,V.good D.fs∧E=V.e∧fb=true∧sB o t.cs key=some V.value∧(V.e.over≠0→(D.fs.life==0)=false))):=λX hX=>by
    obtain⟨a0,cc0,he,hcc,hrow⟩:=bR (hX.each t hm).row;simp only [Tx.cv,AQ,CV] at he;obtain⟨e1,e2⟩:=he;subst e1 e2;refine(Ra D.β D.sv D.lv D.fs t.root t.ca t.cc t.cs key o hal hro (λk=>t.cv.ownBlock=some k) X hX.file hrow (λk hk=>aK (hX.each t hm).row hk) hr hcs hcc (by omega)).m ?_;rintro e w' ⟨E,rfl,hE1,hE2,hb⟩;refine⟨E,by rw [hfb],hb,?_⟩;have:=Kf hro hfl hr hgd hE1 hE2;rw [hfb] at this;refine this.imp id λ⟨V,p1,p2,p3,p4⟩=>⟨V,p1,p2,p3,p4,λhv=>?_⟩;cases hq:fnd t.cs key
    .exact hal hq λho=>by subst ho p3;simp[kI,hq,cU]at hfb
    .have⟨i,_⟩:=tL hq hr
     rw[<-p2,hE1 hq _ (jQ i)]at hv;exact absurd rfl hv
  have HVa:Hid (∀ X (V:En),aO X 1 D→V.good D.fs→(V.e.over≠0→(D.fs.life==0)=false)→cL 48 #[.agg #[.p D.β 0,.i t.root,.s t.ca t.cs.length t.cc],.agg #[.t V.e.key,.t V.e.val,.i V.e.size,.i V.e.over]] X λe w'=>e=.r (.t ⟨V.value.toArray⟩)∧bW X w'):=λX V hX hV ho=>Dh D.β D.sv D.lv D.fs t.root t.ca t.cs.length t.cc V ho X hX.file (Cs hV).1 (Cs hV).2;have l3:=(gL x3);go_enter Tryz.func45,Tryz.ntmps45;go_wp2_with (first
    | (go_at_call 46;apply Calls.m hWr;rintro e X1 ⟨rfl,hX1⟩;obtain⟨hD1,c0,c1,y2,q2,q3,q4,y3⟩:=HK.o X1 hX1;have c2:=bJ y2;have hKy1:=hKy X1)
    | (go_at_call 39;apply Calls.m hKy1;rintro e X1' ⟨rfl,hX1'⟩;subst X1'))
  have HS:Hid (∀ X,bW w X→X.c b2 0=some (.t key)∧X.c t.b 2=some (.p D.β 0)∧X.c t.b 3=some (.i t.root)∧X.c t.b 4=some (.s t.ca t.cs.length t.cc)):=λX hX=>by
    obtain⟨_,_,_,y2,q2,q3,q4,_⟩:=HK.o X hX;exact⟨bJ y2,q2,q3,q4⟩
  have zX1:=hX1.size;go_region_held3 (λX=>X.c b2 0=some (.t key)∧X.c t.b 2=some (.p D.β 0)∧X.c t.b 3=some (.i t.root)∧X.c t.b 4=some (.s t.ca t.cs.length t.cc))
    ((refine HS.o _ ?_;(repeat (first|exact hX1|exact B2|(refine JM ?_)|(refine KY ?_ (by first|omega|(simp;omega)) _)|(refine JQ ?_ (by first|omega|(simp;omega)|(show w.heap.size≤X2.heap.size;omega)|(show w.heap.size≤X1.heap.size;omega)) _)))))
    (first
      | (go_at_call 47;(with_reducible refine Calls.m (HFi.o _ (HK.o _ ?_).1) ?_);(first|exact hX1.drew|exact hX1|exact(hX1.alloc zX1 _).drew|exact hX1.drew.alloc zX1 _);rintro e X2 ⟨E,rfl,hX2,HE⟩;have B2:bW w X2:=(by first|exact hX1.drew.t (hX2.m zX1)|exact(hX1.alloc zX1 _).drew.t (hX2.m (by simp;omega)));have zX2:=B2.size;have xE:=aC X2 rU;obtain⟨g0,g1,g2,g3⟩:=Bz xE;have gfr:=aA xE;try (have xF:X2.heap[X1.heap.size]?=some rU:=(hX2.block _ (by simp)).t (by first|exact aC X1 rU|exact aC X1.drew rU);obtain⟨g0,g1,g2,g3⟩:=Bz xF;have gfr:=aA xF)))
  all_goals
    first
      | (obtain⟨X3,hX3,-,xe,-⟩:=al1 X2 (.cells #[.t E.key,.t E.val,.i E.size,.i E.over] 69)
         rw [hX3];have B3:bW w X3:=hX3▸B2.alloc zX2 _;clear hX3)
      | (obtain⟨X3,hX3⟩:=nM ((((X2.setCell (aD X1.heap.size 0) (.t E.key)).setCell (aD X1.heap.size 1) (.t E.val)).setCell (aD X1.heap.size 2) (.i E.size)).setCell (aD X1.heap.size 3) (.i E.over))
         rw [hX3];have B3:bW w X3:=hX3▸((((B2.setCell (p:=(aD X1.heap.size 0)) zX1 _).setCell (p:=(aD X1.heap.size 1)) zX1 _).setCell (p:=(aD X1.heap.size 2)) zX1 _).setCell (p:=(aD X1.heap.size 3)) zX1 _);have xe:cW X3 X1.heap.size #[.t E.key,.t E.val,.i E.size,.i E.over] 69:=(by
           have e0:=aB (aB (aB (aB xF 0 (.t E.key)) 1 (.t E.val)) 2 (.i E.size)) 3 (.i E.over);rw [hX3] at e0;simpa [rU] using e0)
         clear hX3)
    clear g0 g1 g2 g3 gfr xE;obtain⟨hD3,c0,c1,y2,q2,q3,q4,y3⟩:=HK.o X3 B3;have c2:=bJ y2;rcases HE.o with⟨rfl,hsee⟩|⟨V,hV,rfl,rfl,hsee,hov⟩
    . go_wp2
      go_ret;exact⟨5,rfl,AB B3,_,y3,.inl ⟨hsee,rfl,rfl⟩⟩
    . obtain⟨k0,k1,k2,k3⟩:=kA xe
      have HSE:Hid (sB o t.cs key=some V.value):=hsee;clear hsee;have hne:¬ Bl.one b3 t.b:=λe=>by
        simp only [Bl.one] at e;have h1:=(hD3.each t hm).box;rw [e,y3] at h1;simp [txO] at h1
      go_wp2;first
        | (have HS2:Hid (∀ X,Fr (Bl.one b3) X3 X→X.c t.b 2=some (.p D.β 0)∧X.c t.b 3=some (.i t.root)∧X.c t.b 4=some (.s t.ca t.cs.length t.cc)∧X.c X2.heap.size 0=some (.t V.e.key)∧X.c X2.heap.size 1=some (.t V.e.val)∧X.c X2.heap.size 2=some (.i V.e.size)∧X.c X2.heap.size 3=some (.i V.e.over)):=(λX hF=>by
             obtain⟨_,_,r2,r3,r4,_⟩:=qA (hF.heap (hD3.each t hm).box hne);obtain⟨n0,n1,n2,n3⟩:=kA (hF.heap xe (oN (by omega)));exact⟨r2,r3,r4,n0,n1,n2,n3⟩)
           go_region_held3 (λX=>X.c t.b 2=some (.p D.β 0)∧X.c t.b 3=some (.i t.root)∧X.c t.b 4=some (.s t.ca t.cs.length t.cc)∧X.c X2.heap.size 0=some (.t V.e.key)∧X.c X2.heap.size 1=some (.t V.e.val)∧X.c X2.heap.size 2=some (.i V.e.size)∧X.c X2.heap.size 3=some (.i V.e.over))
            ((refine HS2.o _ ?_;(first|exact(AE _ _).drew|exact AE _ _|exact F4|exact F4')))
            (first
              | (go_at_call 48;(with_reducible refine Calls.m (HVa.o _ V (HK.o _ ?_).1 hV hov) ?_);(first|exact B3.drew|exact B3);rintro e X4 ⟨rfl,hX4⟩;have B4:bW w X4:=B3.drew.t (hX4.m B3.size);have F4:Fr (Bl.one b3) X3 X4:=(AE _ X3).drew.t (AB hX4);have F4':Fr (Bl.one b3) X3 (X4.setCell (aD b3 0) (.t ⟨V.value.toArray⟩)):=F4.s b3 0;obtain⟨_,_,_,_,_,_,_,y4⟩:=HK.o X4 B4;have c4:=bJ y4;have g4:=aA y4)))
        | (have HS2:Hid (∀ X,Fr (Bl.one b3) X3 X→X.c t.b 2=some (.p D.β 0)∧X.c t.b 3=some (.i t.root)∧X.c t.b 4=some (.s t.ca t.cs.length t.cc)∧X.c X1.heap.size 0=some (.t V.e.key)∧X.c X1.heap.size 1=some (.t V.e.val)∧X.c X1.heap.size 2=some (.i V.e.size)∧X.c X1.heap.size 3=some (.i V.e.over)):=(λX hF=>by
             obtain⟨_,_,r2,r3,r4,_⟩:=qA (hF.heap (hD3.each t hm).box hne);obtain⟨n0,n1,n2,n3⟩:=kA (hF.heap xe (oN (by omega)));exact⟨r2,r3,r4,n0,n1,n2,n3⟩)
           go_region_held3 (λX=>X.c t.b 2=some (.p D.β 0)∧X.c t.b 3=some (.i t.root)∧X.c t.b 4=some (.s t.ca t.cs.length t.cc)∧X.c X1.heap.size 0=some (.t V.e.key)∧X.c X1.heap.size 1=some (.t V.e.val)∧X.c X1.heap.size 2=some (.i V.e.size)∧X.c X1.heap.size 3=some (.i V.e.over))
            ((refine HS2.o _ ?_;(first|exact(AE _ _).drew|exact AE _ _|exact F4|exact F4')))
            (first
              | (go_at_call 48;(with_reducible refine Calls.m (HVa.o _ V (HK.o _ ?_).1 hV hov) ?_);(first|exact B3.drew|exact B3);rintro e X4 ⟨rfl,hX4⟩;have B4:bW w X4:=B3.drew.t (hX4.m B3.size);have F4:Fr (Bl.one b3) X3 X4:=(AE _ X3).drew.t (AB hX4);have F4':Fr (Bl.one b3) X3 (X4.setCell (aD b3 0) (.t ⟨V.value.toArray⟩)):=F4.s b3 0;obtain⟨_,_,_,_,_,_,_,y4⟩:=HK.o X4 B4;have c4:=bJ y4;have g4:=aA y4)))
      all_goals go_wp2
      all_goals go_ret
      all_goals exact⟨0,rfl,(AB B4:Fr (Bl.one b3) w X4).s b3 0,_,(by simpa using aB y4 0 (.t ⟨V.value.toArray⟩)),.inr ⟨_,HSE.o,rfl,rfl⟩⟩
def qJv(D x i t o key w)(h:aO w 0 D)(F:fnd t.cs key=false->o≠none->(D.fs.life==0)=false)(G:bQ D.fs t.root o)(A:pM o)(M:D.ts.length<=1000)(hi:i<D.ts.length)(P:D.ts[i]=t)(R:gG D.ts x=i)(E:cF t.cs)(J:∀c∈t.cs,c.good)(y:t.cs.length<=1000000)(K:1<=key.size)(L:key.size<=24):
    cL 17 #[.p D.d 0,.i x,.t key] w λe w'=>∃(v:ByteArray) (z:Int),e=.r (.tuple #[.t v,.i z])/\aO w' 0 D/\Fr (Bl.one D.d) w w'/\((sB o t.cs key=none/\z=5/\v=⟨#[]⟩)\/∃l,sB o t.cs key=some l/\z=0/\v=⟨l.toArray⟩):=by
  obtain⟨a,f,m,n,I,N,g,-⟩:=al4 w (.cells #[.p D.d 0] 29) (.cells #[.i x] 3) (.cells #[.t key] 9) (.cells #[.e] 9);  have T:=h.on (vV m h.lies);have a0:=(gL h.box);have S:=(gL g);have V:=bJ n;have C:=uQ D 45 #[] #[.p w.heap.size 0,.p (w.heap.size+1) 0,.p (w.heap.size+1+1) 0,.p (w.heap.size+1+1+1) 0] (enters_of Tryz.func45 (by kernel_rfl) rfl) a T (Bl.one (w.heap.size+1+1+1)) (qMx o t.cs key (w.heap.size+1+1+1)) (λd b=>by
    simp only[Bl.one]at b;subst b;exact⟨λH=>by have:=h.lies _ H;omega,S⟩) (by
    intro q r j a2;have k:∀d,w.heap.size<=d->¬Bl.one D.d d:=λd b e=>by simp only[Bl.one]at e;omega
    exact qGx D x i t o key _ _ _ _ q r F G A M hi P R E J y K L (j.heap n (k _ (by omega))) (j.heap I (k _ (by omega))) (j.heap N (k _ (by omega))) (j.heap g (k _ (by omega)))) (by
    rintro z W d v ⟨v',O,s⟩ b;refine⟨v',?_,s⟩;exact(Fr.setCell (AE (Bl.one d) W) (p:=(aD d 0)) (.inl rfl) v).heap O (oN (by omega)))
  have a3:a.setCell (aD (w.heap.size+1+1+1) 0) .e=a:=dI g rfl;have Y:=bJ g;have a1:=aA g 0;go_enter Tryz.func17,Tryz.ntmps17;go_wp2_with (go_at_call 32;apply Calls.m C;rintro e X ⟨z,rfl,U,B,v,Q,u⟩;have Z:=bJ Q);go_ret2;refine⟨v,z,rfl,U,(AB m:Fr (Bl.one D.d) w a).grow B (λd b=>?_),u⟩;rcases b with b|b
  . exact .inl b
  . simp only[Bl.one]at b;exact .inr (by omega)
def qKx(xs:List En)(p B:Nat)(z:Int)(W:World):Prop :=
 z=0/\∃v,W.heap[p]?=some (.cells #[v] 30)/\W.ownsRow 0 71 2 v xs.length (fK xs)/\∀k,v.ownBlock=some k->B<k
def qAe(D x i t o q most C E n r s a B w)(h:aO w 1 D)(R:most≠0->o≠none->(D.fs.life==0)=false)(a0:bQ D.fs t.root o)(P:pM o)(ao:D.ts.length<=1000)(hi:i<D.ts.length)(F:D.ts[i]=t)(a2:gG D.ts x=i)(Z:cF t.cs)(T:∀c∈t.cs,c.good)(S:t.cs.length<=1000000)(aj:q.lo.size<=24)(ah:q.hi.size<=24)(a1:(lM o t.cs q).length<=1000000)(Y:most<=9223372036854775807)(ag:B<w.heap.size)(a5:cW w C #[.p D.d 0] 29)(a6:cW w E #[.i x] 3)(H:cW w n #[.t q.lo] 9)(y:cW w r #[.t q.hi] 9)(J:cW w s #[.i (most:Nat)] 3)(K:cW w a #[.n] 30):
  cL 104 #[.p C 0,.p E 0,.p n 0,.p r 0,.p s 0,.p a 0] w λe w'=>∃z,e=.r (.i z)/\Fr (Bl.one a) w w'/\qKx ((lM o t.cs q).take most) a B z w':=by
 have⟨f,G⟩:=nM ((lM o t.cs q).take most);rw[G];have U:t∈D.ts:=F▸AA hi;have I:Hid (∀X,bW w X->aO X 1 D/\X.c n 0=some (.t q.lo)/\X.c r 0=some (.t q.hi)/\X.c s 0=some (.i (most:Nat))/\cW X a #[.n] 30):=by
  intro X b;exact⟨h.on (vV b h.lies),bJ ((b.block _ (gL H)).t H),bJ ((b.block _ (gL y)).t y),bJ ((b.block _ (gL J)).t J),(b.block _ (gL K)).t K⟩
 have L:Hid (∀X,aO X 1 D->cL 105 #[.p t.b 0,.t q.lo,.t q.hi,.i (most:Nat)] X λe w'=>∃v,e=.r v/\w'.ownsRow 0 71 2 v f.length (fK f)/\bW X w'/\nW v X):=λX b=>G▸qCq D.β D.sv D.lv D.fs t o a0 P q most X R b.file (b.each t U) Z T S a1 Y;have a7:=bJ a5;have a8:=bJ a6;have ak:(q.lo.size:Int)<=24:=by omega
 have ai:(q.hi.size:Int)<=24:=by omega
 have al:(0:Int)<=(most:Int):=by omega
 go_enter Tryz.func104,Tryz.ntmps104;go_wp2_with (first
  |(go_at_call 46;apply Calls.m (gJ D 1 x i t w h (by omega) hi F a2);rintro e u ⟨rfl,k⟩;have⟨N,ab,ac,ad,ap⟩:=I u k;have O:=L u N)
  |(go_at_call 105;apply Calls.m O;rintro e g ⟨v,rfl,l,Q,W⟩;have A:bW w g:=k.t (Q.m k.size);have⟨_,_,_,_,m⟩:=I g A;have a9:=bJ m;have aa:=aA m;have V:=aP l m (by decide);have M:Hid (g.ownsRow 0 71 2 v f.length (fK f)):=l;obtain⟨a3,a4,rfl⟩:=aG l;clear l))
 go_ret;refine⟨0,rfl,(AB A:Fr (Bl.one a) w g).s a 0,rfl,_,(by simpa using aB m 0 (.s a3 f.length a4)),aS M ((CN (λd=>Value.ownBlock _=some d) g).setCell (p:=(aD a 0)) (λj=>V j) _) (λd j=>j),λd j=>?_⟩
 .have ae:=W d j
  have af:=k.size;omega
def qEm(D x i t o q most w)(h:aO w 0 D)(K:most≠0->o≠none->(D.fs.life==0)=false)(Z:bQ D.fs t.root o)(N:pM o)(U:D.ts.length<=1000)(hi:i<D.ts.length)(a1:D.ts[i]=t)(a3:gG D.ts x=i)(Y:cF t.cs)(O:∀c∈t.cs,c.good)(L:t.cs.length<=1000000)(S:q.lo.size<=24)(P:q.hi.size<=24)(a0:(lM o t.cs q).length<=1000000)(T:most<=9223372036854775807):
  cL 61 #[.p D.d 0,.i x,.t q.lo,.t q.hi,.i (most:Nat)] w λe w'=>∃v,e=.r (.tuple #[v,.i 0])/\aO w' 0 D/\Fr (Bl.one D.d) w w'/\w'.ownsRow 0 71 2 v ((lM o t.cs q).take most).length (fK ((lM o t.cs q).take most))/\nW v w:=by
 have⟨k,r⟩:=nM ((lM o t.cs q).take most);rw[r];obtain⟨b,d,l,u,a5,a6,a7,a8,y⟩:=al6 w (.cells #[.p D.d 0] 29) (.cells #[.i x] 3) (.cells #[.t q.lo] 9) (.cells #[.t q.hi] 9) (.cells #[.i (most:Nat)] 3) (.cells #[.n] 30)
 have F:=h.on (vV l h.lies);have ab:=(gL h.box);have a4:=(gL y);have a9:=bJ u;have J:=uQ D 104 #[] #[.p w.heap.size 0,.p (w.heap.size+1) 0,.p (w.heap.size+1+1) 0,.p (w.heap.size+1+1+1) 0,.p (w.heap.size+1+1+1+1) 0,.p (w.heap.size+1+1+1+1+1) 0] (enters_of Tryz.func104 (by kernel_rfl) rfl) b F (Bl.one (w.heap.size+1+1+1+1+1)) (qKx k (w.heap.size+1+1+1+1+1) b.heap.size) (λf a=>by
  simp only[Bl.one]at a;subst a;exact⟨λM=>by have:=h.lies _ M;omega,a4⟩) (by
  intro B H j V;have g:∀f,w.heap.size<=f->¬Bl.one D.d f:=λf a e=>by simp only[Bl.one]at e;omega
  rw[<-r];exact qAe D x i t o q most _ _ _ _ _ _ b.heap.size B H K Z N U hi a1 a3 Y O L S P a0 T V (j.heap u (g _ (by omega))) (j.heap a5 (g _ (by omega))) (j.heap a6 (g _ (by omega))) (j.heap a7 (g _ (by omega))) (j.heap a8 (g _ (by omega))) (j.heap y (g _ (by omega)))) (by
  rintro z W f s ⟨rfl,v,C,E,n⟩ a;exact⟨rfl,v,(Fr.setCell (AE (Bl.one f) W) (p:=(aD f 0)) (.inl rfl) s).heap C (oN (by omega)),aS E ((CN (λf=>v.ownBlock=some f) W).setCell (p:=(aD f 0)) (λQ=>by have:=n f Q;omega) s) (λf a=>a),n⟩)
 go_enter Tryz.func61,Tryz.ntmps61;go_wp2_with (go_at_call 32;apply Calls.m J;rintro e X ⟨z,rfl,G,I,rfl,v,a2,m,R⟩;have aa:=bJ a2;have A:=m;obtain⟨ac,ad,rfl⟩:=aG m;clear m);go_ret2;refine⟨_,rfl,G,(AB l:Fr (Bl.one D.d) w b).grow I (λf a=>?_),A,λf a=>by have:=R f a;have:=l.size;omega⟩;rcases a with a|a
 .exact .inl a
 .simp only[Bl.one]at a;exact .inr (by omega)
open Go.MuLone
def Ac(D c x i t w)(h:aO w c D)(l:D.ts.length<=1000000)(hi:i<D.ts.length)(b:D.ts[i]=t)(n:gG D.ts x=i)(m:t.wr=false):
  cL 38 #[.p D.d 0,.i x] w λe w'=>e=.r (.tuple #[.pointer none,.i 4])/\bW w w':=by
 have k:t∈D.ts:=b▸AA hi;have d:Hid (∀X,bW w X->X.cell? (aD t.b 1)=some (.bool false)):=λX j=>by
  have:=(qA ((h.on (vV j h.lies)).each t k).box).2.1;rw[m]at this;exact this
 go_enter Tryz.func38,Tryz.ntmps38;go_wp2_with (go_at_call 46;apply Calls.m (gJ D c x i t w h l hi b n);rintro e f ⟨rfl,a⟩;have o:=d f a);go_ret2;exact⟨rfl,a⟩
def Xl(D t w)(h:aO w 0 D)(r:D.ts.length=8):
  cL 12 #[.p D.d 0,.bool t] w λe w'=>e=.r (.tuple #[.i 0,.i 6])/\aO w' 0 D/\Fr Bl.none w w':=by
 have c:=h.lock (st':=1);have⟨k,u,A,B,C,E,G,H,c8,c9,Z,v,x,y,z⟩:=eQ h.box;have⟨b,d⟩:=nM (w.setCell (aD D.d 0) (.int .i32 1));rw[d]at c;have⟨l,I,N,O,P,Q,R,S,T,U,J,K,L,M,m⟩:=eQ c.box;have g:=c.lock (st':=0);have F:Fr Bl.none w (b.setCell (aD D.d 0) (.int .i32 0)):=by
  have a:Fr (Bl.one D.d) w (b.setCell (aD D.d 0) (.int .i32 0)):=(d▸(AE (Bl.one D.d) w).s D.d 0:Fr (Bl.one D.d) w b).s D.d 0;refine⟨a.os,a.tape,a.output,a.size,λj q _=>?_⟩;by_cases e:j=D.d
  .subst e;rw[g.box,h.box]
  .exact a.block j q e
 have⟨V,W,i⟩:=aG h.row;rw[r]at i;rw[i]at m;go_enter_defers Tryz.func12,Tryz.ntmps12;go_wp2_with (go_at_call 34;apply(lock_free uX (aD D.d 0) _ k (aA h.box 0)).m;rintro e w' ⟨rfl,s⟩;rw[d]at s;subst w');apply JD (f:=35) (args:=#[.p D.d 0]) (by simp) (by simp[go_sem]);apply(unlock_deferred uX (aD D.d 0) .returning _ l (aA c.box 0)).m;rintro e X Y ⟨rfl,rfl,rfl⟩;exact⟨_,results_tmp2 rfl _ _ _,rfl,g,F⟩
def qGw(D x key f g i j p c z w)(h:aO w 1 D)(l:cL 46 #[.p D.d 0,.i x] w λe w'=>e=.r (.tuple #[p,.i c])/\bW w w')(E:(c≠0/\z=c)\/(c=0/\z=1/\¬(1<=key.size/\key.size<=24)))(m:cW w f #[.p D.d 0] 29)(n:cW w g #[.i x] 3)(o:cW w i #[.t key] 9)(q:cW w j #[.e] 9):
  cL 45 #[.p f 0,.p g 0,.p i 0,.p j 0] w λe w'=>e=.r (.i z)/\bW w w':=by
 have k:Hid (∀X,bW w X->X.c f 0=some (.p D.d 0)/\X.c g 0=some (.i x)/\X.c i 0=some (.t key)/\X.c j 0=some .e):=λX a=>⟨bJ ((a.block _ (gL m)).t m),bJ ((a.block _ (gL n)).t n),bJ ((a.block _ (gL o)).t o),bJ ((a.block _ (gL q)).t q)⟩;have⟨s,t,u,v⟩:=k w (AC _ _);rcases E with⟨C,rfl⟩|⟨rfl,rfl,B⟩
 .have G:(z != 0)=true:=by simpa using C
  go_enter Tryz.func45,Tryz.ntmps45;go_wp2_with (go_at_call 46;apply Calls.m l;rintro e d ⟨rfl,b⟩);go_ret;exact⟨rfl,b⟩
 .have y:∀X,cL 39 #[.t key] X λe w'=>e=.r (.bool false)/\w'=X:=λX=>by have:=iD key X;rw[EP B]at this;exact this
  go_enter Tryz.func45,Tryz.ntmps45;go_wp2_with (first
   |(go_at_call 46;apply Calls.m l;rintro e d ⟨rfl,b⟩;have⟨s,t,u,v⟩:=k d b;have A:=y d)
   |(go_at_call 39;apply Calls.m A;rintro e r ⟨rfl,F⟩;subst r))
  go_ret;exact⟨rfl,b⟩
def Rv(D x key d f g p b z w)(h:aO w 1 D)(k:cL 38 #[.p D.d 0,.i x] w λe w'=>e=.r (.tuple #[p,.i b])/\bW w w')(A:(b≠0/\z=b)\/(b=0/\z=1/\¬(1<=key.size/\key.size<=24)))(l:cW w d #[.p D.d 0] 29)(m:cW w f #[.i x] 3)(n:cW w g #[.t key] 9):
  cL 107 #[.p d 0,.p f 0,.p g 0] w λe w'=>e=.r (.i z)/\bW w w':=by
 have j:Hid (∀X,bW w X->X.c d 0=some (.p D.d 0)/\X.c f 0=some (.i x)/\X.c g 0=some (.t key)):=λX i=>⟨bJ ((i.block _ (gL l)).t l),bJ ((i.block _ (gL m)).t m),bJ ((i.block _ (gL n)).t n)⟩;have⟨q,r,s⟩:=j w (AC _ _);rcases A with⟨y,rfl⟩|⟨rfl,rfl,v⟩
 .have C:(z != 0)=true:=by simpa using y
  go_enter Tryz.func107,Tryz.ntmps107;go_wp2_with (go_at_call 38;apply Calls.m k;rintro e c ⟨rfl,a⟩);go_ret;exact⟨rfl,a⟩
 .have t:∀X,cL 39 #[.t key] X λe w'=>e=.r (.bool false)/\w'=X:=λX=>by have:=iD key X;rw[EP v]at this;exact this
  go_enter Tryz.func107,Tryz.ntmps107;go_wp2_with (first
   |(go_at_call 38;apply Calls.m k;rintro e c ⟨rfl,a⟩;have⟨q,r,s⟩:=j c a;have u:=t c)
   |(go_at_call 39;apply Calls.m u;rintro e o ⟨rfl,B⟩;subst o))
  go_ret;exact⟨rfl,a⟩
def qFd(D x key c j k l m p f z w)(h:aO w 1 D)(q:cL 38 #[.p D.d 0,.i x] w λe w'=>e=.r (.tuple #[p,.i f])/\bW w w')(G:(f≠0/\z=f)\/(f=0/\z=1/\¬((1<=key.size/\key.size<=24)/\c.size<=400)))(v:cW w j #[.p D.d 0] 29)(y:cW w k #[.i x] 3)(A:cW w l #[.t key] 9)(B:cW w m #[.t c] 9):
  cL 37 #[.p j 0,.p k 0,.p l 0,.p m 0] w λe w'=>e=.r (.i z)/\bW w w':=by
 have g:Hid (∀X,bW w X->X.c j 0=some (.p D.d 0)/\X.c k 0=some (.i x)/\X.c l 0=some (.t key)/\X.c m 0=some (.t c)):=λX d=>⟨bJ ((d.block _ (gL v)).t v),bJ ((d.block _ (gL y)).t y),bJ ((d.block _ (gL A)).t A),bJ ((d.block _ (gL B)).t B)⟩;have⟨r,s,t,u⟩:=g w (AC _ _);rcases G with⟨F,rfl⟩|⟨rfl,rfl,E⟩
 .have I:(z != 0)=true:=by simpa using F
  go_enter Tryz.func37,Tryz.ntmps37;go_wp2_with (go_at_call 38;apply Calls.m q;rintro e b ⟨rfl,a⟩);go_ret;exact⟨rfl,a⟩
 .by_cases hk1:1<=key.size/\key.size<=24
  .have n:∀X,cL 39 #[.t key] X λe w'=>e=.r (.bool true)/\w'=X:=λX=>by have:=iD key X;rw[CU hk1]at this;exact this
   have H:(400:Int)<(c.size:Int):=by have:¬c.size<=400:=λh=>E ⟨hk1,h⟩;omega
   go_enter Tryz.func37,Tryz.ntmps37;go_wp2_with (first
   |(go_at_call 38;apply Calls.m q;rintro e b ⟨rfl,a⟩;have⟨r,s,t,u⟩:=g b a;have o:=n b)
   |(go_at_call 39;apply Calls.m o;rintro e i ⟨rfl,C⟩;subst i))
   go_ret;exact⟨rfl,a⟩
  .have n:∀X,cL 39 #[.t key] X λe w'=>e=.r (.bool false)/\w'=X:=λX=>by have:=iD key X;rw[EP hk1]at this;exact this
   go_enter Tryz.func37,Tryz.ntmps37;go_wp2_with (first
   |(go_at_call 38;apply Calls.m q;rintro e b ⟨rfl,a⟩;have⟨r,s,t,u⟩:=g b a;have o:=n b)
   |(go_at_call 39;apply Calls.m o;rintro e i ⟨rfl,C⟩;subst i))
   go_ret;exact⟨rfl,a⟩
def qAf(D x lo hi most i j k l m n p g z w)(h:aO w 1 D)(f:cL 46 #[.p D.d 0,.i x] w λe w'=>e=.r (.tuple #[p,.i g])/\bW w w')(I:(g≠0/\z=g)\/(g=0/\z=1/\¬(lo.size<=24/\hi.size<=24/\0<=most)))(y:cW w i #[.p D.d 0] 29)(A:cW w j #[.i x] 3)(B:cW w k #[.t lo] 9)(C:cW w l #[.t hi] 9)(E:cW w m #[.i most] 3)(F:cW w n #[.n] 30):
  cL 104 #[.p i 0,.p j 0,.p k 0,.p l 0,.p m 0,.p n 0] w λe w'=>e=.r (.i z)/\bW w w':=by
 have d:Hid (∀X,bW w X->X.c i 0=some (.p D.d 0)/\X.c j 0=some (.i x)/\X.c k 0=some (.t lo)/\X.c l 0=some (.t hi)/\X.c m 0=some (.i most)/\X.c n 0=some .n):=λX c=>⟨bJ ((c.block _ (gL y)).t y),bJ ((c.block _ (gL A)).t A),bJ ((c.block _ (gL B)).t B),bJ ((c.block _ (gL C)).t C),bJ ((c.block _ (gL E)).t E),bJ ((c.block _ (gL F)).t F)⟩;have⟨o,q,r,s,t,u⟩:=d w (AC _ _);rcases I with⟨H,rfl⟩|⟨rfl,rfl,K⟩
 .have L:(z != 0)=true:=by simpa using H
  go_enter Tryz.func104,Tryz.ntmps104;go_wp2_with (go_at_call 46;apply Calls.m f;rintro e b ⟨rfl,a⟩);go_ret;exact⟨rfl,a⟩
 .have G:(24:Int)<(lo.size:Int)\/(¬(24:Int)<(lo.size:Int)/\(24:Int)<(hi.size:Int))\/(¬(24:Int)<(lo.size:Int)/\¬(24:Int)<(hi.size:Int)/\most<0):=by omega
  rcases G with v|⟨v,J⟩|⟨v,J,M⟩
  .skip
   go_enter Tryz.func104,Tryz.ntmps104;go_wp2_with (go_at_call 46;apply Calls.m f;rintro e b ⟨rfl,a⟩;have⟨o,q,r,s,t,u⟩:=d b a);go_ret;exact⟨rfl,a⟩
  .skip
   go_enter Tryz.func104,Tryz.ntmps104;go_wp2_with (go_at_call 46;apply Calls.m f;rintro e b ⟨rfl,a⟩;have⟨o,q,r,s,t,u⟩:=d b a);go_ret;exact⟨rfl,a⟩
  .skip
   go_enter Tryz.func104,Tryz.ntmps104;go_wp2_with (go_at_call 46;apply Calls.m f;rintro e b ⟨rfl,a⟩;have⟨o,q,r,s,t,u⟩:=d b a);go_ret;exact⟨rfl,a⟩
def EnZ(b:Bool)(z:Int):Ending:=bif b then .panicked (kH z) else .r (.i z)
def uR(D b z)(g:Nat)(k)(t:∀args w,(callFunc g args).run Tryz.prog w=.ok (.enter g args) w)(w)(h:aO w 0 D)(u:∀a,aO a 1 D->Fr (Bl.one D.d) w a->cL g (#[]++k) a λe w'=>e=EnZ b z/\bW a w'):
  cL 32 #[.p D.d 0,.func (.func g) #[] k] w λe w'=>e=.r (.i z)/\aO w' 0 D/\Fr (Bl.one D.d) w w':=by
 cases b with
 |false =>
  apply(uQ D g #[] k t w h Bl.none (λk _=>k=z) (λb i=>i.elim) (λa m n _=>(u a m n).m (λe w' y=>⟨z,y.1,AB y.2,rfl⟩)) (λk W b v e _=>e)).m;rintro e w' ⟨_,rfl,r,s,rfl⟩;exact⟨rfl,r,s.m (λb i=>.inl (i.elim id (λh=>h.elim)))⟩
 |true =>
  have⟨b,f⟩:=nM (w.setCell (aD D.d 0) (.int .i32 1));have o:aO b 1 D:=f▸h.lock;have s:Fr (Bl.one D.d) w b:=f▸(AE (Bl.one D.d) w).s D.d 0;have y:b.heap.size=w.heap.size:=by rw[<-f];simp
  obtain⟨a,j,l,q,-⟩:=al1 b (.cells #[.i 0] 48);rw[y]at q;have d:=o.on (vV l o.lies);have n:=s.t (AB l);have x:¬fpD D w.heap.size:=λv=>by have:=h.lies _ v;omega
  refine(Kh D.d g #[] k t z w (λW=>bW a W) _ h.box rfl ?_).m ?_
  .rw[f,j]
   apply(u a d n).m;rintro e w' ⟨rfl,c⟩;exact⟨rfl,(c.block _ ((gL q))).t q,⟨_,(d.on (vV c d.lies)).box,rfl⟩,c⟩
  .rintro e w' ⟨rfl,W,c,rfl⟩
   have m:bW a (W.alloc (.cells #[.i z] 172)):=c.alloc c.size _;exact⟨rfl,((d.on (vV m d.lies)).beside (i:=0) x (.i z)).lock (st':=0),((n.t (AB m)).s w.heap.size 0 (.inr (jU _))).s D.d 0 (.inl rfl)⟩
def Lq(D x key c p f' z w)(h:aO w 0 D)(u:∀X,aO X 1 D->cL 38 #[.p D.d 0,.i x] X λe w'=>e=.r (.tuple #[p,.i f'])/\bW X w')(A:(f'≠0/\z=f')\/(f'=0/\z=1/\¬((1<=key.size/\key.size<=24)/\c.size<=400))):
  cL 13 #[.p D.d 0,.i x,.t key,.t c] w λe w'=>e=.r (.i z)/\aO w' 0 D/\Fr (Bl.one D.d) w w':=by
 obtain⟨a,d,l,o,B,C,E,-⟩:=al4 w (.cells #[.p D.d 0] 29) (.cells #[.i x] 3) (.cells #[.t key] 9) (.cells #[.t c] 9); have G:=(gL h.box);have F:=bJ o;have f:∀b,w.heap.size<=b->¬Bl.one D.d b:=λb i e=>by cases e;omega
 have t:=uR D false z 37 #[.p w.heap.size 0,.p (w.heap.size+1) 0,.p (w.heap.size+1+1) 0,.p (w.heap.size+1+1+1) 0] (enters_of Tryz.func37 (by kernel_rfl) rfl) a (h.on (vV l h.lies)) (λm n d=>qFd D x key c _ _ _ _ p f' z m n (u m n) A (d.heap o (f _ (by omega))) (d.heap B (f _ (by omega))) (d.heap C (f _ (by omega))) (d.heap E (f _ (by omega))))
 go_enter Tryz.func13,Tryz.ntmps13;go_wp2_with (go_at_call 32;apply Calls.m t;rintro e X ⟨rfl,r,s⟩);go_ret;exact⟨rfl,r,(AB l).t s⟩
def qKu(D b x key z w)(h:aO w 0 D)(C:∀a s,aO a 1 D->cW a s #[.p D.d 0] 29->cW a (s+1) #[.i x] 3->cW a (s+1+1) #[.t key] 9->cL 107 #[.p s 0,.p (s+1) 0,.p (s+1+1) 0] a λe w'=>e=EnZ b z/\bW a w'):
  cL 71 #[.p D.d 0,.i x,.t key] w λe w'=>e=.r (.i z)/\aO w' 0 D/\Fr (Bl.one D.d) w w':=by
 obtain⟨a,g,l,q,E,F,-⟩:=al3 w (.cells #[.p D.d 0] 29) (.cells #[.i x] 3) (.cells #[.t key] 9);have J:=(gL h.box);have G:=bJ q;have f:∀b,w.heap.size<=b->¬Bl.one D.d b:=λb i e=>by cases e;omega
 go_enter Tryz.func71,Tryz.ntmps71;go_wp2_with (go_at_call 32;apply Calls.m (uR D b z 107 #[.p w.heap.size 0,.p (w.heap.size+1) 0,.p (w.heap.size+1+1) 0] (enters_of Tryz.func107 (by kernel_rfl) rfl) a (h.on (vV l h.lies)) (λm n d=>C m _ n (d.heap q (f _ (by omega))) (d.heap E (f _ (by omega))) (d.heap F (f _ (by omega)))));rintro e X ⟨rfl,t,u⟩);go_ret;exact⟨rfl,t,(AB l).t u⟩
def wA(D x key p c z w)(h:aO w 0 D)(t:∀X,aO X 1 D->cL 38 #[.p D.d 0,.i x] X λe w'=>e=.r (.tuple #[p,.i c])/\bW X w')(y:(c≠0/\z=c)\/(c=0/\z=1/\¬(1<=key.size/\key.size<=24))):
  cL 71 #[.p D.d 0,.i x,.t key] w λe w'=>e=.r (.i z)/\aO w' 0 D/\Fr (Bl.one D.d) w w':=qKu D false x key z w h (λa s n=>Rv D x key _ _ _ p c z a n (t a n) y)
def qKs(D b x key z w)(h:aO w 0 D)(C:∀a s,aO a 1 D->cW a s #[.p D.d 0] 29->cW a (s+1) #[.i x] 3->cW a (s+1+1) #[.t key] 9->cW a (s+1+1+1) #[.e] 9->cL 45 #[.p s 0,.p (s+1) 0,.p (s+1+1) 0,.p (s+1+1+1) 0] a λe w'=>e=EnZ b z/\bW a w'):
  cL 17 #[.p D.d 0,.i x,.t key] w λe w'=>e=.r (.tuple #[.e,.i z])/\aO w' 0 D/\Fr (Bl.one D.d) w w':=by
 obtain⟨a,g,l,q,E,F,c,-⟩:=al4 w (.cells #[.p D.d 0] 29) (.cells #[.i x] 3) (.cells #[.t key] 9) (.cells #[.e] 9);have J:=(gL h.box);have G:=bJ q;have f:∀b,w.heap.size<=b->¬Bl.one D.d b:=λb i e=>by cases e;omega
 have y:=uR D b z 45 #[.p w.heap.size 0,.p (w.heap.size+1) 0,.p (w.heap.size+1+1) 0,.p (w.heap.size+1+1+1) 0] (enters_of Tryz.func45 (by kernel_rfl) rfl) a (h.on (vV l h.lies)) (λm n d=>C m _ n (d.heap q (f _ (by omega))) (d.heap E (f _ (by omega))) (d.heap F (f _ (by omega))) (d.heap c (f _ (by omega))));have M:a.setCell (aD (w.heap.size+1+1+1) 0) .e=a:=dI c rfl;have O:=bJ c;have K:=aA c 0;have r:Hid _:=c;go_enter Tryz.func17,Tryz.ntmps17;go_wp2_with (go_at_call 32;apply Calls.m y;rintro e X ⟨rfl,t,u⟩;have I:=bJ (u.heap r (f _ (by omega))));go_ret2;exact⟨rfl,t,(AB l).t u⟩
def Ze(D x key p j z w)(h:aO w 0 D)(A:∀X,aO X 1 D->cL 46 #[.p D.d 0,.i x] X λe w'=>e=.r (.tuple #[p,.i j])/\bW X w')(C:(j≠0/\z=j)\/(j=0/\z=1/\¬(1<=key.size/\key.size<=24))):
  cL 17 #[.p D.d 0,.i x,.t key] w λe w'=>e=.r (.tuple #[.e,.i z])/\aO w' 0 D/\Fr (Bl.one D.d) w w':=qKs D false x key z w h (λa s n=>qGw D x key _ _ _ _ p j z a n (A a n) C)
def qEk(D b x lo hi most z w)(h:aO w 0 D)(C:∀a s,aO a 1 D->cW a s #[.p D.d 0] 29->cW a (s+1) #[.i x] 3->cW a (s+1+1) #[.t lo] 9->cW a (s+1+1+1) #[.t hi] 9->cW a (s+1+1+1+1) #[.i most] 3->cW a (s+1+1+1+1+1) #[.n] 30->cL 104 #[.p s 0,.p (s+1) 0,.p (s+1+1) 0,.p (s+1+1+1) 0,.p (s+1+1+1+1) 0,.p (s+1+1+1+1+1) 0] a λe w'=>e=EnZ b z/\bW a w'):
  cL 61 #[.p D.d 0,.i x,.t lo,.t hi,.i most] w λe w'=>e=.r (.tuple #[.n,.i z])/\aO w' 0 D/\Fr (Bl.one D.d) w w':=by
 have⟨a,g,l,q,E,F,B,A,c⟩:=al6 w (.cells #[.p D.d 0] 29) (.cells #[.i x] 3) (.cells #[.t lo] 9) (.cells #[.t hi] 9) (.cells #[.i most] 3) (.cells #[.n] 30);have J:=(gL h.box);have G:=bJ q;have f:∀b,w.heap.size<=b->¬Bl.one D.d b:=λb i e=>by cases e;omega
 have y:=uR D b z 104 #[.p w.heap.size 0,.p (w.heap.size+1) 0,.p (w.heap.size+1+1) 0,.p (w.heap.size+1+1+1) 0,.p (w.heap.size+1+1+1+1) 0,.p (w.heap.size+1+1+1+1+1) 0] (enters_of Tryz.func104 (by kernel_rfl) rfl) a (h.on (vV l h.lies)) (λm n d=>C m _ n (d.heap q (f _ (by omega))) (d.heap E (f _ (by omega))) (d.heap F (f _ (by omega))) (d.heap B (f _ (by omega))) (d.heap A (f _ (by omega))) (d.heap c (f _ (by omega))));have M:a.setCell (aD (w.heap.size+1+1+1+1+1) 0) .n=a:=dI c rfl;have O:=bJ c;have K:=aA c 0;have r:Hid _:=c;go_enter Tryz.func61,Tryz.ntmps61;go_wp2_with (go_at_call 32;apply Calls.m y;rintro e X ⟨rfl,t,u⟩;have I:=bJ (u.heap r (f _ (by omega))));go_ret2;exact⟨rfl,t,(AB l).t u⟩
def Nv(D x lo hi most p j z w)(h:aO w 0 D)(A:∀X,aO X 1 D->cL 46 #[.p D.d 0,.i x] X λe w'=>e=.r (.tuple #[p,.i j])/\bW X w')(C:(j≠0/\z=j)\/(j=0/\z=1/\¬(lo.size<=24/\hi.size<=24/\0<=most))):
  cL 61 #[.p D.d 0,.i x,.t lo,.t hi,.i most] w λe w'=>e=.r (.tuple #[.n,.i z])/\aO w' 0 D/\Fr (Bl.one D.d) w w':=qEk D false x lo hi most z w h (λa s n=>qAf D x lo hi most _ _ _ _ _ _ p j z a n (A a n) C)
def Ro(D a x w)(h:aO w a D)(d:D.ts.length<=1000000)(f:gG D.ts x = -1):
  cL 43 #[.p D.d 0,.i x] w λe w'=>e=.r (.tuple #[.pointer none,.i 3])/\bW w w':=by
 go_enter Tryz.func43,Tryz.ntmps43;go_wp2_with (go_at_call 46;apply Calls.m (pC D a x w h d f);rintro e g ⟨rfl,c⟩);go_ret2;simp_all
def qMb(D:Db)(x d p a b w)(R:World->Prop)(h:cL 43 #[.p D.d 0,.i x] w λe w'=>e=.r (.tuple #[p,.i d])/\R w')(i:cW w a #[.p D.d 0] 29)(j:cW w b #[.i x] 3):
  cL 74 #[.p a 0,.p b 0] w λe w'=>e=.r (.i d)/\R w':=by
 have k:=bJ i;have l:=bJ j;go_enter Tryz.func74,Tryz.ntmps74;go_wp2_with (go_at_call 43;apply Calls.m h;rintro e g ⟨rfl,c⟩;have f:Hid (R g):=c;clear c);go_ret;exact⟨rfl,f⟩
def Ku(D x w)(h:aO w 0 D)(R:Int->Db->Prop)(I:∀X,aO X 1 D->∃(c:Int) (p:Value),cL 43 #[.p D.d 0,.i x] X λe w'=>e=.r (.tuple #[p,.i c])/\∃D',aO w' 1 D'/\D'.d=D.d/\Fr (fpD D) X w'/\aJ X (fpD D) (fpD D')/\R c D'):
  cL 27 #[.p D.d 0,.i x] w λe w'=>∃z D',e=.r (.i z)/\aO w' 0 D'/\D'.d=D.d/\Fr (fpD D) w w'/\aJ w (fpD D) (fpD D')/\R z D':=by
 obtain⟨a,f,d,o,J,-⟩:=al2 w (.cells #[.p D.d 0] 29) (.cells #[.i x] 3); have L:=(gL h.box);have K:=bJ o;have G:=Cx D 74 #[] #[.p w.heap.size 0,.p (w.heap.size+1) 0] (enters_of Tryz.func74 (by kernel_rfl) rfl) a (h.on (vV d h.lies)) R (by
  intro g C j M;have n:∀b,w.heap.size<=b->¬Bl.one D.d b:=λb m e=>by cases e;omega
  have⟨c,p,E⟩:=I g C;apply(qMb D x c p _ _ g _ E (j.heap o (n _ (by omega))) (j.heap J (n _ (by omega)))).m;grind)
 go_enter Tryz.func27,Tryz.ntmps27;go_wp2_with (go_at_call 32;apply Calls.m G;rintro e X ⟨z,D',rfl,i,l,F,H,k⟩;have q:Hid (aO X 0 D'):=i;have s:Hid (R z D'):=k;have r:Hid (D'.d=D.d):=l;clear i k l);go_ret;exact⟨z,D',rfl,q,r,(AB d).t F,λb m=>(H b m).imp id (λh=>vJ d.size h),s⟩
def qDi(D x i t w)(h:aO w 0 D)(o:D.ts.length<=1000000)(hi:i<D.ts.length)(p:D.ts[i]=t)(q:gG D.ts x=i):
  cL 27 #[.p D.d 0,.i x] w λe w'=>e=.r (.i 0)/\∃g c,aO w' 0 (D.drop i g c)/\Fr (fpD D) w w'/\aJ w (fpD D) (fpD (D.drop i g c)):=by
 refine(Ku D x w h (λj l=>j=0/\∃g c,l=D.drop i g c) (λX n=>⟨0,.p t.b 0,(Mm D 1 x i t X n o hi p q).m ?_⟩)).m ?_
 .rintro e w' ⟨rfl,g,c,d,k,r,b⟩
  refine⟨rfl,D.drop i g c,k,rfl,b.m (λf a=>.inl ?_),λf a=>.inl (Ga d f a),rfl,g,c,rfl⟩;rcases a with a|a
  .exact .inl a
  .exact .inr (.inr (.inl (by rw[d,a];rfl)))
 grind
def Xn(D x w)(h:aO w 0 D)(g:D.ts.length<=1000000)(i:gG D.ts x = -1):
  cL 27 #[.p D.d 0,.i x] w λe w'=>e=.r (.i 3)/\aO w' 0 D/\Fr (fpD D) w w':=by
 refine(Ku D x w h (λc k=>c=3/\k=D) (λX a=>⟨3,.pointer none,(Ro D 1 x X a g i).m ?_⟩)).m ?_
 .rintro e w' ⟨rfl,b⟩
  exact⟨rfl,D,a.on (vV b a.lies),rfl,AB b,CR _ _,rfl,rfl⟩
 grind
def qKf(D x a b w)(h:aO w 1 D)(f:D.ts.length<=1000000)(g:gG D.ts x = -1)(i:cW w a #[.p D.d 0] 29)(j:cW w b #[.i x] 3):
  cL 42 #[.p a 0,.p b 0] w λe w'=>e=.r (.i 3)/\bW w w':=by
 have l:=bJ i;have m:=bJ j;go_enter Tryz.func42,Tryz.ntmps42;go_wp2_with (go_at_call 43;apply Calls.m (Ro D 1 x w h f g);rintro e k ⟨rfl,d⟩);go_ret;simp_all
def qLu(D x w)(h:aO w 0 D)(s:D.ts.length<=1000000)(t:gG D.ts x = -1):
  cL 14 #[.p D.d 0,.i x] w λe w'=>e=.r (.i 3)/\aO w' 0 D/\Fr (Bl.one D.d) w w':=by
 obtain⟨a,d,g,k,u,-⟩:=al2 w (.cells #[.p D.d 0] 29) (.cells #[.i x] 3); have z:=(gL h.box);have y:=bJ k;have q:=uQ D 42 #[] #[.p w.heap.size 0,.p (w.heap.size+1) 0] (enters_of Tryz.func42 (by kernel_rfl) rfl) a (h.on (vV g h.lies)) Bl.none (λf _=>f=3) (λb c=>c.elim) (by
  intro l o i A;have j:∀b,w.heap.size<=b->¬Bl.one D.d b:=λb c e=>by cases e;omega
  apply(qKf D x _ _ l o s t (i.heap k (j _ (by omega))) (i.heap u (j _ (by omega)))).m;rintro e w' ⟨rfl,r⟩;exact⟨3,rfl,AB r,rfl⟩) (by omega)
 go_enter Tryz.func14,Tryz.ntmps14;go_wp2_with (go_at_call 32;apply Calls.m q;rintro e X ⟨f,rfl,n,p,rfl⟩);go_ret;exact⟨rfl,n,(AB g:Fr (Bl.one D.d) w a).t (p.m (λb c=>.inl (c.elim id (λh=>h.elim))))⟩
def Sg(d β t w)(a:eI w β t)(b:t.cs=[]):
  cL 44 #[.p d 0,.p t.b 0] w λe w'=>e=.r (.i 0)/\w'=w:=by
 have⟨g,h,i,j,f,k⟩:=qA a.box;have c:t.cs.length=0:=by rw[b];rfl
 rw[Tx.cv,c]at f;go_enter Tryz.func44,Tryz.ntmps44;go_wp2;go_ret;simp
def Sj{n}(D:Db)(x:Int)(i:Nat)(t:Tx)(v:Nat)(o ao:Option (Nat×T))(a:Tx->Option (Nat×T))(w:World)(h:aO w 0 D)(hn:D.ts.length<=1000)(hi:i<D.ts.length)(ht:D.ts[i]=t)(C:gG D.ts x=i)(H:0<t.cs.length)(F:∀c∈t.cs,c.key ∉ t.ks)(A:t.cs.length<=1000000)(N:D.fs.dy)(B:D.failed=false->fA [] n D.fs v o ao)(L:D.ver=v)(M:v+1<9223372036854775808)(r:View n D.fs v o ao)(s:2<=n)(hr:D.root=rootOf o)(y:D.aroot=rootOf ao)(K:∀t∈D.ts.eraseIdx i,bQ D.fs (rootOf (a t)) (a t)/\t.root=rootOf (a t))(fr:List Nat)(p:eP D.fs.safe.length (dD ([o,ao]++(D.ts.eraseIdx i).map a))=fr)(P:sE [] n D.fs o t.cs fr):
  (∀X g c,aO X 1 (D.drop i g c)->eI X D.β t->cL 44 #[.p D.d 0,.p t.b 0] X (qKk (D.drop i g c) 1 (bM o t.cs fr).2 fr (v+1) (rootOf (bM o t.cs fr).1) t.cs X)) /\
  (¬((D.fs.life==0)=false/\fr.length<(bM o t.cs fr).2.length)->cL 14 #[.p D.d 0,.i x] w λe w'=>∃z D' g c,e=.r (.i z)/\aO w' 0 D'/\Tl (D.drop i g c) (bM o t.cs fr).2 fr (v+1) (rootOf (bM o t.cs fr).1) t.cs z D'/\Fr (fpD D) w w'/\aJ w (fpD D) (fpD D')):=by
 have m:∀X g c,aO X 1 (D.drop i g c)->eI X D.β t->cL 44 #[.p D.d 0,.p t.b 0] X (qKk (D.drop i g c) 1 (bM o t.cs fr).2 fr (v+1) (rootOf (bM o t.cs fr).1) t.cs X):=λX g c j k=>by
  have u:∀q∈D.ts.eraseIdx i,rY q t:=λq O=>by
   obtain⟨S,E,I,rfl⟩:=LU.1 O;rw[<-ht];exact Cn h.apart E hi I
  have G:(D.ts.eraseIdx i).length<=1000:=by rw[List.length_eraseIdx];split<;>omega
  have:=Wz (n:=n) (D.drop i g c) 1 v o ao a t X j k u H F A N B L M G r s hr y K (by rw[<-p]at P;exact P);rw[show frD (D.drop i g c) o ao a=fr from p]at this;exact this
 refine⟨m,λJ=>(qMs D x i t w h hn hi ht C (λz D'=>∃g c,Tl (D.drop i g c) (bM o t.cs fr).2 fr (v+1) (rootOf (bM o t.cs fr).1) t.cs z D') (λX g c R j k=>(m X g c j k).m ?_)).m ?_⟩
 .rintro e w' (⟨_,b,d,_⟩|⟨z,D',rfl,b,d,l,f⟩)
  .exact absurd ⟨b,d⟩ J
  .refine⟨z,D',rfl,b,?_,d,l,g,c,f⟩
   rcases f with⟨_,(⟨_,rfl⟩|⟨_,_,_,_,_,_,rfl⟩)⟩|⟨_,_,_,_,_,_,_,_,_,rfl⟩<;>rfl
 .rintro e w' ⟨z,D',rfl,b,d,l,f,g,c,Q⟩
  exact⟨z,D',g,c,rfl,b,Q,l,f⟩
def qHv(D:Db)(x:Int)(i:Nat)(t:Tx)(w:World)(h:aO w 0 D)(hn:D.ts.length<=1000)(hi:i<D.ts.length)(ht:D.ts[i]=t)(q:gG D.ts x=i)(p:t.cs.length<=1000000)(z:Int)(s:(t.cs=[]/\z=0)\/(0<t.cs.length/\(∃c∈t.cs,c.key∈t.ks)/\z=7)):
  cL 14 #[.p D.d 0,.i x] w λe w'=>e=.r (.i z)/\∃g c,aO w' 0 (D.drop i g c)/\Fr (fpD D) w w'/\aJ w (fpD D) (fpD (D.drop i g c)):=by
 refine(qMs D x i t w h hn hi ht q (λj E=>j=z/\∃g c,E=D.drop i g c) (λX g c v b d=>?_)).m ?_
 .have l:cL 44 #[.p D.d 0,.p t.b 0] X λe w'=>e=.r (.i z)/\bW X w':=by
   rcases s with⟨a,rfl⟩|⟨a,k,rfl⟩
   .apply(Sg D.d D.β t X d a).m
    rintro e w' ⟨rfl,rfl⟩;exact⟨rfl,AC _ _⟩
   .exact Si D.d D.β t X d a p k
  apply l.m;rintro e w' ⟨rfl,f⟩;exact⟨z,D.drop i g c,rfl,b.on (vV f b.lies),rfl,AB f,λy r=>.inl r,rfl,g,c,rfl⟩
 .rintro e w' ⟨j,E,rfl,m,u,n,o,rfl,g,c,rfl⟩
  exact⟨rfl,g,c,m,n,o⟩
def qJw(D:Db)(z:Int)(g:Nat)(first q:Array Value)(B:∀args w,(callFunc g args).run Tryz.prog w=.ok (.enter g args) w)(w:World)(h:aO w 0 D)(R:Db->Prop)(E:∀a,aO a 1 D->Fr (Bl.one D.d) w a->w.heap.size<a.heap.size->cL g (first++q) a λe w'=>∃D',e=.panicked (kH z)/\aO w' 1 D'/\D'.d=D.d/\Fr (fpD D) a w'/\aJ a (fpD D) (fpD D')/\R D'):
  cL 32 #[.p D.d 0,.func (.func g) first q] w λe w'=>∃D',e=.r (.i z)/\aO w' 0 D'/\D'.d=D.d/\Fr (fpD D) w w'/\aJ w (fpD D) (fpD D')/\R D':=by
 obtain⟨b,m⟩:=nM (w.setCell (aD D.d 0) (.int .i32 1));have u:aO b 1 D:=m▸h.lock;have A:Fr (Bl.one D.d) w b:=m▸(AE (Bl.one D.d) w).setCell (p:=(aD D.d 0)) (.inl rfl) _;have G:b.heap.size=w.heap.size:=by rw[<-m];simp
 obtain⟨a,o⟩:=nM (b.alloc (.cells #[.i 0] 48));have r:bW b a:=o▸(bA _ _);have y:cW a w.heap.size #[.i 0] 48:=by rw[<-o,<-G];exact aC b _
 have C:=u.on (vV r u.lies);have t:=A.t (AB r);have H:=(gL y);have x:¬fpD D w.heap.size:=λc=>by have:=h.lies _ c;omega
 refine(Kh D.d g first q B z w (λW=>∃D',aO W 1 D'/\D'.d=D.d/\Fr (fpD D) a W/\aJ a (fpD D) (fpD D')/\R D') _ h.box rfl ?_).m ?_
 .rw[m,o]
  refine(E a C t H).m ?_;rintro e w' ⟨D',rfl,f,j,k,l,n⟩;exact⟨rfl,k.heap y x,⟨_,j▸f.box,rfl⟩,D',f,j,k,l,n⟩
 .rintro e w' ⟨rfl,W,⟨D',f,j,k,l,n⟩,rfl⟩
  have F:¬fpD D' w.heap.size:=λc=>by
   rcases l _ c with d|d
   .exact x d
   .omega
  have s:bW W (W.alloc (.cells #[.i z] 172)):=bA _ _;refine⟨D',rfl,?_,j,?_,?_,n⟩
  .have:=((f.on (vV s f.lies)).beside (i:=0) F (.i z)).lock (st':=0)
   rw[j]at this;exact this
  .exact((((t.m (λv c=>.inl (.inl c))).t k).t (AB s)).setCell (p:=(aD w.heap.size 0)) (.inr (jU _)) _).setCell (p:=(aD D.d 0)) (.inl (.inl rfl)) _
  .intro v c
   rcases l v c with d|d
   .exact .inl d
   .exact .inr (by omega)
def qMq(D:Db)(x:Int)(i:Nat)(t:Tx)(l o:Nat)(w:World)(h:aO w 1 D)(hn:D.ts.length<=1000)(hi:i<D.ts.length)(ht:D.ts[i]=t)(r:gG D.ts x=i)(q:∀X g c,aO X 1 (D.drop i g c)->eI X D.β t->cL 44 #[.p D.d 0,.p t.b 0] X λe w'=>e=.panicked (kH 8)/\bW X w')(j:cW w l #[.p D.d 0] 29)(s:cW w o #[.i x] 3):
  cL 42 #[.p l 0,.p o 0] w λe w'=>∃D',e=.panicked (kH 8)/\aO w' 1 D'/\D'.d=D.d/\Fr (fpD D) w w'/\aJ w (fpD D) (fpD D')/\∃g c,D'=D.drop i g c:=by
 have u:Hid (∀X,Fr (λa=>a=D.d\/D.ov.ownBlock=some a) w X->X.c l 0=some (.p D.d 0)):=λX G=>bJ (G.heap j (λe=>by
  rcases e with e|e
  .have:=h.box;rw[<-e,j]at this;simp at this
  .exact aP h.row j (by decide) e))
 have v:Hid (∀X g c,D.ov=.q g D.ts.length c->Fr (λa=>a=D.d\/D.ov.ownBlock=some a) w X->aO X 1 (D.drop i g c)->eI X D.β t->cL 44 #[.p D.d 0,.p t.b 0] X λe w'=>e=.panicked (kH 8)/\∃D',aO w' 1 D'/\D'.d=D.d/\Fr (fpD D) w w'/\aJ w (fpD D) (fpD D')/\∃g c,D'=D.drop i g c):=λX g c f C m E=>(q X g c m E).m (by
  rintro e w' ⟨rfl,p⟩;exact⟨rfl,D.drop i g c,m.on (vV p m.lies),rfl,(C.m (λa b=>.inl (by rcases b with b|b;exact .inl b;exact .inr (.inr (.inl b))))).t (AB p),λa b=>.inl (Ga f a b),g,c,rfl⟩)
 have I:=bJ j;have K:=bJ s;go_enter Tryz.func42,Tryz.ntmps42;go_wp2_with (first
  |(go_at_call 43;apply Calls.m (Mm D 1 x i t w h (by omega) hi ht r);rintro e k ⟨rfl,g,c,f,A,F,d⟩;have n:Fr (λa=>a=D.d\/D.ov.ownBlock=some a) w k:=⟨d.os,d.tape,d.output,d.size,λa b hn=>d.block a b (λe=>hn (e.imp id (λh=>by rw[f,h];rfl)))⟩;have J:=u k n;have y:=v k g c f n A F;clear f)
  |(go_at_call 44;apply Calls.m y;rintro e H ⟨rfl,D',z⟩;exact⟨rfl,D',rfl,z⟩))
def qHu(D:Db)(x:Int)(i:Nat)(t:Tx)(w:World)(h:aO w 0 D)(hn:D.ts.length<=1000)(hi:i<D.ts.length)(ht:D.ts[i]=t)(C:gG D.ts x=i)(n:∀X g c,aO X 1 (D.drop i g c)->eI X D.β t->cL 44 #[.p D.d 0,.p t.b 0] X λe w'=>e=.panicked (kH 8)/\bW X w'):
  cL 14 #[.p D.d 0,.i x] w λe w'=>e=.r (.i 8)/\∃g c,aO w' 0 (D.drop i g c)/\Fr (fpD D) w w'/\aJ w (fpD D) (fpD (D.drop i g c)):=by
 have⟨a,j⟩:=nM ((w.alloc (.cells #[.p D.d 0] 29)).alloc (.cells #[.i x] 3));have f:bW w a:=j▸(bA _ _).alloc (by simp) _;have k:a.heap[w.heap.size]?=some (.cells #[.p D.d 0] 29):=j▸aQ _ (aC w _);have q:a.heap[w.heap.size+1]?=some (.cells #[.i x] 3):=by
  rw[<-j];have:=aC (w.alloc (.cells #[.p D.d 0] 29)) (.cells #[.i x] 3);simpa using this
 have F:=(gL h.box);have E:=bJ k;have z:=qJw D 8 42 #[] #[.p w.heap.size 0,.pointer (some (aD (w.heap.size+1) 0))] (enters_of Tryz.func42 (by kernel_rfl) rfl) a (h.on (vV f h.lies)) (λu=>∃g c,u=D.drop i g c) (by
  intro s v l G;have p:∀b,w.heap.size<=b->¬Bl.one D.d b:=λb o e=>by cases e;omega
  exact qMq D x i t _ _ s v hn hi ht C n (l.heap k (p _ (by omega))) (l.heap q (p _ (by omega))))
 go_enter Tryz.func14,Tryz.ntmps14;go_wp2_with (go_at_call 32;apply Calls.m z;rintro e X ⟨u,rfl,d,B,y,A,m⟩;have r:Hid (aO X 0 u/\∃g c,u=D.drop i g c):=⟨d,m⟩;clear d m B);go_ret;obtain⟨d,g,c,rfl⟩:=r.o;exact⟨rfl,g,c,d,(AB f).t y,λb o=>(A b o).imp id (λh=>vJ f.size h)⟩
open Go.Shelf
attribute [local go_sem] CM
def Uo(β:Nat)(sv lv:Value)(fs:Fs)(G:(fs.life==0)=true)(root:Nat)(hr0:root≠0)(d:Option Addr)(e:Nat)(cs:List Ch)(q:Sp)(S:Bl)(n k m:Nat)(W:World)(K:cW W n #[.p β 0,.i root,.s d cs.length e] 90)(I:cW W k #[.t q.lo] 9)(J:cW W m #[.t q.hi] 9)(r:aF W β sv lv fs)(v:aH W S d (cs.flatMap Ch.cells))(p:lW S W)(hr:cF cs)(hn:cs.length<=1000000)(C:cs.length<=e)(E:(d=none/\e=0)\/∃b H,d=some (aD b H)):Up 164 #[.p n 0,.p k 0,.p m 0] W:=by
 intro l;refine BX Tryz.func164 rfl trivial ?_ rfl;simp only[Tryz.ntmps164,jA,jB,jN,Nat.reduceAdd,Nat.reduceSub,jR,jO,jP,jT,jE,jF];have⟨c,y⟩:=nM (W.alloc (.cells #[.func (.yield l) #[] #[]] 169));have a:bW W c:=y▸(bA _ _);have g:∀{s:Nat}{o:Obj},W.heap[s]?=some o->c.heap[s]?=some o:=λh=>(a.block _ (gL h)).t h;have⟨L,M,N⟩:=eC (g K);have O:=bJ (g I);have P:=bJ (g J);gi_wp2_with (refine⟨trivial,rfl,?_⟩;gi_at_call 165;apply(AZ.2 (Mk β sv lv fs G root hr0 d e cs q S c (r.on (vV a r.lies)) (v.on (vV a p)) (λb z=>jY (p b z) a.size) hr hn C E)).m;rintro Q j ⟨R,rfl,x,A⟩);have i:bW W j:=a.t (A.m a.size);refine sT rfl (enters_of Tryz.func195 (by kernel_rfl) rfl) (λX f=>x X f) (λD X t f F=>?_);exact Rm (B:=j.heap.size) ⟨[D],rfl,by simp,λT h=>by rw[AJ.1 h];exact⟨t,F⟩⟩ (λV w=>⟨rfl,i.t ((f.t w.below).m i.size)⟩)
def Kg(β:Nat)(sv lv:Value)(fs:Fs)(L:(fs.life==0)=true)(root:Nat)(hr0:root≠0)(a:Option Addr)(c:Nat)(cs:List Ch)(key:ByteArray)(S:Bl)(w:World)(s:aF w β sv lv fs)(C:aH w S a (cs.flatMap Ch.cells))(p:lW S w)(hr:cF cs)(hn:cs.length<=1000000)(I:cs.length<=c)(K:fnd cs key=false)(P:key.size<=1000):
  cL 47 #[.agg #[.p β 0,.i root,.s a cs.length c],.t key] w λe w'=>e=.panicked (kH 9)/\bW w w':=by
 have⟨d,r⟩:=nM (((w.alloc (.cells #[.p β 0,.i root,.s a cs.length c] 90)).alloc rU).alloc (yE false));have f:bW w d:=r▸((bA _ _).alloc (by simp) _).alloc (by simp;omega) _;have o:cW d w.heap.size #[.p β 0,.i root,.s a cs.length c] 90:=r▸aQ _ (aQ _ (aC w _));have l:=lQ a c cs key S d (C.on (vV f p)) (λb G=>jY (p b G) f.size) hr (by omega) I;rw[K]at l;have⟨i,O⟩:=nM (dH cs key);rw[O]at l;have⟨x,y,z⟩:=eC o;refine(AZ (n:=0)).1 (BX Tryz.func47 rfl trivial ?_ rfl);simp only[Tryz.ntmps47,jA,jB,jN,Nat.reduceAdd,Nat.reduceSub,jR,jO,jP,jT,jE,jF];gi_wp2_with (first
  |(refine⟨trivial,rfl,?_⟩;gi_at_call 96;apply(AZ.2 l).m;rintro e v ⟨rfl,m⟩;have⟨x,y,z⟩:=eC ((m.block _ (gL o)).t o);have q:=(λX=>sL root β a cs.length c ⟨key,key++⟨#[0]⟩⟩ X) v)
  |(refine⟨trivial,rfl,?_⟩;gi_at_call 98;apply(AZ.2 q).m;rintro e k ⟨rfl,M,N,H⟩))
 have g:bW w k:=f.t ((m.t (H.m m.size)).m f.size);refine sT rfl (enters_of Tryz.func134 (by kernel_rfl) rfl) (λX j=>?_) (λD X A j J=>Rm (B:=k.heap.size) ⟨[D],rfl,by simp,λQ h=>by rw[AJ.1 h];exact⟨A,J⟩⟩ (λR F=>⟨rfl,g.t ((j.t F.below).m g.size)⟩))
 .have t:∀{i:Nat}{u:Obj},k.heap[i]?=some u->X.heap[i]?=some u:=λh=>(j.block _ (gL h)).t h
  exact Ah β sv lv fs L root hr0 a cs.length c ⟨key,key++⟨#[0]⟩⟩ _ _ X (t M) (t N) (s.on (vV (g.t (j.m g.size)) s.lies))
def Wm(β:Nat)(sv lv:Value)(fs:Fs)(I:(fs.life==0)=true)(t:Tx)(hr0:t.root≠0)(q:Sp)(most:Nat)(w:World)(u:aF w β sv lv fs)(c:eI w β t)(hr:cF t.cs)(hn:t.cs.length<=1000000)(U:most≠0):
  cL 105 #[.p t.b 0,.t q.lo,.t q.hi,.i (most:Nat)] w λe w'=>e=.panicked (kH 9)/\bW w w':=by
 have⟨P,R,s,F,J⟩:=bR c.row;simp only[Tx.cv,AQ,CV]at s;have⟨x,y⟩:=s;subst x y;have E:(t.ca=none/\t.cc=0)\/∃b L,t.ca=some (aD b L):=by
  rcases c.row.2 with⟨h,_⟩|⟨g,Q,T,h,_⟩
  .simp only[Tx.cv,AQ]at h;exact .inl ⟨h.1,h.2.2⟩
  .simp only[Tx.cv,AQ]at h;exact .inr ⟨g,0,h.1⟩
 have⟨d,r⟩:=nM ((w.alloc (.cells #[.i (most:Nat)] 3)).alloc (.cells #[.n] 30));have k:bW w d:=r▸(bA _ _).alloc (by simp) _;have K:cW d w.heap.size #[.i (most:Nat)] 3:=r▸aQ _ (aC w _);have⟨W,Y,Z,a0,a1,a2⟩:=qA ((k.block _ (gL c.box)).t c.box);have S:=bJ K;have p:∀a,t.cv.ownBlock=some a->a<w.heap.size:=λa H=>aK c.row H;have V:(((most:Nat):Int)==0)=false:=by simp;omega
 refine(AZ (n:=0)).1 (BX Tryz.func105 rfl trivial ?_ rfl);simp only[Tryz.ntmps105,jA,jB,jN,Nat.reduceAdd,Nat.reduceSub,jR,jO,jP,jT,jE,jF];gi_wp2_with (refine⟨trivial,rfl,?_⟩;gi_at_call 141;apply(AZ.2 (Ee t.root β t.ca t.cs.length t.cc q.lo q.hi d)).m;rintro e m ⟨rfl,N,o,O,C⟩);have f:bW w m:=k.t (C.m k.size);refine sT rfl (enters_of Tryz.func164 (by kernel_rfl) rfl) (λX j=>?_) (λD X z j G=>Rm (B:=m.heap.size) ⟨[D],rfl,by simp,λM h=>by rw[AJ.1 h];exact⟨z,G⟩⟩ (λX' c=>⟨rfl,f.t ((j.t c.below).m f.size)⟩))
 .have a:∀{i:Nat}{v:Obj},m.heap[i]?=some v->X.heap[i]?=some v:=λh=>(j.block _ (gL h)).t h
  have l:=f.t (j.m f.size);exact Uo β sv lv fs I t.root hr0 t.ca t.cc t.cs q (λa=>t.cv.ownBlock=some a) _ _ _ X (a N) (a o) (a O) (u.on (vV l u.lies)) (J.on (vV l p)) (λb A=>jY (p b A) l.size) hr hn F E
