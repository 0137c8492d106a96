import Derived.Test.YtdhgdcjmhofhaaaGreatD39
import Derived.Test.YtdhgdcjmhofhaaaGreatD38
set_option linter.all false
set_option maxRecDepth 100000
set_option maxHeartbeats 8000000
namespace Go.Proofs.YtdhgdcjmhofhaaaGreat.Tree
open Go.RowKit Pages Tryz
variable {K:Bl} {q:Nat} {w:World}
theorem qJb {M:RM}(h:aV w K q M)(x key j t)(D:cI M.ts x (some (j,t)))(W:M.ts.length<=8)(ak:t.l.length<=1000000)(b3:t.ch.length<=1000000)(F:t.wr=true)(d:1<=key.size/\key.size<=24)(a3)(ai:sH t.l key=some a3)(am:∀t∈M.ts,t.l.length<=1000000):
  cL 73 #[.p q 2,.i x,.t key] w λe w'=>e=.r (.i 0)/\∃K' v s,aV w' K' q {M with ts:=M.ts.set j (t.changed ⟨key,⟨#[]⟩,true⟩ v s)}/\Fr (fpR q M) w w'/\∀k,Bl.or K' (fpR q {M with ts:=M.ts.set j (t.changed ⟨key,⟨#[]⟩,true⟩ v s)}) k->Bl.or K (fpR q M) k\/w<=k:=by
 have S:=iD h D W w (AC _ _);have I:=lK h x _ D;rw[show bZ (some (j,t))=0 by simp[bZ,F]]at I;have T:=Gc h x key _ D W am;rw[show eG (some (j,t)) key=(a3,0) by simp only[eG];rw[AU d,ai]]at T;have n:=D.1;have b4:=(AD.1 n).1;have o:=BI n;have⟨g,c,e,b2,aq,ar,au,av,ac,ad,aw⟩:=h.tx n;have ab:=(dC h.box).2.2.2.2.2.2.1;rw[e]at ab;have U:=qBt t.vl t.l key K w (h.each t o).l (λk d=>(h.kp k d).1) ak;have⟨an,ao,a1,_⟩:=(h.each t o).l;rw[a1]at ac U;have⟨i,l,E⟩:=aG (h.each t o).ch;have ah:=(h.each t o).ch;rw[E]at ad ah;have b5:¬(j:Int)<0:=ω;have a4:Hid (∀X,bW w X->(∃P,cW X g P 119)/\X.c g (j * 7+4)=some (.s an t.l ao)/\X.c g (j * 7+5)=some (.s i t.ch l)/\X.ownsRow 0 131 3 (.s i t.ch l) t.ch (t.ch.flatMap Ch.cells)):=λX ag=>by
  have J:=h.below ag;have⟨ax,ap,H,_,_,_,_,_,G,B,_⟩:=J.tx n;rw[e]at H;simp only[AR,BB,CD,DC,CV]at H;obtain⟨rfl,rfl⟩:=H;rw[a1]at G;rw[E]at B;have Y:=J.row;rw[e]at Y;have V:=(J.each t o).ch;rw[E]at V;exact⟨lM Y,G,B,V⟩
 have a5:Hid (∀(a b X3 z:World) (f u:Value),bW w a->a.ownsRow 0 71 2 f (rwo t.l key) (aJ (rwo t.l key))->(nW f w)->b=a.setCell (aD g (j * 7+4)) f->fO 131 3 (.s i t.ch l) t.ch (t.ch.flatMap Ch.cells) [.t key,.e,.bool true] 1 b u X3->z=X3.setCell (aD g (j * 7+5)) u->∃K' v s,aV z K' q {M with ts:=M.ts.set j (t.changed ⟨key,⟨#[]⟩,true⟩ v s)}/\Fr (fpR q M) w z/\∀k,Bl.or K' (fpR q {M with ts:=M.ts.set j (t.changed ⟨key,⟨#[]⟩,true⟩ v s)}) k->Bl.or K (fpR q M) k\/w<=k):=λa b X3 z f u A a6 a7 a8 a9 aa=>by
  have⟨K',r⟩:=h.change n e ⟨key,⟨#[]⟩,true⟩ f u A a6 a7 a8 (E▸a9) aa;exact⟨K',f,u,r⟩
 go_enter func73,ntmps73;simp only[kC]at S I;go_wp2_with (first
  |(apply Calls.w S)
  |(apply Calls.w I)
  |(apply Calls.w T)
  |(apply Calls.m U;rintro e a ⟨f,rfl,a0,R,al⟩;have⟨⟨P,O⟩,G,B,L⟩:=a4 a R;obtain⟨A,a2,rfl⟩:=aG a0;have az:=aF O;have⟨b,C⟩:=nM (a.setCell (aD g (j * 7+4)) (.s A (rwo t.l key) a2));have af:=C▸(AE (Bl.one g) a).s g (j * 7+4);have ae:b.cell? (aD g (j * 7+5))=some (.s i t.ch l):=(by rw[<-C,DU _ _ _ _ σ];exact B);have N:=aS L (af.on (Z:=λk=>(Value.slice i t.ch l).ownBlock=some k) (λk d=>⟨aL L d,λQ=>by cases Q;exact aQ L O δ d⟩)) (λk d=>d);have m:=aC O (j * 7+4) (.s A (rwo t.l key) a2);rw[C]at m)
  |(at_builtin;apply gQ b rfl (.tmp 50) (.tmp 53) 117 131 _ 3 40 rfl underlying117 qCp rfl δ (.s i t.ch l) t.ch (t.ch.flatMap Ch.cells) rfl N [.t key,.e,.bool true] rfl rfl υ ω ω;intro v3 X3 y;obtain⟨ay,b6,rfl⟩:=y.shape δ;have b1:=(y.fr.cell (gL m) (aQ N m δ)).t ae;have b0:=aF (y.fr.heap m (aQ N m δ))))
 go_ret;exact⟨rfl,a5 a b X3 _ _ _ R a0 al C.symm y rfl⟩
def gP(o:Option (Nat×RT))(key:ByteArray):Int:=if bZ o≠0 then bZ o else (eG o key).2
theorem qJa {M}(h:aV w K q M)(x key o)(j:cI M.ts x o)(l:M.ts.length<=8)(m:∀t∈M.ts,t.l.length<=1000000)(k:gP o key≠0):
  cL 73 #[.p q 2,.i x,.t key] w λe w'=>e=.r (.i (gP o key))/\w'=w:=by
 have g:=iD h j l w (AC _ _);have d:=lK h x o j;have f:=Gc h x key o j l m;have a:Hid (gP o key=if bZ o≠0 then bZ o else (eG o key).2):=rfl;generalize gP o key=za at a k⊢;generalize bZ o=z at d a;generalize kC o=i at g d;generalize (eG o key).1=gv at f;generalize (eG o key).2=gz at f a;by_cases hzz:z=0
 .have n:(z != 0)=false:=by simp[hzz]
  have c:Hid (za=gz):=by show _=_;rw[a.o,AQ (λh=>h hzz)]
  have p:(gz != 0)=true:=by rw[c.o]at k;simpa using k
  go_enter func73,ntmps73;go_wp2_with (first
   |(apply Calls.w g)
   |(apply Calls.w d)
   |(apply Calls.w f))
  go_ret;exact⟨by rw[c.o];rfl,rfl⟩
 .have n:(z != 0)=true:=by simpa using hzz
  have c:Hid (za=z):=by show _=_;rw[a.o,AU hzz]
  go_enter func73,ntmps73;go_wp2_with (first
   |(apply Calls.w g)
   |(apply Calls.w d)
   |(apply Calls.w f))
  go_ret;exact⟨by rw[c.o];rfl,rfl⟩
theorem Pd:(prog.info? 119).map (λi=>(i.zero,i.size,i.bytes))=some (some (.agg #[.i 0,.bool false,.n,.i 0,.n,.n,.n]),7,120):=κ
theorem kS:∀(a:List RT),(a.flatMap RT.cells).length=a * 7
 |[]=>rfl
 |x :: a=>by have:=kS a;simp only[AK,jK,jB,this];simp;omega
theorem aV.one {M}(h:aV w K q M){c:List RT}(i:∀t∈c,t∈M.ts):∀u∈c.flatMap RT.cells,u.oneCell'=true:=by
 intro u b;have⟨t,j,b⟩:=AV.1 b;have a:=h.each t (i t j);have⟨k,l,d,_⟩:=a.bg;have⟨o,p,e,_⟩:=a.l;have⟨m,n,f⟩:=aG a.ch;have⟨r,s,g⟩:=aG a.oth;simp only[RT.cells,AS,FG,KO]at b;rcases b with rfl|rfl|rfl|rfl|rfl|rfl|rfl
 .rfl
 .rfl
 .rw[d];rfl
 .rfl
 .rw[e];rfl
 .rw[f];rfl
 .rw[g];rfl
theorem aV.rerow {w w':World}{M:RM}(h:aV w K q M){b:List RT}{v:Value}(g:b.Sublist M.ts)(i:Fr (Bl.one q) w w')(m:w'.1[q]?=some ({M with ov:=v,ts:=b}:RM).obj)(n:w'.ownsRow 0 119 7 v b (b.flatMap RT.cells))(l:nW v w):
  aV w' K q {M with ov:=v,ts:=b}/\∀k,Bl.or K (fpR q {M with ov:=v,ts:=b}) k->Bl.or K (fpR q M) k\/w<=k:=by
 have j:=i.on (λk a=>⟨(h.kp k a).1,λc=>(h.kp k a).2.1 c⟩);refine⟨⟨m,n,h.now.on j,h.ah.on j,λe d=>?_,h.apart.sublist g,λk a=>⟨jY (h.kp k a).1 i.size,(h.kp k a).2.1,λc=>by have o:=l k c;have p:=(h.kp k a).1;omega,λe d=>(h.kp k a).2.2.2 e (g.subset d)⟩⟩,λk a=>?_⟩
 .have f:=h.each e (g.subset d);exact f.on j (i.on (λk a=>⟨f.lies k a,λc=>by
   cases c;exact a.elim (aQ f.ch h.box δ) (aQ f.oth h.box δ)⟩))
 .rcases a with a|rfl|a|⟨e,d,a⟩
  .exact .inl (.inl a)
  .exact .inl (.inr (.inl rfl))
  .exact .inr (l k a)
  .exact .inl (.inr (.inr (.inr ⟨e,g.subset d,a⟩)))
theorem yU {M:RM}(h:aV w K q M)(x j t)(Y:cI M.ts x (some (j,t)))(aj:M.ts.length<=8):
  cL 28 #[.p q 2,.i x] w λe w'=>e=.r (.i 0)/\∃v,aV w' K q {M with ov:=v,ts:=M.ts.eraseIdx j}/\Fr (Bl.one q) w w'/\∀k,Bl.or K (fpR q {M with ov:=v,ts:=M.ts.eraseIdx j}) k->Bl.or K (fpR q M) k\/w<=k:=by
 have T:=iD h Y aj w (AC _ _);have W:=Y.1;have ah:=(AD.1 W).1;obtain⟨g,c,e,an,_⟩:=h.tx W;obtain⟨au,av,B,_,U⟩:=cA h.row;rw[e]at B;simp only[AR,CV]at B;obtain⟨rfl,rfl⟩:=B;have a9:=(dC h.box).2.2.2.2.2.2.1;rw[e]at a9
 have ar:IntKind.i64.wrap ((j:Int)+1)=(j:Int)+1:=by rw[CQ];omega
 have y:Hid (aH w (λk=>M.ov.ownBlock=some k) (some (aD g 0)) ((M.ts.take j).flatMap RT.cells)/\((M.ts.take j).flatMap RT.cells).length=j * 7/\(∀i∈(M.ts.take j).flatMap RT.cells,i.oneCell'=true)):=by
  refine⟨?_,by rw[kS,AX];congr 1;omega,h.one (λt I=>DD I)⟩;have A:(M.ts.take j).flatMap RT.cells++(M.ts.drop j).flatMap RT.cells=M.ts.flatMap RT.cells:=by rw[<-BS,BU]
  rcases U with C|⟨b,a2,o,E,G⟩
  .have:=kS M.ts;rw[C]at this;simp at this;omega
  .exact .inr ⟨b,a2,o,E,λJ i r=>G J i (by rw[<-A];exact(BK (AD.1 r).1).t r)⟩
 have a5:Hid (∀X L,bW w X->(j+1<M.ts->L=some (aD g ((j+1) * 7)))->aH X (λk=>M.ov.ownBlock=some k) L ((M.ts.drop (j+1)).flatMap RT.cells)):=by
  intro X L D am;rcases BT (j+1) M.ts with ai|ag
  .have A:(M.ts.take (j+1)).flatMap RT.cells++(M.ts.drop (j+1)).flatMap RT.cells=M.ts.flatMap RT.cells:=by rw[<-BS,BU]
   have aa:((M.ts.take (j+1)).flatMap RT.cells).length=(j+1) * 7:=by rw[kS,AX];congr 1;omega
   have ae:=U.on (vV D (λk d=>aL h.row d));rcases ae with C|⟨b,a2,o,E,G⟩
   .have:=kS M.ts;rw[C]at this;simp at this;omega
   .simp only[BB,CD,DC]at o
    obtain⟨rfl,rfl⟩:=o;refine .inr ⟨g,(j+1) * 7,am ai,E,λJ i r=>?_⟩;have:=G ((j+1) * 7+J) i (by rw[<-A,AZ ω,aa,Nat.add_sub_cancel_left];exact r);simpa using this
  .exact .inl (by rw[CW ag];rfl)
 have N:Hid (((M.ts.drop (j+1)).flatMap RT.cells).length=(M.ts-(j+1)) * 7/\∀i∈(M.ts.drop (j+1)).flatMap RT.cells,i.oneCell'=true):=⟨by rw[kS,BJ],h.one (λt I=>BV I)⟩;have u:Hid (∀X,bW w X->X.c q 6=some (.q g M.ts c)/\X.1[q]?=some M.obj):=λX D=>by
  have Q:=(h.below D).box;have:=(dC Q).2.2.2.2.2.2.1;rw[e]at this;exact⟨this,Q⟩
 have a6:Hid (∀(a:World) (f:Value) (s:Nat),bW w a->s=M.ts.length-(j+1)->a.ownsRow 0 119 7 f (j+s) ([]++(M.ts.take j).flatMap RT.cells++(M.ts.drop (j+1)).flatMap RT.cells)->(nW f w)->∃v,aV (a.setCell (aD q 6) f) K q {M with ov:=v,ts:=M.ts.eraseIdx j}/\Fr (Bl.one q) w (a.setCell (aD q 6) f)/\∀k,Bl.or K (fpR q {M with ov:=v,ts:=M.ts.eraseIdx j}) k->Bl.or K (fpR q M) k\/w<=k):=by
  intro a f s R ap H al;have V:=(u.o a R).2;have P:Fr (Bl.one q) a (a.setCell (aD q 6) f):=(AE (Bl.one q) a).s q 6;have F:=(AB R).t P;have af:=aC V 6 f;have a0:=aS H (P.on (Z:=λk=>f.ownBlock=some k) (λk d=>⟨aL H d,λO=>by cases O;exact aQ H V δ d⟩)) (λk d=>d);have ad:=(List.eraseIdx_eq_take_drop_succ M.ts j).symm;have ac : []++(M.ts.take j).flatMap RT.cells++(M.ts.drop (j+1)).flatMap RT.cells=(M.ts.eraseIdx j).flatMap RT.cells:=by rw[<-ad,BS];rfl
  have ab:j+s=(M.ts.eraseIdx j).length:=by rw[CJ ah];omega
  rw[ac,ab]at a0;obtain⟨a7,a8⟩:=h.rerow (v:=f) (DG M.ts j) F (by simpa using af) a0 al;exact⟨f,a7,F,a8⟩
 simp only[kC]at T;go_enter func28,ntmps28;go_wp2_with (first
  |(apply Calls.w T)
  |(at_builtin;refine lC w rfl (.tmp 12) (.tmp 18) 33 119 _ 7 120 rfl underlying33 Pd rfl δ .n 0 [] rfl (AO _ _ _ _) (some (aD g 0)) j c _ ((M.ts.take j).flatMap RT.cells) rfl y.o.2.1 y.o.1 y.o.2.2 ω ω ?_;intro az z m;obtain⟨a3,a4,rfl⟩:=aG m.row;have l:=m.fr.below (jU _) (λk d=>by simp[Value.ownBlock]at d);have aw:=(u.o z l).1;have a1:=λk d=>(m.lies k d).elim (λh=>by simp[Value.ownBlock]at h) id)
  |(at_builtin;refine lC z rfl (.tmp 21) (.tmp 28) 33 119 _ 7 120 rfl underlying33 Pd rfl δ (.s a3 (0+j) a4) (0+j) ([]++(M.ts.take j).flatMap RT.cells) (by simp[Act.eval]) m.row _ _ _ _ ((M.ts.drop (j+1)).flatMap RT.cells) rfl (by rw[N.o.1]<;>omega) (a5.o z _ l (by first|(intro _;rfl)|(intro h;exact AQ ω)|(intro h;exfalso;omega))) N.o.2 ω ω ?_;intro f a n;obtain⟨b0,b1,rfl⟩:=aG n.row;have S:=l.t (n.fr.below l.size a1);obtain⟨ax,ak⟩:=u.o a S;have ay:=aF ak))
 all_goals go_ret
 all_goals exact⟨rfl,a6.o a _ (M.ts-(j+1)) S rfl (by have:=n.row;simpa only[EA] using this) (λk d=>(n.lies k (by simpa only[EA] using d)).elim (a1 k) (λh=>vJ l.size h))⟩
theorem qNr {M}(h:aV w K q M)(x)(c:cI M.ts x none)(b:M.ts.length<=8):
  cL 28 #[.p q 2,.i x] w λe w'=>e=.r (.i 3)/\w'=w:=by
 have a:=iD h c b w (AC _ _);simp only[kC]at a;go_enter func28,ntmps28;go_wp2_with (apply Calls.w a);go_ret;exact⟨rfl,rfl⟩
def RM.begun(M:RM)(num:Int)(wr:Bool)(v:Value):RT:=⟨num,wr,M.now,M.nv,M.now,[],[],M.vn,v,.slice none 0 0,.slice none 0 0⟩
variable {M:RM}
theorem aV.push {w A X3:World}(h:aV w K q M)(u:bW w A){i v3:Value}(U:A.ownsRow 0 71 2 i M.now (aJ M.now))(T:nW i w)(o r)(s:fO 119 7 M.ov M.ts (M.ts.flatMap RT.cells) (M.begun o r i).cells 1 A v3 X3):
  ∃K',aV (X3.setCell (aD q 6) v3) K' q {M with ov:=v3,ts:=M.ts++[M.begun o r i]}/\Fr (fpR q M) w (X3.setCell (aD q 6) v3)/\∀k,Bl.or K' (fpR q {M with ov:=v3,ts:=M.ts++[M.begun o r i]}) k->Bl.or K (fpR q M) k\/w<=k:=by
 have⟨l,B⟩:=nM (X3.setCell (aD q 6) v3);rw[B];have a9:=u.size;have p:=aS h.row (vV (Y:=λk=>k<w) u (λk c=>c)) (λk c=>aL h.row c);have L:=(h.below u).box;have N:=s.fr.heap L (aQ p L δ);have P:=B▸(AE (Bl.one q) X3).s q 6;have a3:l.1[q]?=some ({M with ov:=v3,ts:=M.ts++[M.begun o r i]}:RM).obj:=by rw[<-B];have:=aC N 6 v3;simpa using this
 have X:∀{y:TypeId}{z n:Nat}{v:Value}{a2:List Value},X3.ownsRow 0 y z v n a2->y≠43->l.ownsRow 0 y z v n a2:=λD a5=>aS D (P.on (Z:=λk=>_=some k) (λk c=>⟨aL D c,λO=>by cases O;exact aQ D N (λg=>a5 g.symm) c⟩)) (λk c=>c);have a1:=X s.row δ;have J:=X (s.keeps U (dU U p δ)) δ;have F:Fr (λk=>k=q\/M.ov.ownBlock=some k) w l:=((AB u).t (s.fr.m (λk c=>.inl (.inr c)))).t (P.m (λk c=>.inl (.inl c)));have x:=F.on (λk c=>⟨(h.kp k c).1,λH=>H.elim (h.kp k c).2.1 (h.kp k c).2.2.1⟩);have V:∀k,v3.ownBlock=some k->M.ov.ownBlock=some k\/w<=k:=λk c=>(s.lies k c).imp id (λQ=>ω);have W:∀e∈M.ts,∀k,fpX e k->k≠q/\M.ov.ownBlock≠some k:=λe d k c=>by
  have j:=h.each e d;refine⟨λg=>by subst g;exact c.elim (aQ j.ch h.box δ) (aQ j.oth h.box δ),λg=>?_⟩;rcases c with c|c
  .rcases dU j.ch h.row δ with f|f
   .rw[f]at c;cases c
   .exact f (c.t g.symm)
  .rcases dU j.oth h.row δ with f|f
   .rw[f]at c;cases c
   .exact f (c.t g.symm)
 have C:∀k,¬fpX (M.begun o r i) k:=λk c=>by rcases c with c|c<;>simp[RM.begun,Value.ownBlock]at c
 refine⟨λk=>K k\/i.ownBlock=some k,⟨a3,by simpa using a1,(h.now.on x).m (λk c=>.inl c),(h.ah.on x).m (λk c=>.inl c),λe d=>?_,?_,λk c=>?_⟩,F.m (λk c=>.inl (c.imp id .inl)),λk c=>?_⟩
 .rcases AN.1 d with d|d
  .have j:=h.each e d;have t:=j.on x (F.on (λk c=>⟨j.lies k c,λH=>H.elim (W e d k c).1 (W e d k c).2⟩));exact⟨t.bg.m (λk c=>.inl c),t.l.m (λk c=>.inl c),t.ch,t.oth⟩
  .rw[AL]at d;subst d;exact⟨(h.now.on x).m (λk c=>.inl c),(KN J).m (λk c=>.inr c),AO _ _ _ _,AO _ _ _ _⟩
 .refine CO.2 ⟨h.apart,σ,λa a6 b S k c a4=>?_⟩;rw[AL]at S;subst S;exact C k a4
 .have R:∀e∈M.ts++[M.begun o r i],fpX e k->∃e∈M.ts,fpX e k:=λe d m=>by
   rcases AN.1 d with d|d
   .exact⟨e,d,m⟩
   .rw[AL]at d;subst d;exact absurd m (C k)
  rcases c with c|c
  .refine⟨jY (h.kp k c).1 F.size,(h.kp k c).2.1,λg=>?_,λe d m=>?_⟩
   .rcases V k g with f|f
    .exact(h.kp k c).2.2.1 f
    .have:=(h.kp k c).1;omega
   .have⟨I,E,G⟩:=R e d m;exact(h.kp k c).2.2.2 I E G
  .have a7:=T k c;have a8:=(gL h.box);refine⟨aL J c,ω,λg=>?_,λe d m=>?_⟩
   .rcases dU J a1 δ with f|f
    .rw[f]at c;cases c
    .exact f (c.t g.symm)
   .have⟨I,E,G⟩:=R e d m;have:=(h.each I E).lies k G;omega
 .rcases c with(c|c)|rfl|c|⟨e,d,c⟩
  .exact .inl (.inl c)
  .exact .inr (T k c)
  .exact .inl (.inr (.inl rfl))
  .exact(V k c).imp (λQ=>.inr (.inr (.inl Q))) id
  .rcases AN.1 d with d|d
   .exact .inl (.inr (.inr (.inr ⟨e,d,c⟩)))
   .rw[AL]at d;subst d;exact absurd c (C k)
theorem aV.renum (h:aV w K q M)(z):aV (w.setCell (aD q 7) (.i z)) K q {M with last:=z}:=by
 have e:Fr (Bl.one q) w (w.setCell (aD q 7) (.i z)):=(AE (Bl.one q) w).s q 7;have g:=e.on (λc a=>⟨(h.kp c a).1,λd=>(h.kp c a).2.1 d⟩);have b:=aC h.box 7 (.i z);refine⟨by simpa using b,aS h.row (e.on (Z:=λc=>M.ov.ownBlock=some c) (λc a=>⟨aL h.row a,λi=>by cases i;exact aQ h.row h.box δ a⟩)) (λc a=>a),h.now.on g,h.ah.on g,λk j=>?_,h.apart,λc a=>⟨jY (h.kp c a).1 e.size,(h.kp c a).2⟩⟩;have f:=h.each k j;exact f.on g (e.on (λc a=>⟨f.lies c a,λd=>by
  cases d;exact a.elim (aQ f.ch h.box δ) (aQ f.oth h.box δ)⟩))
theorem Rr (h:aV w K q M)(c)(f:8<=M.ts.length):
  cL 22 #[.p q 2,.bool c] w λe w'=>e=.r (.tuple #[.i 0,.i 6])/\w'=w:=by
 have a:=(dC h.box).2.2.2.2.2.2.1;have⟨g,i,b⟩:=aG h.row;rw[b]at a;have d:(8:Int)<=(M.ts.length:Int):=ω;go_enter func22,ntmps22;go_wp2;go_ret2;exact⟨rfl,rfl⟩
theorem Yd (h:aV w K q M)(l)(aq:M.ts.length<8)(a8:M.now.length<=1000000)(au:0<=M.last/\M.last<1000000000):
  cL 22 #[.p q 2,.bool l] w λe w'=>e=.r (.tuple #[.i (M.last+1),.i 0])/\∃K' v N,aV w' K' q {M with last:=M.last+1,ov:=v,ts:=M.ts++[M.begun (M.last+1) l N]}/\Fr (fpR q M) w w'/\∀k,Bl.or K' (fpR q {M with last:=M.last+1,ov:=v,ts:=M.ts++[M.begun (M.last+1) l N]}) k->Bl.or K (fpR q M) k\/w<=k:=by
 have⟨ah,ai,aj,ak,al,am,a3,an,_⟩:=dC h.box;have⟨g,j,s⟩:=aG h.row;have⟨c,d,y,_⟩:=h.now;rw[s]at a3;have ap:¬(8:Int)<=(M.ts.length:Int):=ω;have ar:IntKind.i64.wrap (M.last+1)=M.last+1:=by rw[CQ];omega
 have⟨a,G⟩:=nM (w.setCell (aD q 7) (.i (M.last+1)));have o:=h.renum (M.last+1);rw[G]at o;have aw:a.1.size=w:=by rw[<-G];simp[World.setCell]
 have Z:=G▸(AE (Bl.one q) w).s q 7;have z:Hid (∀X,bW a X->X.c q 6=some (.s g M.ts j)/\X.c q 7=some (.i (M.last+1))/\X.c q 2=some (.slice c M.now d)/\X.c q 3=some (.i M.nv)):=λX u=>by
  have⟨_,_,ae,af,_,_,ag,W,_⟩:=dC (o.below u).box;exact⟨s▸ag,W,y▸ae,af⟩
 have a0:Hid (∀X,bW a X->cL 58 #[.s c M.now d] X λe w'=>∃v',e=.r v'/\w'.ownsRow 0 71 2 v' M.now (aJ M.now)/\bW X w'/\∀k,v'.ownBlock=some k->X<=k):=λX u=>by
  have:=yC M.vn M.now K X (o.below u).now a8;rw[y]at this;exact this
 have O:Hid (∀X,bW a X->X.ownsRow 0 119 7 (.s g M.ts j) M.ts (M.ts.flatMap RT.cells)):=λX u=>by rw[<-s];exact(o.below u).row
 have a2:Hid (∀b X3 (v3:Value) (V:List Value),bW a b->fO 119 7 (.s g M.ts j) M.ts (M.ts.flatMap RT.cells) V 1 b v3 X3->X3.1[q]?=some (.cells #[M.f,M.x,.slice c M.now d,.i M.nv,M.va,.i M.av,.s g M.ts j,.i (M.last+1),M.p0,M.p1,M.p2,M.p3,M.p4,M.p5,M.p6,M.p7,M.p8,M.p9] 43)):=λb X3 v3 V A C=>by
  have Q:=(o.below A).box;have:=C.fr.heap Q (aQ (O b A) Q δ);rw[<-s,<-y];exact this
 have a1:Hid (∀b X3 (m:Option Addr) (n:Nat) (v3:Value),bW a b->b.ownsRow 0 71 2 (.s m M.now n) M.now (aJ M.now)->(∀k,(Value.s m M.now n).ownBlock=some k->a.drew<=k)->fO 119 7 (.s g M.ts j) M.ts (M.ts.flatMap RT.cells) [.i (M.last+1),.bool l,.s c M.now d,.i M.nv,.s m M.now n,.n,.n] 1 b v3 X3->∃K',aV (X3.setCell (aD q 6) v3) K' q {M with last:=M.last+1,ov:=v3,ts:=M.ts++[M.begun (M.last+1) l (.s m M.now n)]}/\Fr (fpR q M) w (X3.setCell (aD q 6) v3)/\∀k,Bl.or K' (fpR q {M with last:=M.last+1,ov:=v3,ts:=M.ts++[M.begun (M.last+1) l (.s m M.now n)]}) k->Bl.or K (fpR q M) k\/w<=k):=by
  intro b X3 m n v3 A ab a9 C;have Y:fO 119 7 M.ov M.ts (M.ts.flatMap RT.cells) (M.begun (M.last+1) l (.s m M.now n)).cells 1 b v3 X3:=by
   rw[s];simp only[RM.begun,RT.cells,y];exact C
  have⟨K',R,B,E⟩:=o.push A ab (λk x=>a9 k x) (M.last+1) l Y;exact⟨K',R,(Z.m (λk x=>.inl (.inl x))).t B,λk x=>(E k x).imp id (λao=>ω)⟩
 have av:=aF h.box;clear h o y s;go_enter func22,ntmps22;go_wp2;apply cY (S:=(λX:World=>X.c q 6=some (.s g M.ts j)/\X.c q 7=some (.i (M.last+1))/\X.c q 2=some (.s c M.now d)/\X.c q 3=some (.i M.nv))) 25 κ;apply tks [(0,.p q 2),(1,.p q 2),(2,.p q 2),(3,.p q 6),(4,.s g M.ts j),(5,.p q 2),(6,.p q 2),(7,.p q 7),(8,.i (M.last+1)),(9,.bool l),(10,.p q 2),(11,.p q 2),(12,.p q 2),(13,.agg #[.s c M.now d,.i M.nv]),(14,.p q 2),(15,.p q 2),(16,.p q 2),(17,.p q 2),(18,.s c M.now d)] (z _ (AC _ a).drew);iterate 19 (refine tk1 rfl ?_;try simp only[pS])
 apply tke;refine aR (i:=19) κ rfl (λK f=>?_);go_simp;apply Calls.m (a0 _ (AC _ a).drew);rintro e b ⟨N,rfl,U,a5,aa⟩;have r:=(AC _ a).drew.t a5;obtain⟨m,n,rfl⟩:=aG U;simp only[];apply f _ _ (λ_=>z _ r);clear f K;try simp only[pS]
 have F:=z _ r;refine mR (i:=20) (v:=.agg #[.i (M.last+1),.bool l,.s c M.now d,.i M.nv,.s m M.now n,.n,.n]) rfl κ (λ_ _ _ h=>h) τ F (λF=>?_);try simp only[pS]
 refine aR (i:=21) κ rfl (λK f=>?_);go_simp;apply f _ _ (λ_=>z _ (r.alloc r.size _));clear f K;try simp only[pS]
 refine aR (i:=22) κ rfl (λK f=>?_);(apply kA b rfl (.tmp 23) (.tmp 40) 33 119 _ 7 120 rfl underlying33 Pd rfl δ (.s g M.ts j) M.ts (M.ts.flatMap RT.cells) ξ (O b r) [.i (M.last+1),.bool l,.s c M.now d,.i M.nv,.s m M.now n,.n,.n] ξ rfl υ ω ω;intro v3 X3 D;obtain⟨a4,ac,rfl⟩:=D.shape δ;have T:=a2 b X3 _ _ r D;have⟨_,_,H,I,_,_,J,L,_⟩:=dC T;have ad:=aF T);apply f _ _ (λ_=>⟨J,L,H,I⟩);clear f K;try simp only[pS]
 apply tks [(23,.p q 2),(24,.p q 6)] ⟨J,L,H,I⟩;iterate 2 (refine tk1 rfl ?_;try simp only[pS])
 apply tke;refine aR (i:=25) κ rfl (λK f=>?_);go_simp;apply f _ _ (λe=>by cases e);clear f K;try simp only[pS]
 refine dF κ ?_ _;have⟨K',R,B,E⟩:=a1 b X3 _ _ _ r U aa D;have⟨P,a6⟩:=nM (X3.setCell (aD q 6) (.q a4 (M.ts+1) ac));rw[a6]at R B⊢;have W:=(dC R.box).2.2.2.2.2.2.2.1;clear H I J L ad;go_wp2;go_ret2;exact⟨rfl,K',_,_,R,B,E⟩
theorem qV{l}(b:l.length<=1000000)(a:∀x∈l,x.2.size<=400):dL l<=4000002:=by
 have:=Hc l a;rw[Xz];omega
def iW(M:RM)(t:RT):Nat:=dL (t.ch.foldl dS M.now)+dL M.now+dL M.ah+2+tot (λt:RT=>dL t.bg) M.ts
theorem Rl (h:aV w K q M)(x j t)(b4:cI M.ts x (some (j,t)))(bp:M.ts.length<=8)(bm:M.now.length+t.ch<=1000000)(bq:M.nv<1000000000/\0<=M.nv)(b3:M.ah.length<=1000000)(ag:∀t∈M.ts,t.bg.length<=1000000)(an:∀x∈t.ch.foldl dS M.now,x.2.size<=400)(b7:∀x∈M.now,x.2.size<=400)(v3:∀x∈M.ah,x.2.size<=400)(ao:∀t∈M.ts,∀x∈t.bg,x.2.size<=400):
  cL 78 #[.p q 2,.i x] w λe w'=>e=.r (.i (iW M t:Nat))/\bW w w':=by
 have bh:=xG h x j t b4 bp bm bq;have af:(t.ch.foldl dS M.now).length<=1000000:=by have:=rQ t.ch M.now;omega
 have bu:=qV af an;have bv:=qV (l:=M.now) ω b7;have bw:=qV b3 v3;have be:Hid (∀i,i<=M.ts.length->tot (λt:RT=>dL t.bg) (M.ts.take i)<=4000002 * 8):=λi a3=>by
  have:∀(o:List RT),(∀t∈o,t∈M.ts)->tot (λt:RT=>dL t.bg) o<=4000002 * o:=λo=>by
   induction o with
   |nil=>intro _;exact jU _
   |cons y o ih =>
    intro ai;have c8:=qV (ag y (ai y σ)) (ao y (ai y σ));have c9:=ih (λz br=>ai z (by simp[br]));simp only[cQ,jB];omega
  have:=this (M.ts.take i) (λt aj=>DD aj);rw[AX]at this;omega
 have a1:Hid (∀X v (ap:Int) (o:KV) (S:Bl),fD X S v o->(∀u,S u->u<X)->o.length<=1000000->(∀x∈o,x.2.size<=400)->cL 109 #[.agg #[v,.i ap]] X λe w'=>e=.r (.i (dL o:Nat))/\bW X w'):=λX v ap o S a b c d=>qFp v ap o S X a b c d;have a0:Hid (iW M t=dL (t.ch.foldl dS M.now)+dL M.now+dL M.ah+2+tot (λt:RT=>dL t.bg) M.ts):=rfl;obtain⟨G,H,am,_⟩:=h.now;obtain⟨E,F,ak,_⟩:=h.ah.1;obtain⟨b5,b6,ah⟩:=aG h.row;have av:Hid (∀X,bW w X->X.c q 2=some (.s G M.now H)/\X.c q 3=some (.i M.nv)/\X.c q 4=some (.s E M.ah F)/\X.c q 5=some (.i M.av)/\X.c q 6=some (.s b5 M.ts b6)):=λX f=>by
  obtain⟨_,_,a4,aq,a5,ar,au,_⟩:=dC (h.below f).box;rw[am]at a4;rw[ak]at a5;rw[ah]at au;exact⟨a4,aq,a5,ar,au⟩
 have a7:Hid (∀X,bW w X->fD X K (.slice G M.now H) M.now/\fD X K (.slice E M.ah F) M.ah/\∀u,K u->u<X.1.size):=λX f=>by
  have P:=h.below f;exact⟨am▸P.now,ak▸P.ah.1,λu J=>(P.kp u J).1⟩
 have bf:Hid (∀X i (a3:i<M.ts.length),bW w X->∃g c N O,b5=some (aD g 0)/\b6=c/\M.ts.length<=c/\X.c g (i * 7+2)=some (.s N (M.ts[i]).bg O)/\X.c g (i * 7+3)=some (.i (M.ts[i]).bv)/\fD X K (.slice N (M.ts[i]).bg O) (M.ts[i]).bg):=λX i a3 f=>by
  have P:=h.below f;obtain⟨g,c,e,bk,_,_,a9,ay,_⟩:=P.tx (jQ a3);rw[ah]at e;simp only[AR,CV]at e;have a2:=(P.each _ (AA a3)).bg;obtain⟨N,O,al,r⟩:=a2;rw[al]at a9;exact⟨g,c,N,O,e.1,e.2,bk,a9,ay,al▸⟨N,O,al,r⟩⟩
 generalize hNA:dL (t.ch.foldl dS M.now)=p at bu a0;generalize hNN:dL M.now=s at bv a0;generalize hNH:dL M.ah=B at bw a0;clear am ak ah h b4;go_enter func78,ntmps78;go_wp2_with (apply Calls.m bh;rintro e m ⟨cd,rfl,ab,az,bn⟩;obtain⟨C,D,rfl⟩:=aG ab);generalize (t.ch.foldl dS M.now)=LA at ab af an hNA bn⊢;obtain⟨k,a6,-,b8,-⟩:=al1 m (.cells #[.s C LA D,.i (M.nv+1)] 32);have I:=a6▸az.alloc az.size _;have ac:=CG (w:=m) ab (.cells #[.s C LA D,.i (M.nv+1)] 32);try rw[a6]
 rw[a6]at ac;have L:Hid (∀X,bW k X->X.c m 0=some (.s C LA D)/\X.c m 1=some (.i (M.nv+1))/\X.c q 2=some (.s G M.now H)/\X.c q 3=some (.i M.nv)/\X.c q 4=some (.s E M.ah F)/\X.c q 5=some (.i M.av)):=λX f=>by
  obtain⟨c2,c3⟩:=cM (f.kp b8);obtain⟨a4,aq,a5,ar,_⟩:=av.o X (I.tm f);exact⟨c2,c3,a4,aq,a5,ar⟩
 have bb:Hid (cL 109 #[.agg #[.s C LA D,.i (M.nv+1)]] k.drew λe w'=>e=.r (.i (p:Nat))/\bW k w'):=by
  have a2:bW k k.drew:=(AC _ k).drew;have b1:=aS ac (vV (Y:=λu=>u<k) a2 (λu J=>J)) (λu J=>aL ac J);refine(a1.o k.drew _ (M.nv+1) LA _ (KN b1) (λu J=>aL b1 J) af an).m ?_;rintro e w' ⟨rfl,W⟩;exact⟨by rw[hNA],a2.t W⟩
 have bc:Hid (∀X,bW k X->cL 109 #[.agg #[.s G M.now H,.i M.nv]] X λe w'=>e=.r (.i (s:Nat))/\bW k w'):=λX f=>by
  obtain⟨bs,_,Z⟩:=a7.o X (I.tm f);refine(a1.o X _ M.nv M.now K bs Z ω b7).m ?_;rintro e w' ⟨rfl,W⟩;exact⟨by rw[hNN],f.tm W⟩
 have bd:Hid (∀X,bW k X->cL 109 #[.agg #[.s E M.ah F,.i M.av]] X λe w'=>e=.r (.i (B:Nat))/\bW k w'):=λX f=>by
  obtain⟨_,bt,Z⟩:=a7.o X (I.tm f);refine(a1.o X _ M.av M.ah K bt Z b3 v3).m ?_;rintro e w' ⟨rfl,W⟩;exact⟨by rw[hNH],f.tm W⟩
 have bx:IntKind.i64.wrap ((p:Int)+(s:Int))=(p:Int)+(s:Int):=by rw[CQ];omega
 have bz:IntKind.i64.wrap ((p:Int)+(s:Int)+(B:Int))=(p:Int)+(s:Int)+(B:Int):=by rw[CQ];omega
 have c0:IntKind.i64.wrap ((p:Int)+(s:Int)+(B:Int)+2)=((p+s+B+2:Nat):Int):=by rw[CQ];omega
 have c4:=I.size;refine cY (S:=(λX:World=>X.c m 0=some (.s C LA D)/\X.c m 1=some (.i (M.nv+1))/\X.c q 2=some (.s G M.now H)/\X.c q 3=some (.i M.nv)/\X.c q 4=some (.s E M.ah F)/\X.c q 5=some (.i M.av))) 15 κ ?_;refine tks [(0,.agg #[.s C LA D,.i (M.nv+1)]),(2,.p q 2),(3,.p q 2),(4,.p q 2),(5,.agg #[.s G M.now H,.i M.nv]),(8,.p q 2),(9,.p q 2),(10,.p q 4),(11,.agg #[.s E M.ah F,.i M.av])] (L.o _ (AC _ k).drew) ?_;iterate 9 (refine tk1 rfl ?_;try simp only[pS])
 refine tke ?_;refine aR (i:=1) κ rfl (λK A=>?_);go_simp;apply Calls.m bb.o;rintro e c6 ⟨rfl,b2⟩;simp only[];refine A.out _ _ (λ_=>L.o _ b2) ?_;clear A K;try simp only[pS]
 refine aR (i:=6) κ rfl (λK A=>?_);go_simp;apply Calls.m (bc.o _ b2)
 rintro e bg ⟨rfl,ad⟩;simp only[];refine A.out _ _ (λ_=>L.o _ ad) ?_;clear A K;try simp only[pS]
 have aa:=L.o _ ad;refine mR (i:=7) (v:=.i ((p:Int)+(s:Int))) rfl κ (λ_ _ _ h=>h) τ aa (λaa=>?_);try simp only[pS]
 refine aR (i:=12) κ rfl (λK A=>?_);go_simp;go_at_call 109
 apply Calls.m (bd.o _ ad)
 rintro e ax ⟨rfl,ae⟩;simp only[];refine A.out _ _ (λ_=>L.o _ ae) ?_;clear A K;try simp only[pS]
 refine tks [(13,.i ((p:Int)+(s:Int)+(B:Int))),(14,.i ((p+s+B+2:Nat):Int))] (L.o _ ae) ?_;iterate 2 (refine tk1 rfl ?_;try simp only[pS])
 refine tke ?_;refine aR (i:=15) κ rfl (λK A=>?_);go_simp;refine A.out _ _ (λe=>by cases e) ?_;clear A K;try simp only[pS]
 refine dF κ ?_ _;have b9:=I.t (ae.m c4);clear bx bz c0;go_wp2;go_loopw [6,7] (λn i c1=>∃l:Nat,i=.i l/\l<=M.ts/\n=.i ((p+s+B+2+tot (λt:RT=>dL t.bg) (M.ts.take l):Nat):Int)/\Hid (bW w c1)) (λ_ i _=>M.ts-(intOf i).toNat)
 case atStart=>exact⟨0,rfl,AG _,by simp[tot],b9⟩
 case round =>
  obtain⟨l,rfl,bo,rfl,ba⟩:=hrel;have Q:=ba.o;have au:=(av.o _ Q).2.2.2.2;have aj:=be.o l bo;rcases BT l M.ts with U|cb
  .have cc:(l:Int)<(M.ts.length:Int):=ω
   obtain⟨g,c,N,O,rfl,rfl,ca,a9,ay,bl⟩:=bf.o _ l U Q;have Z:=(a7.o _ Q).2.2;have b0:=a1.o _ _ (M.ts[l]).bv (M.ts[l]).bg K bl Z (ag _ (AA U)) (ao _ (AA U));have bj:=qV (ag _ (AA U)) (ao _ (AA U));have a8:Hid (tot (λt:RT=>dL t.bg) (M.ts.take (l+1))=tot (λt:RT=>dL t.bg) (M.ts.take l)+dL (M.ts[l]).bg):=mF _ _ _ U;generalize tot (λt:RT=>dL t.bg) (M.ts.take l)=T at aj a8⊢;generalize dL (M.ts[l]).bg=R at bj b0 a8;go_wp2_with (apply Calls.m b0;rintro e c7 ⟨rfl,bi⟩);exact⟨⟨l+1,σ,ω,by rw[a8.o];simp;omega,Q.tm bi⟩,θ⟩
  .obtain rfl:l=M.ts:=ω
   have aw:Hid (p+s+B+2+tot (λt:RT=>dL t.bg) (M.ts.take M.ts)=iW M t):=by show _=_;rw[BN,a0.o]
   generalize p+s+B+2+tot (λt:RT=>dL t.bg) (M.ts.take M.ts)=T at aw⊢;go_wp2;go_ret;exact⟨by rw[aw.o];rfl,Q⟩
theorem tV(g b i h d c j f w):
  cL 53 #[.agg #[.s g i h,.i j],.agg #[.s b d c,.i f]] w λe w'=>e=.r (.agg #[.s g i h,.i j,.s b d c,.i f,.n,.i 0])/\bW w w':=by
 obtain⟨a,k,m,q,r,l,-⟩:=al3 w (.cells #[.s g i h,.i j] 32) (.cells #[.s b d c,.i f] 32) (.cells #[.n,.i 0,.n,.i 0,.n,.i 0] 35); have⟨t,u⟩:=cM q;have⟨x,y⟩:=cM r;have⟨z,A,B,C,D,E⟩:=qQ l;have F:=aF l;have s:=aC (aC (aC (aC (aC (aC l 0 (.s g i h)) 1 (.i j)) 2 (.s b d c)) 3 (.i f)) 4 .n) 5 (.i 0);have n:Fr (Bl.one (w+1+1)) a ((((((a.setCell (aD (w+1+1) 0) (.s g i h)).setCell (aD (w+1+1) 1) (.i j)).setCell (aD (w+1+1) 2) (.s b d c)).setCell (aD (w+1+1) 3) (.i f)).setCell (aD (w+1+1) 4) .n).setCell (aD (w+1+1) 5) (.i 0)):=((((((AE (Bl.one (w+1+1)) a).s (w+1+1) 0).s (w+1+1) 1).s (w+1+1) 2).s (w+1+1) 3).s (w+1+1) 4).s (w+1+1) 5;go_enter func53,ntmps53;go_wp2;refine BH (v:=.agg #[.s g i h,.i j,.s b d c,.i f,.n,.i 0]) ?_ rfl ⟨rfl,m.t (n.below m.size (λG o=>by cases o;omega))⟩;exact ER (p:=4) rfl _ _ (w+1+1) _ _ _ _ rfl (by simpa using s) underlying35 rfl κ
theorem wI(D)(g:Nat)(first o)(r:∀args w,(callFunc g args).run prog w=.ok (.enter g args) w)(w)(h:aO w 0 D)(Z)(R:Int->World->Prop)(u:∀k,Z k->¬fpD D k/\k<w)(B:∀a,aO a 1 D->Fr (Bl.one D.d) w a->w.1.size<a->cL g (first++o) a λe w'=>∃z,e=.r (.i z)/\Fr Z a w'/\R z w')(t:∀z W k v,R z W->k=w.1.size\/k=D.d->R z (W.setCell (aD k 0) v)):
    cL 32 #[.p D.d 0,.func (.func g) first o] w λe w'=>∃z,e=.r (.i z)/\aO w' 0 D/\Fr (Bl.or (Bl.one D.d) Z) w w'/\R z w':=by
  have⟨c,j⟩:=nM (w.setCell (aD D.d 0) (.int .i32 1));have s:=j▸h.lock;have F:=j▸(AE (Bl.one D.d) w).s D.d 0;have E:c.1.size=w:=by rw[<-j];simp
  obtain⟨a,n,q,-⟩:=al1 c (.cells #[.i 0] 48);have x:cW a w #[.i 0] 48:=by rw[<-n,<-E];exact aB c _
  have l:=s.bl q;have p:=F.t (AB q);have y:¬fpD D w:=λb=>by have:=h.lies _ b;omega
  have A:¬Z w:=λb=>ζ
  refine(zZ D.d g first o r w (λz W=>aO W 1 D/\Fr Z a W/\R z W) _ h.box rfl ?_).m ?_
  . rw[j,n]
    apply(B a l p ((gL x))).m;rintro e w' ⟨z,rfl,d,m⟩;have f:=l.on (d.on (λk b=>⟨l.lies k b,λC=>(u k C).1 b⟩));exact⟨z,rfl,d.heap x A,⟨_,f.box,rfl⟩,f,d,m⟩
  . rintro e w' ⟨z,W,rfl,⟨f,d,m⟩,rfl⟩
    exact⟨z,rfl,(f.beside (i:=0) y (.i z)).lock (st':=0),(((p.m (λk b=>.inl (.inl b))).t (d.m (λk b=>.inl (.inr b)))).s w 0 (.inr (jU _))).s D.d 0 (.inl (.inl rfl)),t _ _ _ _ (t _ _ _ _ m (.inl rfl)) (.inr rfl)⟩
def qSh(o:Option (Nat×T))(cs:List Ch)(key:ByteArray)(q:Nat)(z:Int)(W:World):Prop :=
  ∃v,W.1[q]?=some (.cells #[.string v] 9)/\((tI o cs key=none/\z=5/\v=⟨#[]⟩)\/∃l,tI o cs key=some l/\z=0/\v=⟨l.toArray⟩)
theorem qLg(D x i t o key b0 b1 b2 b3 w)(h:aO w 1 D)(hal:fnd t.cs key=false->o≠none->(D.fs.life==0)=false)(hro:bO D.fs t.root o)(hfl:qG o)(hn:D.ts.length≤1000)(hi:i<D.ts.length)(ht:D.ts[i]=t)(hx:gO D.ts x=i)(hr:cJ t.cs)(hgd:∀ c∈t.cs,c.good)(hcs:t.cs.length≤1000000)(hk1:1≤key.size)(hk2:key.size≤24)(x0:cW w b0 #[.p D.d 0] 29)(x1:cW w b1 #[.i x] 3)(x2:cW w b2 #[.t key] 9)(x3:cW w b3 #[.e] 9):
    cL 45 #[.p b0 0,.p b1 0,.p b2 0,.p b3 0] w λe w'=>∃ z,e=.r (.i z)∧Fr (Bl.one b3) w w'∧qSh o t.cs key b3 z w':=by
  have hWr:=gR D 1 x i t w h ω hi ht hx;have hm:=ht▸AA hi;have HK:Hid (∀ X,bW w X→aO X 1 D∧X.c b0 0=some (.p D.d 0)∧X.c b1 0=some (.i x)∧cW X b2 #[.t key] 9∧X.c t.b 2=some (.p D.β 0)∧X.c t.b 3=some (.i t.root)∧X.c t.b 4=some (.s t.ca t.cs t.cc)∧cW X b3 #[.e] 9):=by
    intro X hX;have hD:=h.bl hX;obtain⟨q0,q1,q2,q3,q4,q5⟩:=qQ (hD.each t hm).box;exact⟨hD,bM (hX.kp x0),bM (hX.kp x1),hX.kp x2,q2,q3,q4,hX.kp x3⟩
  obtain⟨_,c0,c1,y2,q2,q3,q4,y3⟩:=HK.o w (AC _ _);have c2:=bM y2;have hKy:=λX=>by
    have:=iL key X;rw [CR (JN hk1 hk2)] at this;exact this
  obtain⟨fb,hfb⟩:=nM (lT o t.cs key);have HFi:Hid (∀ X,aO X 1 D→cL 47 #[.agg #[.p D.β 0,.i t.root,.s t.ca t.cs t.cc],.t key] X λe w'=>∃ E:Ent,e=.r (.tuple #[.agg #[.t E.key,.t E.val,.i E.size,.i E.over],.bool fb])∧bW X w'∧Hid ((fb=false∧tI o t.cs key=none)∨∃ V:En,V.good D.fs∧E=V.e∧fb=true∧tI o t.cs key=some V.value∧(V.e.over≠0→(D.fs.life==0)=false))):=λX hX=>by
    obtain⟨a0,cc0,he,hcc,hrow⟩:=cA (hX.each t hm).row;simp only [Tx.cv,AR,CV] at he;obtain⟨e1,e2⟩:=he;subst e1 e2;refine(Um D.β D.sv D.lv D.fs t.root t.ca t.cc t.cs key o hal hro (λk=>t.cv.ownBlock=some k) X hX.file hrow (λk hk=>aL (hX.each t hm).row hk) hr hcs hcc ω).m ?_;rintro e w' ⟨E,rfl,hE1,hE2,hb⟩;refine⟨E,by rw [hfb],hb,?_⟩;have:=Mu hro hfl hr hgd hE1 hE2;rw [hfb] at this;refine this.imp id λ⟨V,p1,p2,p3,p4⟩=>⟨V,p1,p2,p3,p4,λhv=>?_⟩;cases hq:fnd t.cs key
    .exact hal hq λho=>by subst ho p3;simp[lT,hq,dB]at hfb
    .have⟨i,_⟩:=uV hq hr
     rw[<-p2,hE1 hq _ (jQ i)]at hv;exact absurd rfl hv
  have HVa:Hid (∀ X (V:En),aO X 1 D→V.good D.fs→(V.e.over≠0→(D.fs.life==0)=false)→cL 48 #[.agg #[.p D.β 0,.i t.root,.s t.ca t.cs t.cc],.agg #[.t V.e.key,.t V.e.val,.i V.e.size,.i V.e.over]] X λe w'=>e=.r (.t ⟨V.value.toArray⟩)∧bW X w'):=λX V hX hV ho=>Fo D.β D.sv D.lv D.fs t.root t.ca t.cs t.cc V ho X hX.file (Eu hV).1 (Eu hV).2;have l3:=(gL x3);go_enter func45,ntmps45;go_wp2_with (first
    | (apply Calls.m hWr;rintro e X1 ⟨rfl,hX1⟩;obtain⟨hD1,c0,c1,y2,q2,q3,q4,y3⟩:=HK.o X1 hX1;have c2:=bM y2;have hKy1:=hKy X1)
    | (apply Calls.m hKy1;rintro e X1' ⟨rfl,hX1'⟩;subst X1'))
  have HS:Hid (∀ X,bW w X→X.c b2 0=some (.t key)∧X.c t.b 2=some (.p D.β 0)∧X.c t.b 3=some (.i t.root)∧X.c t.b 4=some (.s t.ca t.cs t.cc)):=λX hX=>by
    obtain⟨_,_,_,y2,q2,q3,q4,_⟩:=HK.o X hX;exact⟨bM y2,q2,q3,q4⟩
  have zX1:=hX1.size;go_region_held3 (λX=>X.c b2 0=some (.t key)∧X.c t.b 2=some (.p D.β 0)∧X.c t.b 3=some (.i t.root)∧X.c t.b 4=some (.s t.ca t.cs t.cc))
    ((refine HS.o _ ?_;(repeat (first|exact hX1|exact B2|(refine KE ?_)|(refine LV ?_ (by first|omega|(simp;omega)) _)|(refine KI ?_ (by first|omega|(simp;omega)|(show w.1.size≤X2.1.size;omega)|(show w.1.size≤X1.1.size;omega)) _)))))
    (first
      | ((with_reducible refine Calls.m (HFi.o _ (HK.o _ ?_).1) ?_);(first|exact hX1.drew|exact hX1|exact(hX1.alloc zX1 _).drew|exact hX1.drew.alloc zX1 _);rintro e X2 ⟨E,rfl,hX2,HE⟩;have B2:=(by first|exact hX1.drew.t (hX2.m zX1)|exact(hX1.alloc zX1 _).drew.t (hX2.m χ));have zX2:=B2.size;have xE:=aB X2 sY;obtain⟨g0,g1,g2,g3⟩:=Dz xE;have gfr:=aF xE;try (have xF:X2.1[X1.1.size]?=some sY:=(hX2.block _ σ).t (by first|exact aB X1 sY|exact aB X1.drew sY);obtain⟨g0,g1,g2,g3⟩:=Dz xF;have gfr:=aF xF)))
  all_goals
    first
      | (obtain⟨X3,hX3,-,xe,-⟩:=al1 X2 (.cells #[.t E.key,.t E.val,.i E.size,.i E.over] 69)
         rw [hX3];have B3:=hX3▸B2.alloc zX2 _;clear hX3)
      | (obtain⟨X3,hX3⟩:=nM ((((X2.setCell (aD X1 0) (.t E.key)).setCell (aD X1 1) (.t E.val)).setCell (aD X1 2) (.i E.size)).setCell (aD X1 3) (.i E.over))
         rw [hX3];have B3:=hX3▸((((B2.setCell (p:=(aD X1 0)) zX1 _).setCell (p:=(aD X1 1)) zX1 _).setCell (p:=(aD X1 2)) zX1 _).setCell (p:=(aD X1 3)) zX1 _);have xe:=(by
           have e0:=aC (aC (aC (aC xF 0 (.t E.key)) 1 (.t E.val)) 2 (.i E.size)) 3 (.i E.over);rw [hX3] at e0;simpa [sY] using e0)
         clear hX3)
    clear g0 g1 g2 g3 gfr xE;obtain⟨hD3,c0,c1,y2,q2,q3,q4,y3⟩:=HK.o X3 B3;have c2:=bM y2;rcases HE.o with⟨rfl,hsee⟩|⟨V,hV,rfl,rfl,hsee,hov⟩
    . go_wp2
      go_ret;exact⟨5,rfl,AB B3,_,y3,.inl ⟨hsee,rfl,rfl⟩⟩
    . obtain⟨k0,k1,k2,k3⟩:=kI xe
      have HSE:Hid (tI o t.cs key=some V.value):=hsee;clear hsee;have hne:¬ Bl.one b3 t.b:=λe=>by
        simp only [Bl.one] at e;have h1:=(hD3.each t hm).box;rw [e,y3] at h1;simp [txO] at h1
      go_wp2;first
        | (have HS2:Hid (∀ X,Fr (Bl.one b3) X3 X→X.c t.b 2=some (.p D.β 0)∧X.c t.b 3=some (.i t.root)∧X.c t.b 4=some (.s t.ca t.cs t.cc)∧X.c X2.1.size 0=some (.t V.e.key)∧X.c X2.1.size 1=some (.t V.e.val)∧X.c X2.1.size 2=some (.i V.e.size)∧X.c X2.1.size 3=some (.i V.e.over)):=(λX hF=>by
             obtain⟨_,_,r2,r3,r4,_⟩:=qQ (hF.heap (hD3.each t hm).box hne);obtain⟨n0,n1,n2,n3⟩:=kI (hF.heap xe (oN (by omega)));exact⟨r2,r3,r4,n0,n1,n2,n3⟩)
           go_region_held3 (λX=>X.c t.b 2=some (.p D.β 0)∧X.c t.b 3=some (.i t.root)∧X.c t.b 4=some (.s t.ca t.cs t.cc)∧X.c X2 0=some (.t V.e.key)∧X.c X2 1=some (.t V.e.val)∧X.c X2 2=some (.i V.e.size)∧X.c X2 3=some (.i V.e.over))
            ((refine HS2.o _ ?_;(first|exact(AE _ _).drew|exact AE _ _|exact F4|exact F4')))
            (first
              | ((with_reducible refine Calls.m (HVa.o _ V (HK.o _ ?_).1 hV hov) ?_);(first|exact B3.drew|exact B3);rintro e X4 ⟨rfl,hX4⟩;have B4:=B3.drew.t (hX4.m B3.size);have F4:Fr (Bl.one b3) X3 X4:=(AE _ X3).drew.t (AB hX4);have F4':Fr (Bl.one b3) X3 (X4.setCell (aD b3 0) (.t ⟨V.value.toArray⟩)):=F4.s b3 0;obtain⟨_,_,_,_,_,_,_,y4⟩:=HK.o X4 B4;have c4:=bM y4;have g4:=aF y4)))
        | (have HS2:Hid (∀ X,Fr (Bl.one b3) X3 X→X.c t.b 2=some (.p D.β 0)∧X.c t.b 3=some (.i t.root)∧X.c t.b 4=some (.s t.ca t.cs t.cc)∧X.c X1.1.size 0=some (.t V.e.key)∧X.c X1.1.size 1=some (.t V.e.val)∧X.c X1.1.size 2=some (.i V.e.size)∧X.c X1.1.size 3=some (.i V.e.over)):=(λX hF=>by
             obtain⟨_,_,r2,r3,r4,_⟩:=qQ (hF.heap (hD3.each t hm).box hne);obtain⟨n0,n1,n2,n3⟩:=kI (hF.heap xe (oN (by omega)));exact⟨r2,r3,r4,n0,n1,n2,n3⟩)
           go_region_held3 (λX=>X.c t.b 2=some (.p D.β 0)∧X.c t.b 3=some (.i t.root)∧X.c t.b 4=some (.s t.ca t.cs t.cc)∧X.c X1 0=some (.t V.e.key)∧X.c X1 1=some (.t V.e.val)∧X.c X1 2=some (.i V.e.size)∧X.c X1 3=some (.i V.e.over))
            ((refine HS2.o _ ?_;(first|exact(AE _ _).drew|exact AE _ _|exact F4|exact F4')))
            (first
              | ((with_reducible refine Calls.m (HVa.o _ V (HK.o _ ?_).1 hV hov) ?_);(first|exact B3.drew|exact B3);rintro e X4 ⟨rfl,hX4⟩;have B4:=B3.drew.t (hX4.m B3.size);have F4:Fr (Bl.one b3) X3 X4:=(AE _ X3).drew.t (AB hX4);have F4':Fr (Bl.one b3) X3 (X4.setCell (aD b3 0) (.t ⟨V.value.toArray⟩)):=F4.s b3 0;obtain⟨_,_,_,_,_,_,_,y4⟩:=HK.o X4 B4;have c4:=bM y4;have g4:=aF y4)))
      all_goals go_wp2
      all_goals go_ret
      all_goals exact⟨0,rfl,(AB B4:Fr (Bl.one b3) w X4).s b3 0,_,(by simpa using aC y4 0 (.t ⟨V.value.toArray⟩)),.inr ⟨_,HSE.o,rfl,rfl⟩⟩
theorem qOo(D x i t o key w)(h:aO w 0 D)(F:fnd t.cs key=false->o≠none->(D.fs.life==0)=false)(G:bO D.fs t.root o)(A:qG o)(M:D.ts.length<=1000)(hi:i<D.ts.length)(P:D.ts[i]=t)(R:gO D.ts x=i)(E:cJ t.cs)(J:∀c∈t.cs,c.good)(y:t.cs.length<=1000000)(K:1<=key.size)(L:key.size<=24):
    cL 17 #[.p D.d 0,.i x,.t key] w λe w'=>∃(v:ByteArray) (z:Int),e=.r (.tuple #[.t v,.i z])/\aO w' 0 D/\Fr (Bl.one D.d) w w'/\((tI o t.cs key=none/\z=5/\v=⟨#[]⟩)\/∃l,tI o t.cs key=some l/\z=0/\v=⟨l.toArray⟩):=by
  obtain⟨a,f,m,n,I,N,g,-⟩:=al4 w (.cells #[.p D.d 0] 29) (.cells #[.i x] 3) (.cells #[.t key] 9) (.cells #[.e] 9);  have T:=h.bl m;have a0:=(gL h.box);have S:=(gL g);have V:=bM n;have C:=wI D 45 #[] #[.p w 0,.p (w+1) 0,.p (w+1+1) 0,.p (w+1+1+1) 0] (enters_of func45 κ rfl) a T (Bl.one (w+1+1+1)) (qSh o t.cs key (w+1+1+1)) (λd b=>by
    cases b;exact⟨λH=>by have:=h.lies _ H;omega,S⟩) (by
    intro q r j a2;have k:∀d,w.1.size<=d->¬Bl.one D.d d:=λd b e=>by simp only[Bl.one]at e;omega
    exact qLg D x i t o key _ _ _ _ q r F G A M hi P R E J y K L (j.heap n (k _ ω)) (j.heap I (k _ ω)) (j.heap N (k _ ω)) (j.heap g (k _ ω))) (by
    rintro z W d v ⟨v',O,s⟩ b;refine⟨v',?_,s⟩;exact(Fr.setCell (AE (Bl.one d) W) (p:=(aD d 0)) (.inl rfl) v).heap O φ)
  have a3:a.setCell (aD (w+1+1+1) 0) .e=a:=cH g rfl;have Y:=bM g;have a1:=aF g 0;go_enter func17,ntmps17;go_wp2_with (apply Calls.m C;rintro e X ⟨z,rfl,U,B,v,Q,u⟩;have Z:=bM Q);go_ret2;refine⟨v,z,rfl,U,(AB m:Fr (Bl.one D.d) w a).grow B (λd b=>?_),u⟩;rcases b with b|b
  . exact .inl b
  . simp only[Bl.one]at b;exact .inr ω
def qPu(xs:List En)(p B:Nat)(z:Int)(W:World):Prop :=
 z=0/\∃v,W.1[p]?=some (.cells #[v] 30)/\W.ownsRow 0 71 2 v xs.length (gG xs)/\∀k,v.ownBlock=some k->B<k
theorem qEb(D x i t o q most C E n r s a B w)(h:aO w 1 D)(R:most≠0->o≠none->(D.fs.life==0)=false)(a0:bO D.fs t.root o)(P:qG o)(ao:D.ts.length<=1000)(hi:i<D.ts.length)(F:D.ts[i]=t)(a2:gO D.ts x=i)(Z:cJ t.cs)(T:∀c∈t.cs,c.good)(S:t.cs.length<=1000000)(aj:q.lo.size<=24)(ah:q.hi.size<=24)(a1:(mB o t.cs q).length<=1000000)(Y:most<=9223372036854775807)(ag:B<w.1.size)(a5:cW w C #[.p D.d 0] 29)(a6:cW w E #[.i x] 3)(H:cW w n #[.t q.lo] 9)(y:cW w r #[.t q.hi] 9)(J:cW w s #[.i (most:Nat)] 3)(K:cW w a #[.n] 30):
  cL 104 #[.p C 0,.p E 0,.p n 0,.p r 0,.p s 0,.p a 0] w λe w'=>∃z,e=.r (.i z)/\Fr (Bl.one a) w w'/\qPu ((mB o t.cs q).take most) a B z w':=by
 have⟨f,G⟩:=nM ((mB o t.cs q).take most);rw[G];have U:=F▸AA hi;have I:Hid (∀X,bW w X->aO X 1 D/\X.c n 0=some (.t q.lo)/\X.c r 0=some (.t q.hi)/\X.c s 0=some (.i (most:Nat))/\cW X a #[.n] 30):=by
  intro X b;exact⟨h.bl b,bM (b.kp H),bM (b.kp y),bM (b.kp J),b.kp K⟩
 have L:Hid (∀X,aO X 1 D->cL 105 #[.p t.b 0,.t q.lo,.t q.hi,.i (most:Nat)] X λe w'=>∃v,e=.r v/\w'.ownsRow 0 71 2 v f (gG f)/\bW X w'/\nW v X):=λX b=>G▸qGs D.β D.sv D.lv D.fs t o a0 P q most X R b.file (b.each t U) Z T S a1 Y;have a7:=bM a5;have a8:=bM a6;have ak:(q.lo.size:Int)<=24:=ω;have ai:(q.hi.size:Int)<=24:=ω;go_enter func104,ntmps104;go_wp2_with (first
  |(apply Calls.m (gR D 1 x i t w h ω hi F a2);rintro e u ⟨rfl,k⟩;have⟨N,ab,ac,ad,ap⟩:=I u k;have O:=L u N)
  |(apply Calls.m O;rintro e g ⟨v,rfl,l,Q,W⟩;have A:=k.tm Q;have⟨_,_,_,_,m⟩:=I g A;have a9:=bM m;have aa:=aF m;have V:=aQ l m δ;have M:Hid _:=l;obtain⟨a3,a4,rfl⟩:=aG l;clear l))
 go_ret;refine⟨0,rfl,(AB A:Fr (Bl.one a) w g).s a 0,rfl,_,(by simpa using aC m 0 (.s a3 f a4)),aS M ((CM (λd=>Value.ownBlock _=some d) g).setCell (p:=(aD a 0)) (λj=>V j) _) (λd j=>j),λd j=>?_⟩
 .have ae:=W d j;have af:=k.size;omega
theorem qIr(D x i t o q most w)(h:aO w 0 D)(K:most≠0->o≠none->(D.fs.life==0)=false)(Z:bO D.fs t.root o)(N:qG o)(U:D.ts.length<=1000)(hi:i<D.ts.length)(a1:D.ts[i]=t)(a3:gO D.ts x=i)(Y:cJ t.cs)(O:∀c∈t.cs,c.good)(L:t.cs.length<=1000000)(S:q.lo.size<=24)(P:q.hi.size<=24)(a0:(mB o t.cs q).length<=1000000)(T:most<=9223372036854775807):
  cL 61 #[.p D.d 0,.i x,.t q.lo,.t q.hi,.i (most:Nat)] w λe w'=>∃v,e=.r (.tuple #[v,.i 0])/\aO w' 0 D/\Fr (Bl.one D.d) w w'/\w'.ownsRow 0 71 2 v ((mB o t.cs q).take most) (gG ((mB o t.cs q).take most))/\nW v w:=by
 have⟨k,r⟩:=nM ((mB o t.cs q).take most);rw[r];obtain⟨b,d,l,u,a5,a6,a7,a8,y⟩:=al6 w (.cells #[.p D.d 0] 29) (.cells #[.i x] 3) (.cells #[.t q.lo] 9) (.cells #[.t q.hi] 9) (.cells #[.i (most:Nat)] 3) (.cells #[.n] 30)
 have F:=h.bl l;have ab:=(gL h.box);have a4:=(gL y);have a9:=bM u;have J:=wI D 104 #[] #[.p w 0,.p (w+1) 0,.p (w+1+1) 0,.p (w+1+1+1) 0,.p (w+1+1+1+1) 0,.p (w+1+1+1+1+1) 0] (enters_of func104 κ rfl) b F (Bl.one (w+1+1+1+1+1)) (qPu k (w+1+1+1+1+1) b) (λf a=>by
  cases a;exact⟨λM=>by have:=h.lies _ M;omega,a4⟩) (by
  intro B H j V;have g:∀f,w.1.size<=f->¬Bl.one D.d f:=λf a e=>by simp only[Bl.one]at e;omega
  rw[<-r];exact qEb D x i t o q most _ _ _ _ _ _ b B H K Z N U hi a1 a3 Y O L S P a0 T V (j.heap u (g _ ω)) (j.heap a5 (g _ ω)) (j.heap a6 (g _ ω)) (j.heap a7 (g _ ω)) (j.heap a8 (g _ ω)) (j.heap y (g _ ω))) (by
  rintro z W f s ⟨rfl,v,C,E,n⟩ a;exact⟨rfl,v,(Fr.setCell (AE (Bl.one f) W) (p:=(aD f 0)) (.inl rfl) s).heap C φ,aS E ((CM (λf=>v.ownBlock=some f) W).setCell (p:=(aD f 0)) (λQ=>by have:=n f Q;omega) s) (λf a=>a),n⟩)
 go_enter func61,ntmps61;go_wp2_with (apply Calls.m J;rintro e X ⟨z,rfl,G,I,rfl,v,a2,m,R⟩;have aa:=bM a2;have A:=m;obtain⟨ac,ad,rfl⟩:=aG m;clear m);go_ret2;refine⟨_,rfl,G,(AB l:Fr (Bl.one D.d) w b).grow I (λf a=>?_),A,λf a=>by have:=R f a;have:=l.size;omega⟩;rcases a with a|a
 .exact .inl a
 .simp only[Bl.one]at a;exact .inr ω
open Go.MuLone
theorem Ci(D c x i t w)(h:aO w c D)(l:D.ts.length<=1000000)(hi:i<D.ts.length)(b:D.ts[i]=t)(n:gO D.ts x=i)(m:t.wr=false):
  cL 38 #[.p D.d 0,.i x] w λe w'=>e=.r (.tuple #[.pointer none,.i 4])/\bW w w':=by
 have k:=b▸AA hi;have d:Hid (∀X,bW w X->X.c t.b 1=some (.bool false)):=λX j=>by
  have:=(qQ ((h.bl j).each t k).box).2.1;rw[m]at this;exact this
 go_enter func38,ntmps38;go_wp2_with (apply Calls.m (gR D c x i t w h l hi b n);rintro e f ⟨rfl,a⟩;have o:=d f a);go_ret2;exact⟨rfl,a⟩
theorem qAw(D t w)(h:aO w 0 D)(r:D.ts.length=8):
  cL 12 #[.p D.d 0,.bool t] w λe w'=>e=.r (.tuple #[.i 0,.i 6])/\aO w' 0 D/\Fr Bl.none w w':=by
 have c:=h.lock (st':=1);have⟨k,u,A,B,C,E,G,H,c8,c9,Z,v,x,y,z⟩:=eJ h.box;have⟨b,d⟩:=nM (w.setCell (aD D.d 0) (.int .i32 1));rw[d]at c;have⟨l,I,N,O,P,Q,R,S,T,U,J,K,L,M,m⟩:=eJ c.box;have g:=c.lock (st':=0);have F:Fr Bl.none w (b.setCell (aD D.d 0) (.int .i32 0)):=by
  have a:Fr (Bl.one D.d) w (b.setCell (aD D.d 0) (.int .i32 0)):=(d▸(AE (Bl.one D.d) w).s D.d 0:Fr (Bl.one D.d) w b).s D.d 0;refine⟨a.os,a.tape,a.output,a.size,λj q _=>?_⟩;by_cases e:j=D.d
  .subst e;rw[g.box,h.box]
  .exact a.block j q e
 have⟨V,W,i⟩:=aG h.row;rw[r]at i;rw[i]at m;go_enter_defers func12,ntmps12;go_wp2_with (go_at_call 34;apply(lock_free wO (aD D.d 0) _ k (aF h.box 0)).m;rintro e w' ⟨rfl,s⟩;rw[d]at s;subst w');apply JV (f:=35) (args:=#[.p D.d 0]) σ (by simp[go_sem]);apply(unlock_deferred wO (aD D.d 0) .returning _ l (aF c.box 0)).m;rintro e X Y ⟨rfl,rfl,rfl⟩;exact⟨_,results_tmp2 rfl _ _ _,rfl,g,F⟩
theorem qLf(D x key f g i j p c z w)(h:aO w 1 D)(l:cL 46 #[.p D.d 0,.i x] w λe w'=>e=.r (.tuple #[p,.i c])/\bW w w')(E:(c≠0/\z=c)\/(c=0/\z=1/\¬(1<=key.size/\key.size<=24)))(m:cW w f #[.p D.d 0] 29)(n:cW w g #[.i x] 3)(o:cW w i #[.t key] 9)(q:cW w j #[.e] 9):
  cL 45 #[.p f 0,.p g 0,.p i 0,.p j 0] w λe w'=>e=.r (.i z)/\bW w w':=by
 have k:Hid (∀X,bW w X->X.c f 0=some (.p D.d 0)/\X.c g 0=some (.i x)/\X.c i 0=some (.t key)/\X.c j 0=some .e):=λX a=>⟨bM (a.kp m),bM (a.kp n),bM (a.kp o),bM (a.kp q)⟩;have⟨s,t,u,v⟩:=k w (AC _ _);rcases E with⟨C,rfl⟩|⟨rfl,rfl,B⟩
 .have G:(z != 0)=true:=by simpa using C
  go_enter func45,ntmps45;go_wp2_with (apply Calls.m l;rintro e d ⟨rfl,b⟩);go_ret;exact⟨rfl,b⟩
 .have y:=λX=>by have:=iL key X;rw[EM B]at this;exact this
  go_enter func45,ntmps45;go_wp2_with (first
   |(apply Calls.m l;rintro e d ⟨rfl,b⟩;have⟨s,t,u,v⟩:=k d b;have A:=y d)
   |(apply Calls.m A;rintro e r ⟨rfl,F⟩;subst r))
  go_ret;exact⟨rfl,b⟩
theorem Ve(D x key d f g p b z w)(h:aO w 1 D)(k:cL 38 #[.p D.d 0,.i x] w λe w'=>e=.r (.tuple #[p,.i b])/\bW w w')(A:(b≠0/\z=b)\/(b=0/\z=1/\¬(1<=key.size/\key.size<=24)))(l:cW w d #[.p D.d 0] 29)(m:cW w f #[.i x] 3)(n:cW w g #[.t key] 9):
  cL 107 #[.p d 0,.p f 0,.p g 0] w λe w'=>e=.r (.i z)/\bW w w':=by
 have j:Hid (∀X,bW w X->X.c d 0=some (.p D.d 0)/\X.c f 0=some (.i x)/\X.c g 0=some (.t key)):=λX i=>⟨bM (i.kp l),bM (i.kp m),bM (i.kp n)⟩;have⟨q,r,s⟩:=j w (AC _ _);rcases A with⟨y,rfl⟩|⟨rfl,rfl,v⟩
 .have C:(z != 0)=true:=by simpa using y
  go_enter func107,ntmps107;go_wp2_with (apply Calls.m k;rintro e c ⟨rfl,a⟩);go_ret;exact⟨rfl,a⟩
 .have t:=λX=>by have:=iL key X;rw[EM v]at this;exact this
  go_enter func107,ntmps107;go_wp2_with (first
   |(apply Calls.m k;rintro e c ⟨rfl,a⟩;have⟨q,r,s⟩:=j c a;have u:=t c)
   |(apply Calls.m u;rintro e o ⟨rfl,B⟩;subst o))
  go_ret;exact⟨rfl,a⟩
theorem qJi(D x key c j k l m p f z w)(h:aO w 1 D)(q:cL 38 #[.p D.d 0,.i x] w λe w'=>e=.r (.tuple #[p,.i f])/\bW w w')(G:(f≠0/\z=f)\/(f=0/\z=1/\¬((1<=key.size/\key.size<=24)/\c.size<=400)))(v:cW w j #[.p D.d 0] 29)(y:cW w k #[.i x] 3)(A:cW w l #[.t key] 9)(B:cW w m #[.t c] 9):
  cL 37 #[.p j 0,.p k 0,.p l 0,.p m 0] w λe w'=>e=.r (.i z)/\bW w w':=by
 have g:Hid (∀X,bW w X->X.c j 0=some (.p D.d 0)/\X.c k 0=some (.i x)/\X.c l 0=some (.t key)/\X.c m 0=some (.t c)):=λX d=>⟨bM (d.kp v),bM (d.kp y),bM (d.kp A),bM (d.kp B)⟩;have⟨r,s,t,u⟩:=g w (AC _ _);rcases G with⟨F,rfl⟩|⟨rfl,rfl,E⟩
 .have I:(z != 0)=true:=by simpa using F
  go_enter func37,ntmps37;go_wp2_with (apply Calls.m q;rintro e b ⟨rfl,a⟩);go_ret;exact⟨rfl,a⟩
 .by_cases hk1:1<=key.size/\key.size<=24
  .have n:=λX=>by have:=iL key X;rw[CR hk1]at this;exact this
   have H:(400:Int)<(c.size:Int):=by have:=λh=>E ⟨hk1,h⟩;omega
   go_enter func37,ntmps37;go_wp2_with (first
   |(apply Calls.m q;rintro e b ⟨rfl,a⟩;have⟨r,s,t,u⟩:=g b a;have o:=n b)
   |(apply Calls.m o;rintro e i ⟨rfl,C⟩;subst i))
   go_ret;exact⟨rfl,a⟩
  .have n:=λX=>by have:=iL key X;rw[EM hk1]at this;exact this
   go_enter func37,ntmps37;go_wp2_with (first
   |(apply Calls.m q;rintro e b ⟨rfl,a⟩;have⟨r,s,t,u⟩:=g b a;have o:=n b)
   |(apply Calls.m o;rintro e i ⟨rfl,C⟩;subst i))
   go_ret;exact⟨rfl,a⟩
theorem qEc(D x lo hi most i j k l m n p g z w)(h:aO w 1 D)(f:cL 46 #[.p D.d 0,.i x] w λe w'=>e=.r (.tuple #[p,.i g])/\bW w w')(I:(g≠0/\z=g)\/(g=0/\z=1/\¬(lo.size<=24/\hi.size<=24/\0<=most)))(y:cW w i #[.p D.d 0] 29)(A:cW w j #[.i x] 3)(B:cW w k #[.t lo] 9)(C:cW w l #[.t hi] 9)(E:cW w m #[.i most] 3)(F:cW w n #[.n] 30):
  cL 104 #[.p i 0,.p j 0,.p k 0,.p l 0,.p m 0,.p n 0] w λe w'=>e=.r (.i z)/\bW w w':=by
 have d:Hid (∀X,bW w X->X.c i 0=some (.p D.d 0)/\X.c j 0=some (.i x)/\X.c k 0=some (.t lo)/\X.c l 0=some (.t hi)/\X.c m 0=some (.i most)/\X.c n 0=some .n):=λX c=>⟨bM (c.kp y),bM (c.kp A),bM (c.kp B),bM (c.kp C),bM (c.kp E),bM (c.kp F)⟩;have⟨o,q,r,s,t,u⟩:=d w (AC _ _);rcases I with⟨H,rfl⟩|⟨rfl,rfl,K⟩
 .have L:(z != 0)=true:=by simpa using H
  go_enter func104,ntmps104;go_wp2_with (apply Calls.m f;rintro e b ⟨rfl,a⟩);go_ret;exact⟨rfl,a⟩
 .have G:(24:Int)<(lo.size:Int)\/(¬(24:Int)<(lo.size:Int)/\(24:Int)<(hi.size:Int))\/(¬(24:Int)<(lo.size:Int)/\¬(24:Int)<(hi.size:Int)/\most<0):=ω;rcases G with v|⟨v,J⟩|⟨v,J,M⟩
  .skip;go_enter func104,ntmps104;go_wp2_with (apply Calls.m f;rintro e b ⟨rfl,a⟩;have⟨o,q,r,s,t,u⟩:=d b a);go_ret;exact⟨rfl,a⟩
  .skip;go_enter func104,ntmps104;go_wp2_with (apply Calls.m f;rintro e b ⟨rfl,a⟩;have⟨o,q,r,s,t,u⟩:=d b a);go_ret;exact⟨rfl,a⟩
  .skip;go_enter func104,ntmps104;go_wp2_with (apply Calls.m f;rintro e b ⟨rfl,a⟩;have⟨o,q,r,s,t,u⟩:=d b a);go_ret;exact⟨rfl,a⟩
def EnZ(b:Bool)(z:Int):Ending:=bif b then .panicked (eS z) else .r (.i z)
theorem wJ(D b z)(g:Nat)(k)(t:∀args w,(callFunc g args).run prog w=.ok (.enter g args) w)(w)(h:aO w 0 D)(u:∀a,aO a 1 D->Fr (Bl.one D.d) w a->cL g (#[]++k) a λe w'=>e=EnZ b z/\bW a w'):
  cL 32 #[.p D.d 0,.func (.func g) #[] k] w λe w'=>e=.r (.i z)/\aO w' 0 D/\Fr (Bl.one D.d) w w':=by
 cases b with
 |false =>
  apply(wI D g #[] k t w h Bl.none (λk _=>k=z) (λb i=>i.elim) (λa m n _=>(u a m n).m (λe w' y=>⟨z,y.1,AB y.2,rfl⟩)) (λk W b v e _=>e)).m;rintro e w' ⟨_,rfl,r,s,rfl⟩;exact⟨rfl,r,s.m (λb i=>.inl (i.elim id (λh=>h.elim)))⟩
 |true =>
  have⟨b,f⟩:=nM (w.setCell (aD D.d 0) (.int .i32 1));have o:=f▸h.lock;have s:=f▸(AE (Bl.one D.d) w).s D.d 0;have y:b.1.size=w:=by rw[<-f];simp
  obtain⟨a,j,l,q,-⟩:=al1 b (.cells #[.i 0] 48);rw[y]at q;have d:=o.bl l;have n:=s.t (AB l);have x:¬fpD D w:=λv=>by have:=h.lies _ v;omega
  refine(Bt D.d g #[] k t z w (λW=>bW a W) _ h.box rfl ?_).m ?_
  .rw[f,j]
   apply(u a d n).m;rintro e w' ⟨rfl,c⟩;exact⟨rfl,(c.block _ ((gL q))).t q,⟨_,(d.bl c).box,rfl⟩,c⟩
  .rintro e w' ⟨rfl,W,c,rfl⟩;have m:bW a (W.alloc (.cells #[.i z] 172)):=c.alloc c.size _;exact⟨rfl,((d.bl m).beside (i:=0) x (.i z)).lock (st':=0),((n.t (AB m)).s w 0 (.inr (jU _))).s D.d 0 (.inl rfl)⟩
theorem Oh(D x key c p f' z w)(h:aO w 0 D)(u:∀X,aO X 1 D->cL 38 #[.p D.d 0,.i x] X λe w'=>e=.r (.tuple #[p,.i f'])/\bW X w')(A:(f'≠0/\z=f')\/(f'=0/\z=1/\¬((1<=key.size/\key.size<=24)/\c.size<=400))):
  cL 13 #[.p D.d 0,.i x,.t key,.t c] w λe w'=>e=.r (.i z)/\aO w' 0 D/\Fr (Bl.one D.d) w w':=by
 obtain⟨a,d,l,o,B,C,E,-⟩:=al4 w (.cells #[.p D.d 0] 29) (.cells #[.i x] 3) (.cells #[.t key] 9) (.cells #[.t c] 9); have G:=(gL h.box);have F:=bM o;have f:∀b,w.1.size<=b->¬Bl.one D.d b:=λb i e=>by cases e;omega
 have t:=wJ D false z 37 #[.p w 0,.p (w+1) 0,.p (w+1+1) 0,.p (w+1+1+1) 0] (enters_of func37 κ rfl) a (h.bl l) (λm n d=>qJi D x key c _ _ _ _ p f' z m n (u m n) A (d.heap o (f _ ω)) (d.heap B (f _ ω)) (d.heap C (f _ ω)) (d.heap E (f _ ω)));go_enter func13,ntmps13;go_wp2_with (apply Calls.m t;rintro e X ⟨rfl,r,s⟩);go_ret;exact⟨rfl,r,(AB l).t s⟩
theorem qPr(D b x key z w)(h:aO w 0 D)(C:∀a s,aO a 1 D->cW a s #[.p D.d 0] 29->cW a (s+1) #[.i x] 3->cW a (s+1+1) #[.t key] 9->cL 107 #[.p s 0,.p (s+1) 0,.p (s+1+1) 0] a λe w'=>e=EnZ b z/\bW a w'):
  cL 71 #[.p D.d 0,.i x,.t key] w λe w'=>e=.r (.i z)/\aO w' 0 D/\Fr (Bl.one D.d) w w':=by
 obtain⟨a,g,l,q,E,F,-⟩:=al3 w (.cells #[.p D.d 0] 29) (.cells #[.i x] 3) (.cells #[.t key] 9);have J:=(gL h.box);have G:=bM q;have f:∀b,w.1.size<=b->¬Bl.one D.d b:=λb i e=>by cases e;omega
 go_enter func71,ntmps71;go_wp2_with (apply Calls.m (wJ D b z 107 #[.p w 0,.p (w+1) 0,.p (w+1+1) 0] (enters_of func107 κ rfl) a (h.bl l) (λm n d=>C m _ n (d.heap q (f _ ω)) (d.heap E (f _ ω)) (d.heap F (f _ ω))));rintro e X ⟨rfl,t,u⟩);go_ret;exact⟨rfl,t,(AB l).t u⟩
theorem xZ(D x key p c z w)(h:aO w 0 D)(t:∀X,aO X 1 D->cL 38 #[.p D.d 0,.i x] X λe w'=>e=.r (.tuple #[p,.i c])/\bW X w')(y:(c≠0/\z=c)\/(c=0/\z=1/\¬(1<=key.size/\key.size<=24))):
  cL 71 #[.p D.d 0,.i x,.t key] w λe w'=>e=.r (.i z)/\aO w' 0 D/\Fr (Bl.one D.d) w w':=qPr D false x key z w h (λa s n=>Ve D x key _ _ _ p c z a n (t a n) y)
theorem qPo(D b x key z w)(h:aO w 0 D)(C:∀a s,aO a 1 D->cW a s #[.p D.d 0] 29->cW a (s+1) #[.i x] 3->cW a (s+1+1) #[.t key] 9->cW a (s+1+1+1) #[.e] 9->cL 45 #[.p s 0,.p (s+1) 0,.p (s+1+1) 0,.p (s+1+1+1) 0] a λe w'=>e=EnZ b z/\bW a w'):
  cL 17 #[.p D.d 0,.i x,.t key] w λe w'=>e=.r (.tuple #[.e,.i z])/\aO w' 0 D/\Fr (Bl.one D.d) w w':=by
 obtain⟨a,g,l,q,E,F,c,-⟩:=al4 w (.cells #[.p D.d 0] 29) (.cells #[.i x] 3) (.cells #[.t key] 9) (.cells #[.e] 9);have J:=(gL h.box);have G:=bM q;have f:∀b,w.1.size<=b->¬Bl.one D.d b:=λb i e=>by cases e;omega
 have y:=wJ D b z 45 #[.p w 0,.p (w+1) 0,.p (w+1+1) 0,.p (w+1+1+1) 0] (enters_of func45 κ rfl) a (h.bl l) (λm n d=>C m _ n (d.heap q (f _ ω)) (d.heap E (f _ ω)) (d.heap F (f _ ω)) (d.heap c (f _ ω)));have M:a.setCell (aD (w+1+1+1) 0) .e=a:=cH c rfl;have O:=bM c;have K:=aF c 0;have r:=c;go_enter func17,ntmps17;go_wp2_with (apply Calls.m y;rintro e X ⟨rfl,t,u⟩;have I:=bM (u.heap r (f _ ω)));go_ret2;exact⟨rfl,t,(AB l).t u⟩
theorem qCt(D x key p j z w)(h:aO w 0 D)(A:∀X,aO X 1 D->cL 46 #[.p D.d 0,.i x] X λe w'=>e=.r (.tuple #[p,.i j])/\bW X w')(C:(j≠0/\z=j)\/(j=0/\z=1/\¬(1<=key.size/\key.size<=24))):
  cL 17 #[.p D.d 0,.i x,.t key] w λe w'=>e=.r (.tuple #[.e,.i z])/\aO w' 0 D/\Fr (Bl.one D.d) w w':=qPo D false x key z w h (λa s n=>qLf D x key _ _ _ _ p j z a n (A a n) C)
theorem qIp(D b x lo hi most z w)(h:aO w 0 D)(C:∀a s,aO a 1 D->cW a s #[.p D.d 0] 29->cW a (s+1) #[.i x] 3->cW a (s+1+1) #[.t lo] 9->cW a (s+1+1+1) #[.t hi] 9->cW a (s+1+1+1+1) #[.i most] 3->cW a (s+1+1+1+1+1) #[.n] 30->cL 104 #[.p s 0,.p (s+1) 0,.p (s+1+1) 0,.p (s+1+1+1) 0,.p (s+1+1+1+1) 0,.p (s+1+1+1+1+1) 0] a λe w'=>e=EnZ b z/\bW a w'):
  cL 61 #[.p D.d 0,.i x,.t lo,.t hi,.i most] w λe w'=>e=.r (.tuple #[.n,.i z])/\aO w' 0 D/\Fr (Bl.one D.d) w w':=by
 have⟨a,g,l,q,E,F,B,A,c⟩:=al6 w (.cells #[.p D.d 0] 29) (.cells #[.i x] 3) (.cells #[.t lo] 9) (.cells #[.t hi] 9) (.cells #[.i most] 3) (.cells #[.n] 30);have J:=(gL h.box);have G:=bM q;have f:∀b,w.1.size<=b->¬Bl.one D.d b:=λb i e=>by cases e;omega
 have y:=wJ D b z 104 #[.p w 0,.p (w+1) 0,.p (w+1+1) 0,.p (w+1+1+1) 0,.p (w+1+1+1+1) 0,.p (w+1+1+1+1+1) 0] (enters_of func104 κ rfl) a (h.bl l) (λm n d=>C m _ n (d.heap q (f _ ω)) (d.heap E (f _ ω)) (d.heap F (f _ ω)) (d.heap B (f _ ω)) (d.heap A (f _ ω)) (d.heap c (f _ ω)));have r:=c;go_enter func61,ntmps61;go_wp2_with (apply Calls.m y;rintro e X ⟨rfl,t,u⟩;have I:=bM (u.heap r (f _ ω)));go_ret2;exact⟨rfl,t,(AB l).t u⟩
theorem Rh(D x lo hi most p j z w)(h:aO w 0 D)(A:∀X,aO X 1 D->cL 46 #[.p D.d 0,.i x] X λe w'=>e=.r (.tuple #[p,.i j])/\bW X w')(C:(j≠0/\z=j)\/(j=0/\z=1/\¬(lo.size<=24/\hi.size<=24/\0<=most))):
  cL 61 #[.p D.d 0,.i x,.t lo,.t hi,.i most] w λe w'=>e=.r (.tuple #[.n,.i z])/\aO w' 0 D/\Fr (Bl.one D.d) w w':=qIp D false x lo hi most z w h (λa s n=>qEc D x lo hi most _ _ _ _ _ _ p j z a n (A a n) C)
theorem Uw(D a x w)(h:aO w a D)(d:D.ts.length<=1000000)(f:gO D.ts x = -1):
  cL 43 #[.p D.d 0,.i x] w λe w'=>e=.r (.tuple #[.pointer none,.i 3])/\bW w w':=by
 go_enter func43,ntmps43;go_wp2_with (apply Calls.m (pU D a x w h d f);rintro e g ⟨rfl,c⟩);go_ret2;simp_all
theorem qRd(D:Db)(x d p a b w)(R:World->Prop)(h:cL 43 #[.p D.d 0,.i x] w λe w'=>e=.r (.tuple #[p,.i d])/\R w')(i:cW w a #[.p D.d 0] 29)(j:cW w b #[.i x] 3):
  cL 74 #[.p a 0,.p b 0] w λe w'=>e=.r (.i d)/\R w':=by
 have k:=bM i;have l:=bM j;go_enter func74,ntmps74;go_wp2_with (apply Calls.m h;rintro e g ⟨rfl,c⟩;have f:Hid _:=c;clear c);go_ret;exact⟨rfl,f⟩
theorem Nn(D x w)(h:aO w 0 D)(R:Int->Db->Prop)(I:∀X,aO X 1 D->∃(c:Int) (p:Value),cL 43 #[.p D.d 0,.i x] X λe w'=>e=.r (.tuple #[p,.i c])/\∃D',aO w' 1 D'/\D'.d=D.d/\Fr (fpD D) X w'/\aI X (fpD D) (fpD D')/\R c D'):
  cL 27 #[.p D.d 0,.i x] w λe w'=>∃z D',e=.r (.i z)/\aO w' 0 D'/\D'.d=D.d/\Fr (fpD D) w w'/\aI w (fpD D) (fpD D')/\R z D':=by
 obtain⟨a,f,d,o,J,-⟩:=al2 w (.cells #[.p D.d 0] 29) (.cells #[.i x] 3); have L:=(gL h.box);have K:=bM o;have G:=Ez D 74 #[] #[.p w 0,.p (w+1) 0] (enters_of func74 κ rfl) a (h.bl d) R (by
  intro g C j M;have n:∀b,w.1.size<=b->¬Bl.one D.d b:=λb m e=>by cases e;omega
  have⟨c,p,E⟩:=I g C;apply(qRd D x c p _ _ g _ E (j.heap o (n _ ω)) (j.heap J (n _ ω))).m;grind)
 go_enter func27,ntmps27;go_wp2_with (apply Calls.m G;rintro e X ⟨z,D',rfl,i,l,F,H,k⟩;have q:Hid _:=i;have s:Hid _:=k;have r:Hid _:=l;clear i k l);go_ret;exact⟨z,D',rfl,q,r,(AB d).t F,λb m=>(H b m).imp id (λh=>vJ d.size h),s⟩
theorem qHo(D x i t w)(h:aO w 0 D)(o:D.ts.length<=1000000)(hi:i<D.ts.length)(p:D.ts[i]=t)(q:gO D.ts x=i):
  cL 27 #[.p D.d 0,.i x] w λe w'=>e=.r (.i 0)/\∃g c,aO w' 0 (D.drop i g c)/\Fr (fpD D) w w'/\aI w (fpD D) (fpD (D.drop i g c)):=by
 refine(Nn D x w h (λj l=>j=0/\∃g c,l=D.drop i g c) (λX n=>⟨0,.p t.b 0,(Pm D 1 x i t X n o hi p q).m ?_⟩)).m ?_
 .rintro e w' ⟨rfl,g,c,d,k,r,b⟩;refine⟨rfl,D.drop i g c,k,rfl,b.m (λf a=>.inl ?_),λf a=>.inl (Ig d f a),rfl,g,c,rfl⟩;rcases a with a|a
  .exact .inl a
  .exact .inr (.inr (.inl (by rw[d,a];rfl)))
 grind
theorem qAy(D x w)(h:aO w 0 D)(g:D.ts.length<=1000000)(i:gO D.ts x = -1):
  cL 27 #[.p D.d 0,.i x] w λe w'=>e=.r (.i 3)/\aO w' 0 D/\Fr (fpD D) w w':=by
 refine(Nn D x w h (λc k=>c=3/\k=D) (λX a=>⟨3,.pointer none,(Uw D 1 x X a g i).m ?_⟩)).m ?_
 .rintro e w' ⟨rfl,b⟩;exact⟨rfl,D,a.bl b,rfl,AB b,CS _ _,rfl,rfl⟩
 grind
theorem qPb(D x a b w)(h:aO w 1 D)(f:D.ts.length<=1000000)(g:gO D.ts x = -1)(i:cW w a #[.p D.d 0] 29)(j:cW w b #[.i x] 3):
  cL 42 #[.p a 0,.p b 0] w λe w'=>e=.r (.i 3)/\bW w w':=by
 have l:=bM i;have m:=bM j;go_enter func42,ntmps42;go_wp2_with (apply Calls.m (Uw D 1 x w h f g);rintro e k ⟨rfl,d⟩);go_ret;simp_all
theorem qQw(D x w)(h:aO w 0 D)(s:D.ts.length<=1000000)(t:gO D.ts x = -1):
  cL 14 #[.p D.d 0,.i x] w λe w'=>e=.r (.i 3)/\aO w' 0 D/\Fr (Bl.one D.d) w w':=by
 obtain⟨a,d,g,k,u,-⟩:=al2 w (.cells #[.p D.d 0] 29) (.cells #[.i x] 3); have z:=(gL h.box);have y:=bM k;have q:=wI D 42 #[] #[.p w 0,.p (w+1) 0] (enters_of func42 κ rfl) a (h.bl g) Bl.none (λf _=>f=3) (λb c=>c.elim) (by
  intro l o i A;have j:∀b,w.1.size<=b->¬Bl.one D.d b:=λb c e=>by cases e;omega
  apply(qPb D x _ _ l o s t (i.heap k (j _ ω)) (i.heap u (j _ ω))).m;rintro e w' ⟨rfl,r⟩;exact⟨3,rfl,AB r,rfl⟩) ω
 go_enter func14,ntmps14;go_wp2_with (apply Calls.m q;rintro e X ⟨f,rfl,n,p,rfl⟩);go_ret;exact⟨rfl,n,(AB g:Fr (Bl.one D.d) w a).t (p.m (λb c=>.inl (c.elim id (λh=>h.elim))))⟩
theorem Vq(d β t w)(a:eX w β t)(b:t.cs=[]):
  cL 44 #[.p d 0,.p t.b 0] w λe w'=>e=.r (.i 0)/\w'=w:=by
 have⟨g,h,i,j,f,k⟩:=qQ a.box;have c:t.cs.length=0:=by rw[b];rfl
 rw[Tx.cv,c]at f;go_enter func44,ntmps44;go_wp2;go_ret;simp
theorem Vs{n:Nat}(D:Db)(x:Int)(i:Nat)(t:Tx)(v:Nat)(o ao:Option (Nat×T))(a:Tx->Option (Nat×T))(w:World)(h:aO w 0 D)(hn:D.ts.length<=1000)(hi:i<D.ts)(ht:D.ts[i]=t)(C:gO D.ts x=i)(H:0<t.cs.length)(F:∀c∈t.cs,c.key ∉ t.ks)(A:t.cs.length<=1000000)(N:D.fs.dy)(B:D.failed=false->dN [] n D.fs v o ao)(L:D.ver=v)(M:v+1<9223372036854775808)(r:View n D.fs v o ao)(s:2<=n)(hr:D.root=rootOf o)(y:D.aroot=rootOf ao)(K:∀t∈D.ts.eraseIdx i,bO D.fs (rootOf (a t)) (a t)/\t.root=rootOf (a t))(fr:List Nat)(p:eY D.fs.safe (dI ([o,ao]++(D.ts.eraseIdx i).map a))=fr)(P:tL [] n D.fs o t.cs fr):
  (∀X g c,aO X 1 (D.drop i g c)->eX X D.β t->cL 44 #[.p D.d 0,.p t.b 0] X (qPg (D.drop i g c) 1 (bY o t.cs fr).2 fr (v+1) (rootOf (bY o t.cs fr).1) t.cs X)) /\
  (¬((D.fs.life==0)=false/\fr.length<(bY o t.cs fr).2)->cL 14 #[.p D.d 0,.i x] w λe w'=>∃z D' g c,e=.r (.i z)/\aO w' 0 D'/\qBf (D.drop i g c) (bY o t.cs fr).2 fr (v+1) (rootOf (bY o t.cs fr).1) t.cs z D'/\Fr (fpD D) w w'/\aI w (fpD D) (fpD D')):=by
 have m:∀X g c,aO X 1 (D.drop i g c)->eX X D.β t->cL 44 #[.p D.d 0,.p t.b 0] X (qPg (D.drop i g c) 1 (bY o t.cs fr).2 fr (v+1) (rootOf (bY o t.cs fr).1) t.cs X):=λX g c j k=>by
  have u:∀q∈D.ts.eraseIdx i,tF q t:=λq O=>by
   obtain⟨S,E,I,rfl⟩:=MT.1 O;rw[<-ht];exact Ep h.apart E hi I
  have G:(D.ts.eraseIdx i).length<=1000:=by rw[List.length_eraseIdx];split<;>omega
  have:=qAn (n:=n) (D.drop i g c) 1 v o ao a t X j k u H F A N B L M G r s hr y K (by rw[<-p]at P;exact P);rw[show frD (D.drop i g c) o ao a=fr from p]at this;exact this
 refine⟨m,λJ=>(qRy D x i t w h hn hi ht C (λz D'=>∃g c,qBf (D.drop i g c) (bY o t.cs fr).2 fr (v+1) (rootOf (bY o t.cs fr).1) t.cs z D') (λX g c R j k=>(m X g c j k).m ?_)).m ?_⟩
 .rintro e w' (⟨_,b,d,_⟩|⟨z,D',rfl,b,d,l,f⟩)
  .exact absurd ⟨b,d⟩ J
  .refine⟨z,D',rfl,b,?_,d,l,g,c,f⟩;rcases f with⟨_,(⟨_,rfl⟩|⟨_,_,_,_,_,_,rfl⟩)⟩|⟨_,_,_,_,_,_,_,_,_,rfl⟩<;>rfl
 .rintro e w' ⟨z,D',rfl,b,d,l,f,g,c,Q⟩;exact⟨z,D',g,c,rfl,b,Q,l,f⟩
theorem qMf(D:Db)(x:Int)(i:Nat)(t:Tx)(w:World)(h:aO w 0 D)(hn:D.ts.length<=1000)(hi:i<D.ts)(ht:D.ts[i]=t)(q:gO D.ts x=i)(p:t.cs.length<=1000000)(z:Int)(s:(t.cs=[]/\z=0)\/(0<t.cs.length/\(∃c∈t.cs,c.key∈t.ks)/\z=7)):
  cL 14 #[.p D.d 0,.i x] w λe w'=>e=.r (.i z)/\∃g c,aO w' 0 (D.drop i g c)/\Fr (fpD D) w w'/\aI w (fpD D) (fpD (D.drop i g c)):=by
 refine(qRy D x i t w h hn hi ht q (λj E=>j=z/\∃g c,E=D.drop i g c) (λX g c v b d=>?_)).m ?_
 .have l:cL 44 #[.p D.d 0,.p t.b 0] X λe w'=>e=.r (.i z)/\bW X w':=by
   rcases s with⟨a,rfl⟩|⟨a,k,rfl⟩
   .apply(Vq D.d D.β t X d a).m;rintro e w' ⟨rfl,rfl⟩;exact⟨rfl,AC _ _⟩
   .exact Vr D.d D.β t X d a p k
  apply l.m;rintro e w' ⟨rfl,f⟩;exact⟨z,D.drop i g c,rfl,b.bl f,rfl,AB f,λy r=>.inl r,rfl,g,c,rfl⟩
 .rintro e w' ⟨j,E,rfl,m,u,n,o,rfl,g,c,rfl⟩;exact⟨rfl,g,c,m,n,o⟩
theorem qOq(D:Db)(z:Int)(g:Nat)(first q:Array Value)(B:∀args w,(callFunc g args).run prog w=.ok (.enter g args) w)(w:World)(h:aO w 0 D)(R:Db->Prop)(E:∀a,aO a 1 D->Fr (Bl.one D.d) w a->w.1.size<a->cL g (first++q) a λe w'=>∃D',e=.panicked (eS z)/\aO w' 1 D'/\D'.d=D.d/\Fr (fpD D) a w'/\aI a (fpD D) (fpD D')/\R D'):
  cL 32 #[.p D.d 0,.func (.func g) first q] w λe w'=>∃D',e=.r (.i z)/\aO w' 0 D'/\D'.d=D.d/\Fr (fpD D) w w'/\aI w (fpD D) (fpD D')/\R D':=by
 obtain⟨b,m⟩:=nM (w.setCell (aD D.d 0) (.int .i32 1));have u:=m▸h.lock;have A:=m▸(AE (Bl.one D.d) w).setCell (p:=(aD D.d 0)) (.inl rfl) _;have G:b.1.size=w:=by rw[<-m];simp
 obtain⟨a,o⟩:=nM (b.alloc (.cells #[.i 0] 48));have r:=o▸(bA _ _);have y:cW a w #[.i 0] 48:=by rw[<-o,<-G];exact aB b _
 have C:=u.bl r;have t:=A.t (AB r);have H:=(gL y);have x:¬fpD D w:=λc=>by have:=h.lies _ c;omega
 refine(Bt D.d g first q B z w (λW=>∃D',aO W 1 D'/\D'.d=D.d/\Fr (fpD D) a W/\aI a (fpD D) (fpD D')/\R D') _ h.box rfl ?_).m ?_
 .rw[m,o]
  refine(E a C t H).m ?_;rintro e w' ⟨D',rfl,f,j,k,l,n⟩;exact⟨rfl,k.heap y x,⟨_,j▸f.box,rfl⟩,D',f,j,k,l,n⟩
 .rintro e w' ⟨rfl,W,⟨D',f,j,k,l,n⟩,rfl⟩;have F:¬fpD D' w:=λc=>by
   rcases l _ c with d|d
   .exact x d
   .omega
  have s:bW W (W.alloc (.cells #[.i z] 172)):=bA _ _;refine⟨D',rfl,?_,j,?_,?_,n⟩
  .have:=((f.bl s).beside (i:=0) F (.i z)).lock (st':=0);rw[j]at this;exact this
  .exact((((t.m (λv c=>.inl (.inl c))).t k).t (AB s)).setCell (p:=(aD w 0)) (.inr (jU _)) _).setCell (p:=(aD D.d 0)) (.inl (.inl rfl)) _
  .intro v c;rcases l v c with d|d
   .exact .inl d
   .exact .inr ω
theorem qRw(D:Db)(x:Int)(i:Nat)(t:Tx)(l o:Nat)(w:World)(h:aO w 1 D)(hn:D.ts.length<=1000)(hi:i<D.ts)(ht:D.ts[i]=t)(r:gO D.ts x=i)(q:∀X g c,aO X 1 (D.drop i g c)->eX X D.β t->cL 44 #[.p D.d 0,.p t.b 0] X λe w'=>e=.panicked (eS 8)/\bW X w')(j:cW w l #[.p D.d 0] 29)(s:cW w o #[.i x] 3):
  cL 42 #[.p l 0,.p o 0] w λe w'=>∃D',e=.panicked (eS 8)/\aO w' 1 D'/\D'.d=D.d/\Fr (fpD D) w w'/\aI w (fpD D) (fpD D')/\∃g c,D'=D.drop i g c:=by
 have u:Hid (∀X,Fr (λa=>a=D.d\/D.ov.ownBlock=some a) w X->X.c l 0=some (.p D.d 0)):=λX G=>bM (G.heap j (λe=>by
  rcases e with e|e
  .have:=h.box;rw[<-e,j]at this;simp at this
  .exact aQ h.row j δ e))
 have v:Hid (∀X g c,D.ov=.q g D.ts c->Fr (λa=>a=D.d\/D.ov.ownBlock=some a) w X->aO X 1 (D.drop i g c)->eX X D.β t->cL 44 #[.p D.d 0,.p t.b 0] X λe w'=>e=.panicked (eS 8)/\∃D',aO w' 1 D'/\D'.d=D.d/\Fr (fpD D) w w'/\aI w (fpD D) (fpD D')/\∃g c,D'=D.drop i g c):=λX g c f C m E=>(q X g c m E).m (by
  rintro e w' ⟨rfl,p⟩;exact⟨rfl,D.drop i g c,m.bl p,rfl,(C.m (λa b=>.inl (by rcases b with b|b;exact .inl b;exact .inr (.inr (.inl b))))).t (AB p),λa b=>.inl (Ig f a b),g,c,rfl⟩)
 have I:=bM j;have K:=bM s;go_enter func42,ntmps42;go_wp2_with (first
  |(apply Calls.m (Pm D 1 x i t w h ω hi ht r);rintro e k ⟨rfl,g,c,f,A,F,d⟩;have n:Fr (λa=>a=D.d\/D.ov.ownBlock=some a) w k:=⟨d.os,d.tape,d.output,d.size,λa b hn=>d.block a b (λe=>hn (e.imp id (λh=>by rw[f,h];rfl)))⟩;have J:=u k n;have y:=v k g c f n A F;clear f)
  |(apply Calls.m y;rintro e H ⟨rfl,D',z⟩;exact⟨rfl,D',rfl,z⟩))
theorem qMe(D:Db)(x:Int)(i:Nat)(t:Tx)(w:World)(h:aO w 0 D)(hn:D.ts.length<=1000)(hi:i<D.ts)(ht:D.ts[i]=t)(C:gO D.ts x=i)(n:∀X g c,aO X 1 (D.drop i g c)->eX X D.β t->cL 44 #[.p D.d 0,.p t.b 0] X λe w'=>e=.panicked (eS 8)/\bW X w'):
  cL 14 #[.p D.d 0,.i x] w λe w'=>e=.r (.i 8)/\∃g c,aO w' 0 (D.drop i g c)/\Fr (fpD D) w w'/\aI w (fpD D) (fpD (D.drop i g c)):=by
 have⟨a,j⟩:=nM ((w.alloc (.cells #[.p D.d 0] 29)).alloc (.cells #[.i x] 3));have f:=j▸(bA _ _).alloc σ _;have k:=j▸aP _ (aB w _);have q:a.1[w.1.size+1]?=some (.cells #[.i x] 3):=by
  rw[<-j];have:=aB (w.alloc (.cells #[.p D.d 0] 29)) (.cells #[.i x] 3);simpa using this
 have F:=(gL h.box);have E:=bM k;have z:=qOq D 8 42 #[] #[.p w 0,.p (w+1) 0] (enters_of func42 κ rfl) a (h.bl f) (λu=>∃g c,u=D.drop i g c) (by
  intro s v l G;have p:∀b,w.1.size<=b->¬Bl.one D.d b:=λb o e=>by cases e;omega
  exact qRw D x i t _ _ s v hn hi ht C n (l.heap k (p _ ω)) (l.heap q (p _ ω)))
 go_enter func14,ntmps14;go_wp2_with (apply Calls.m z;rintro e X ⟨u,rfl,d,B,y,A,m⟩;have r:Hid (aO X 0 u/\∃g c,u=D.drop i g c):=⟨d,m⟩;clear d m B);go_ret;obtain⟨d,g,c,rfl⟩:=r.o;exact⟨rfl,g,c,d,(AB f).t y,λb o=>(A b o).imp id (λh=>vJ f.size h)⟩
open Go.Shelf
attribute [local go_sem] CE
theorem Yi(β:Nat)(sv lv:Value)(fs:Fs)(G:(fs.life==0)=true)(root:Nat)(hr0:root≠0)(d:Option Addr)(e:Nat)(cs:List Ch)(q:Sp)(S:Bl)(n k m:Nat)(W:World)(K:cW W n #[.p β 0,.i root,.s d cs e] 90)(I:cW W k #[.t q.lo] 9)(J:cW W m #[.t q.hi] 9)(r:aA W β sv lv fs)(v:aH W S d (cs.flatMap Ch.cells))(p:lW S W)(hr:cJ cs)(hn:cs.length<=1000000)(C:cs<=e)(E:(d=none/\e=0)\/∃b H,d=some (aD b H)):Up 164 #[.p n 0,.p k 0,.p m 0] W:=by
 intro l;refine CH func164 rfl trivial ?_ rfl;simp only[ntmps164,jA,jB,jN,Nat.reduceAdd,Nat.reduceSub,jR,jO,jP,jT,jE,jF];have⟨c,y⟩:=nM (W.alloc (.cells #[.func (.yield l) #[] #[]] 169));have a:=y▸(bA _ _);have g:∀{s:Nat}{o:Obj},W.1[s]?=some o->c.1[s]?=some o:=λh=>a.kp h;have⟨L,M,N⟩:=eM (g K);have O:=bM (g I);have P:=bM (g J);gi_wp2_with (refine⟨trivial,rfl,?_⟩;gi_at_call 165;apply(BG.2 (Pk β sv lv fs G root hr0 d e cs q S c (r.bl a) (v.on (vV a p)) (λb z=>jY (p b z) a.size) hr hn C E)).m;rintro Q j ⟨R,rfl,x,A⟩);have i:=a.tm A;refine uD rfl (enters_of func195 κ rfl) (λX f=>x X f) (λD X t f F=>?_);exact Uu (B:=j) ⟨[D],rfl,σ,λT h=>by rw[AL.1 h];exact⟨t,F⟩⟩ (λV w=>⟨rfl,i.tm (f.t w.below)⟩)
theorem Mv(β:Nat)(sv lv:Value)(fs:Fs)(L:(fs.life==0)=true)(root:Nat)(hr0:root≠0)(a:Option Addr)(c:Nat)(cs:List Ch)(key:ByteArray)(S:Bl)(w:World)(s:aA w β sv lv fs)(C:aH w S a (cs.flatMap Ch.cells))(p:lW S w)(hr:cJ cs)(hn:cs.length<=1000000)(I:cs<=c)(K:fnd cs key=false)(P:key.size<=1000):
  cL 47 #[.agg #[.p β 0,.i root,.s a cs c],.t key] w λe w'=>e=.panicked (eS 9)/\bW w w':=by
 have⟨d,r⟩:=nM (((w.alloc (.cells #[.p β 0,.i root,.s a cs c] 90)).alloc sY).alloc (Ah false));have f:=r▸((bA _ _).alloc σ _).alloc χ _;have o:=r▸aP _ (aP _ (aB w _));have l:=mG a c cs key S d (C.on (vV f p)) (λb G=>jY (p b G) f.size) hr ω I;rw[K]at l;have⟨i,O⟩:=nM (dK cs key);rw[O]at l;have⟨x,y,z⟩:=eM o;refine(BG (n:=0)).1 (CH func47 rfl trivial ?_ rfl);simp only[ntmps47,jA,jB,jN,Nat.reduceAdd,Nat.reduceSub,jR,jO,jP,jT,jE,jF];gi_wp2_with (first
  |(refine⟨trivial,rfl,?_⟩;gi_at_call 96;apply(BG.2 l).m;rintro e v ⟨rfl,m⟩;have⟨x,y,z⟩:=eM (m.kp o);have q:=(λX=>tS root β a cs c ⟨key,key++⟨#[0]⟩⟩ X) v)
  |(refine⟨trivial,rfl,?_⟩;gi_at_call 98;apply(BG.2 q).m;rintro e k ⟨rfl,M,N,H⟩))
 have g:=f.tm (m.t (H.m m.size));refine uD rfl (enters_of func134 κ rfl) (λX j=>?_) (λD X A j J=>Uu (B:=k) ⟨[D],rfl,σ,λQ h=>by rw[AL.1 h];exact⟨A,J⟩⟩ (λR F=>⟨rfl,g.tm (j.t F.below)⟩))
 .have t:∀{i:Nat}{u:Obj},k.1[i]?=some u->X.1[i]?=some u:=λh=>j.kp h;exact Cn β sv lv fs L root hr0 a cs c ⟨key,key++⟨#[0]⟩⟩ _ _ X (t M) (t N) (s.bl (g.t (j.m g.size)))
theorem qAa(β:Nat)(sv lv:Value)(fs:Fs)(I:(fs.life==0)=true)(t:Tx)(hr0:t.root≠0)(q:Sp)(most:Nat)(w:World)(u:aA w β sv lv fs)(c:eX w β t)(hr:cJ t.cs)(hn:t.cs.length<=1000000)(U:most≠0):
  cL 105 #[.p t.b 0,.t q.lo,.t q.hi,.i (most:Nat)] w λe w'=>e=.panicked (eS 9)/\bW w w':=by
 have⟨P,R,s,F,J⟩:=cA c.row;simp only[Tx.cv,AR,CV]at s;have⟨x,y⟩:=s;subst x y;have E:(t.ca=none/\t.cc=0)\/∃b L,t.ca=some (aD b L):=by
  rcases c.row.2 with⟨h,_⟩|⟨g,Q,T,h,_⟩
  .simp only[Tx.cv,AR]at h;exact .inl ⟨h.1,h.2.2⟩
  .simp only[Tx.cv,AR]at h;exact .inr ⟨g,0,h.1⟩
 have⟨d,r⟩:=nM ((w.alloc (.cells #[.i (most:Nat)] 3)).alloc (.cells #[.n] 30));have k:=r▸(bA _ _).alloc σ _;have K:=r▸aP _ (aB w _);have⟨W,Y,Z,a0,a1,a2⟩:=qQ (k.kp c.box);have S:=bM K;have p:∀a,t.cv.ownBlock=some a->a<w:=λa H=>aL c.row H;have V:(((most:Nat):Int)==0)=false:=χ
 refine(BG (n:=0)).1 (CH func105 rfl trivial ?_ rfl);simp only[ntmps105,jA,jB,jN,Nat.reduceAdd,Nat.reduceSub,jR,jO,jP,jT,jE,jF];gi_wp2_with (refine⟨trivial,rfl,?_⟩;gi_at_call 141;apply(BG.2 (Gm t.root β t.ca t.cs t.cc q.lo q.hi d)).m;rintro e m ⟨rfl,N,o,O,C⟩);have f:=k.tm C;refine uD rfl (enters_of func164 κ rfl) (λX j=>?_) (λD X z j G=>Uu (B:=m) ⟨[D],rfl,σ,λM h=>by rw[AL.1 h];exact⟨z,G⟩⟩ (λX' c=>⟨rfl,f.tm (j.t c.below)⟩))
 .have a:∀{i:Nat}{v:Obj},m.1[i]?=some v->X.1[i]?=some v:=λh=>j.kp h;have l:=f.tm j;exact Yi β sv lv fs I t.root hr0 t.ca t.cc t.cs q (λa=>t.cv.ownBlock=some a) _ _ _ X (a N) (a o) (a O) (u.bl l) (J.on (vV l p)) (λb A=>jY (p b A) l.size) hr hn F E
section
variable (D:Db) (x:Int) (i:Nat) (t:Tx) (w:World) (h:aO w 0 D) (hal:(D.fs.life==0)=true) (hr0:t.root≠0) (hn:D.ts.length<=1000) (hi:i<D.ts.length) (ht:D.ts[i]=t) (hx:gO D.ts x=i) (hr:cJ t.cs) (hcs:t.cs.length<=1000000)
include h hal hr0 hn hi ht hx hr hcs
theorem qLd(key:ByteArray)(a8:1<=key.size)(a9:key.size<=24)(a7:fnd t.cs key=false):
  cL 17 #[.p D.d 0,.i x,.t key] w λe w'=>e=.r (.tuple #[.e,.i 9])/\aO w' 0 D/\Fr (Bl.one D.d) w w':=qPo D true x key 9 w h (by
  intro a k p F G H _;have v:=ht▸AA hi;have C:=gR D 1 x i t a p ω hi ht hx;have n:Hid (∀X,bW a X->aO X 1 D/\X.c k 0=some (.p D.d 0)/\X.c (k+1) 0=some (.i x)/\X.c (k+1+1) 0=some (.t key)/\X.c t.b 2=some (.p D.β 0)/\X.c t.b 3=some (.i t.root)/\X.c t.b 4=some (.s t.ca t.cs t.cc)):=by
   intro X c;have f:=p.bl c;obtain⟨an,ao,z,A,B,ap⟩:=qQ (f.each t v).box;exact⟨f,bM (c.kp F),bM (c.kp G),bM (c.kp H),z,A,B⟩
  obtain⟨_,M,V,W,z,A,B⟩:=n.o a (AC _ _);have y:=λX=>by
   have:=iL key X;rw[CR (JN a8 a9)]at this;exact this
  have J:Hid (∀X,bW a X->cL 47 #[.agg #[.p D.β 0,.i t.root,.s t.ca t.cs t.cc],.t key] X λe w'=>e=.panicked (eS 9)/\bW a w'):=λX c=>by
   have f:=(n.o X c).1;obtain⟨R,ad,s,N,u⟩:=cA (f.each t v).row;simp only[Tx.cv,AR,CV]at s;obtain⟨Y,Z⟩:=s;subst Y Z;exact(Mv D.β D.sv D.lv D.fs hal t.root hr0 t.ca t.cc t.cs key (λg=>t.cv.ownBlock=some g) X f.file u (λg Q=>aL (f.each t v).row Q) hr hcs N a7 ω).m λe w' ⟨s,m⟩=>⟨s,c.tm m⟩
  go_enter func45,ntmps45;go_wp2_with (first
   |(apply Calls.m C;rintro e o ⟨rfl,l⟩;obtain⟨ah,M,V,W,z,A,B⟩:=n.o o l;have E:=y o)
   |(apply Calls.m E;rintro e T ⟨rfl,I⟩;subst T))
  have L:Hid (∀X,bW a X->X.c (k+1+1) 0=some (.t key)/\X.c t.b 2=some (.p D.β 0)/\X.c t.b 3=some (.i t.root)/\X.c t.b 4=some (.s t.ca t.cs t.cc)):=λX c=>(n.o X c).2.2.2;refine cY (S:=λX=>X.c (k+1+1) 0=some (.t key)/\X.c t.b 2=some (.p D.β 0)/\X.c t.b 3=some (.i t.root)/\X.c t.b 4=some (.s t.ca t.cs t.cc)) 10 κ ?_;refine tks [(0,.p t.b 0),(1,.p t.b 0),(2,.p t.b 2),(3,.agg #[.p D.β 0,.i t.root,.s t.ca t.cs t.cc]),(4,.t key)] (L.o _ l.drew) ?_;iterate 5 (refine tk1 rfl ?_;try simp only[pS])
  refine tke ?_;refine mZ (i:=5) (j:=9) κ rfl rfl (λK r=>?_) (λK r=>?_)
  .go_simp;refine Calls.m (J.o _ l.drew) ?_;rintro e U ⟨rfl,m⟩;exact⟨rfl,rfl,m⟩
  .go_simp;have O:bW a (o.drew.alloc sY):=l.drew.alloc l.size _;refine r.out _ _ (λ_=>L.o _ O) ?_;try simp only[pS]
   refine aR (i:=5) κ rfl (λK r=>?_);go_simp;refine Calls.m (J.o _ O) ?_;rintro e U ⟨rfl,m⟩;exact⟨rfl,rfl,m⟩)
theorem Vd(a9:t.wr=true)(key:ByteArray)(a6:1<=key.size)(a7:key.size<=24)(a5:fnd t.cs key=false):
  cL 71 #[.p D.d 0,.i x,.t key] w λe w'=>e=.r (.i 9)/\aO w' 0 D/\Fr (Bl.one D.d) w w':=qPr D true x key 9 w h (by
  intro a o n E F G;have u:=ht▸AA hi;have B:=oM D 1 x i t a n ω hi ht hx a9;have l:Hid (∀X,bW a X->aO X 1 D/\X.c o 0=some (.p D.d 0)/\X.c (o+1) 0=some (.i x)/\X.c (o+1+1) 0=some (.t key)/\X.c t.b 2=some (.p D.β 0)/\X.c t.b 3=some (.i t.root)/\X.c t.b 4=some (.s t.ca t.cs t.cc)):=by
   intro X b;have d:=n.bl b;obtain⟨ah,ai,y,z,A,aj⟩:=qQ (d.each t u).box;exact⟨d,bM (b.kp E),bM (b.kp F),bM (b.kp G),y,z,A⟩
  obtain⟨_,L,R,T,y,z,A⟩:=l.o a (AC _ _);have v:=λX=>by
   have:=iL key X;rw[CR (JN a6 a7)]at this;exact this
  have I:Hid (∀X,bW a X->cL 47 #[.agg #[.p D.β 0,.i t.root,.s t.ca t.cs t.cc],.t key] X λe w'=>e=.panicked (eS 9)/\bW a w'):=λX b=>by
   have d:=(l.o X b).1;obtain⟨W,Y,r,C,H⟩:=cA (d.each t u).row;simp only[Tx.cv,AR,CV]at r;obtain⟨U,V⟩:=r;subst U V;exact(Mv D.β D.sv D.lv D.fs hal t.root hr0 t.ca t.cc t.cs key (λf=>t.cv.ownBlock=some f) X d.file H (λf O=>aL (d.each t u).row O) hr hcs C a5 ω).m λe w' ⟨r,k⟩=>⟨r,b.tm k⟩
  go_enter func107,ntmps107;go_wp2_with (first
   |(apply Calls.m B;rintro e m ⟨rfl,g⟩;obtain⟨ad,L,R,T,y,z,A⟩:=l.o m g;have M:=v m)
   |(apply Calls.m M;rintro e P ⟨rfl,Z⟩;subst P))
  have J:Hid (∀X,bW a X->X.c (o+1+1) 0=some (.t key)/\X.c t.b 2=some (.p D.β 0)/\X.c t.b 3=some (.i t.root)/\X.c t.b 4=some (.s t.ca t.cs t.cc)):=λX b=>(l.o X b).2.2.2;refine cY (S:=λX=>X.c (o+1+1) 0=some (.t key)/\X.c t.b 2=some (.p D.β 0)/\X.c t.b 3=some (.i t.root)/\X.c t.b 4=some (.s t.ca t.cs t.cc)) 10 κ ?_;refine tks [(0,.p t.b 0),(1,.p t.b 0),(2,.p t.b 2),(3,.agg #[.p D.β 0,.i t.root,.s t.ca t.cs t.cc]),(4,.t key)] (J.o _ g.drew) ?_;iterate 5 (refine tk1 rfl ?_;try simp only[pS])
  refine tke ?_;refine mZ (i:=5) (j:=9) κ rfl rfl (λK p=>?_) (λK p=>?_)
  .go_simp;refine Calls.m (I.o _ g.drew) ?_;rintro e Q ⟨rfl,k⟩;exact⟨rfl,rfl,k⟩
  .go_simp;have N:bW a (m.drew.alloc sY):=g.drew.alloc g.size _;refine p.out _ _ (λ_=>J.o _ N) ?_;try simp only[pS]
   refine aR (i:=5) κ rfl (λK p=>?_);go_simp;refine Calls.m (I.o _ N) ?_;rintro e Q ⟨rfl,k⟩;exact⟨rfl,rfl,k⟩)
theorem qEa(q:Sp)(most:Nat)(a7:q.lo.size<=24)(a4:q.hi.size<=24)(S:most≠0):
  cL 61 #[.p D.d 0,.i x,.t q.lo,.t q.hi,.i (most:Nat)] w λe w'=>e=.r (.tuple #[.n,.i 9])/\aO w' 0 D/\Fr (Bl.one D.d) w w':=qIp D true x q.lo q.hi most 9 w h (by
  intro c a k H I u v y _;have R:=ht▸AA hi;have A:Hid (∀X,bW c X->aO X 1 D/\X.c (a+1+1) 0=some (.t q.lo)/\X.c (a+1+1+1) 0=some (.t q.hi)/\X.c (a+1+1+1+1) 0=some (.i (most:Nat))):=λX b=>⟨k.bl b,bM (b.kp u),bM (b.kp v),bM (b.kp y)⟩;have J:Hid (∀X,bW c X->cL 105 #[.p t.b 0,.t q.lo,.t q.hi,.i (most:Nat)] X λe w'=>e=.panicked (eS 9)/\bW c w'):=λX b=>by
   have E:=(A X b).1;exact(qAa D.β D.sv D.lv D.fs hal t hr0 q most X E.file (E.each t R) hr hcs S).m λe w' ⟨Q,m⟩=>⟨Q,b.tm m⟩
  have L:=bM H;have U:=bM I;have o:(q.lo.size:Int)<=24:=ω;have f:(q.hi.size:Int)<=24:=ω;have l:(0:Int)<=(most:Int):=ω;go_enter func104,ntmps104;go_wp2_with (first
   |(apply Calls.m (gR D 1 x i t c k ω hi ht hx);rintro e B ⟨rfl,G⟩;have⟨g,Y,Z,j⟩:=A B G;have N:=J B G)
   |(apply Calls.m N;rintro e T ⟨rfl,m⟩))
  exact⟨rfl,rfl,m⟩)
end
structure LkT (fs:Fs) (t:Tx) (ot:Option (Nat×T)) (r:RT):Prop where
 num:t.num=r.num
 wr:t.wr=r.wr
 tr:Tr [] fs ot
 root:t.root=rootOf ot
 bg:kvB (aT ot)=r.bg
 cs:t.cs=r.ch.foldl dJ []
 good:∀c∈r.ch,c.good
 l:r.ch.foldl dS r.bg=r.l
 ro:t.wr=false->r.ch=[]
 lost:t.wr=true->∀y,y∈t.ks↔y∈r.oth
def Db.sm(D D':Db):Prop:=D'.d=D.d/\D'.β=D.β/\D'.fs=D.fs/\D'.failed=D.failed
theorem Db.sm_rfl{D:Db}:D.sm D:=⟨rfl,rfl,rfl,rfl⟩
def Let{a:Type}(fs:Fs)(z:Int)(x y c:a):Prop:=y=x\/(y=c/\fs.life=0/\z≠3/\z≠1)
structure Lk (n B:Nat) (w:World) (D:Db) (v:Nat) (o ao:Option (Nat×T)) (ots:List (Option (Nat×T))) (M:RM):Prop where
 db:aO w 0 D
 well:D.fs.dy
 failed:D.failed=false->dN [] n D.fs v o ao
 ver:D.ver=v
 root:D.root=rootOf o
 aroot:D.aroot=rootOf ao
 store:View n D.fs v o ao
 nv:M.nv=v
 last:D.last=M.last
 last0:0<=M.last
 last1:M.last<=B
 vB:v<=B
 now:kvB (aT o)=M.now
 ah:kvB (aT ao)=M.ah\/ao=o
 len:D.ts.length=M.ts.length
 leno:ots.length=M.ts.length
 n8:M.ts.length<=8
 each:∀i (h:i<M.ts.length),LkT D.fs (D.ts[i]'(by omega)) (ots[i]'(by omega)) M.ts[i]
 rise:M.ts.Pairwise (λa b=>a.num<b.num)
 le:∀t∈M.ts,t.num<=M.last
 few:∃C,M.now.length<=C/\M.ah.length<=C/\(∀t∈M.ts,t.bg.length<=C/\t.oth.length<=C)/\C+tot (λt:RT=>t.ch.length) M.ts<=B
theorem Dk{c β:Type}(f:c->Int)(g x):∀(l:List c) (m:List β),l.map f=m.map g->l.findIdx? (λt=>f t==x)=m.findIdx? (λt=>g t==x)
 |[],[],_=>rfl
 |[],_ :: _,h=>by simp at h
 |_ :: _,[],h=>by simp at h
 |a :: l,b :: m,h=>by
  simp only[BE,GJ]at h;rw[List.findIdx?_cons,List.findIdx?_cons,h.1,Dk f g x l m h.2]
section
variable {n B:Nat}{w:World}{D:Db}{v:Nat}{o ao:Option (Nat×T)}{ots:List (Option (Nat×T))}{M:RM}
theorem Lk.idx(h:Lk n B w D v o ao ots M)(x):gO D.ts x=tZ M.ts x:=by
 have c:D.ts.map (·.num)=M.ts.map (·.num):=by
  refine GB (by simp[h.len]) (λe d b=>?_);simp only[AF]at d b;simp only[EF];exact(h.each e b).num
 unfold gO tZ;rw[Dk (λa:Tx=>a.num) (λa:RT=>a.num) x D.ts M.ts c];cases M.ts.findIdx? (λa=>a.num==x)<;>rfl
theorem LkT.rise{fs:Fs}{t:Tx}{i:Option (Nat×T)}{e:RT}(h:LkT fs t i e):cT (aT i)/\cJ t.cs/\kvB (bJ (aT i) t.cs)=e.l/\cT (bJ (aT i) t.cs)/\(∀c∈t.cs,c.good)/\t.cs.length<=e.ch:=by
 have f:=eP h.tr.rooted;have⟨g,j⟩:=rB f e.ch (cs:=[]) EH;rw[<-h.cs]at g j;rw[oD f,h.bg,h.l]at g;refine⟨f,j,g,xK f j,?_,?_⟩
 .rw[h.cs];have:∀(b a:List Ch),cJ a->(∀c∈b,c.good)->(∀c∈a,c.good)->∀c∈b.foldl dJ a,c.good:=λb=>by
   induction b with
   |nil=>simp
   |cons d b ih=>intro a k l n;exact ih (dJ a d) (nY k d) (λc m=>l c (by simp[m])) (qHv k n (l d σ))
  exact this e.ch [] EH h.good σ
 .rw[h.cs];have:∀(b a:List Ch),cJ a->(b.foldl dJ a).length<=a+b:=λb=>by
   induction b with
   |nil=>simp
   |cons d b ih =>
    intro a k;have f:=ih (dJ a d) (nY k d);have g:=(qHt k d).1;grind
  have:=this e.ch [] EH;grind
theorem Nu{b}(f):∀{l:List b}{x:b},x∈l->f x<=tot f l
 |y :: l,x,a=>by
  rw[cQ];rcases AS.1 a with rfl|a
  .omega
  .have:=Nu f a;omega
theorem Lk.bounds(h:Lk n B w D v o ao ots M):M.now<=B/\M.ah<=B/\∀t∈M.ts,t.bg<=B/\t.l<=B/\t.ch<=B/\t.oth<=B:=by
 have⟨f,g,i,c,j⟩:=h.few;refine⟨ω,ω,λt a=>?_⟩;have k:=Nu (λt:RT=>t.ch) a;obtain⟨b,e,rfl⟩:=AW a;have d:=rQ (M.ts[b]).ch (M.ts[b]).bg;rw[(h.each b e).l]at d;grind
theorem Lk.hit(h:Lk n B w D v o ao ots M){x:Int}{j:Nat}{f:RT}(d:cI M.ts x (some (j,f))):∃(a:j<D.ts) (e:Option (Nat×T)),LkT D.fs D.ts[j] e f/\gO D.ts x=j/\f∈M.ts:=by
 have⟨b,c⟩:=d;obtain⟨a,rfl⟩:=AD.1 b;exact⟨h.len▸a,_,h.each j a,by rw[h.idx,c],AA a⟩
theorem Lk.miss(h:Lk n B w D v o ao ots M){x}(a:cI M.ts x none):gO D.ts x = -1:=by rw[h.idx];exact a
theorem LkT.dead{fs:Fs}{t:Tx}{i:Option (Nat×T)}{a:RT}(h:LkT fs t i a)(j:i≠none):t.root≠0:=by
 cases i with
 |none=>exact absurd rfl j
 |some x=>rw[h.root];exact DT h.tr.rooted.1
theorem Zt(h:Lk n B w D v o ao ots M)(F:B<=1000000)(x key r)(m:cI M.ts x r):∃f,Let D.fs (eG r key).2 (eG r key) f (⟨#[]⟩,9)/\
  cL 17 #[.p D.d 0,.i x,.t key] w λe w'=>e=.r (.tuple #[.t f.1,.i f.2])/\aO w' 0 D/\Fr (Bl.one D.d) w w':=by
 have J:=h.len;have C:=h.n8;cases r with
 |none=>exact⟨_,.inl rfl,qCt D x key (.pointer none) 3 3 w h.db (λX g=>pU D 1 x X g ω (h.miss m)) (.inl ⟨δ,rfl⟩)⟩
 |some p =>
  have⟨a,r⟩:=p;have⟨l,i,d,k,s⟩:=h.hit m;have⟨H,u,y,z,f,I⟩:=d.rise;have G:=(h.bounds.2.2 r s).2.2.1;by_cases hk:1<=key.size/\key.size<=24
  .by_cases hq:fnd D.ts[a].cs key=false->i≠none->(D.fs.life==0)=false
   .refine⟨_,.inl rfl,(qOo D x a D.ts[a] i key w h.db hq (d.root▸d.tr.rooted) d.tr.flat ω l rfl k u f ω hk.1 hk.2).m ?_⟩;rintro e w' ⟨L,K,rfl,b,c,q⟩;have A:=qBj z key;rw[y]at A;simp only[eG];rw[AU hk,A];rcases q with⟨j,rfl,rfl⟩|⟨t,j,rfl,rfl⟩
    .rw[show valOf (bJ (aT i) D.ts[a].cs) key=none from j];grind
    .rw[show valOf (bJ (aT i) D.ts[a].cs) key=some t from j];grind
   .have⟨E,O,N⟩:fnd D.ts[a].cs key=false/\i≠none/\(D.fs.life==0)=true:=ζ
    refine⟨(⟨#[]⟩,9),.inr ⟨rfl,by simpa using N,?_⟩,qLd D x a D.ts[a] w h.db N (d.dead O) ω l rfl k u ω key hk.1 hk.2 E⟩;simp only[eG];rw[AU hk];cases sH r.l key<;>simp
  .refine⟨_,.inl rfl,(qCt D x key (.p ((D.ts[a]).b) 0) 0 1 w h.db (λX g=>gR D 1 x a D.ts[a] X g ω l rfl k) (.inr ⟨rfl,rfl,hk⟩)).m ?_⟩;rintro e w' ⟨rfl,b,c⟩;simp only[eG];grind
end
theorem qBo{b:Type}(f):∀(l:List b) (j:Nat) (h:j<l) (a:b),tot f (l.set j a)+f l[j]=tot f l+f a
 |x :: l,0,_,a=>by simp only[jZ,cQ,CX];omega
 |x :: l,j+1,h,a=>by
  have:=qBo f l j ζ a;simp only[jX,cQ,DL];omega
section
variable {n B:Nat}{w:World}{D:Db}{v:Nat}{o ao:Option (Nat×T)}{ots:List (Option (Nat×T))}{M:RM}
theorem Lk.change(h:Lk n B w D v o ao ots M){x:Int}{j:Nat}{r:RT}(P:cI M.ts x (some (j,r)))(N:j<D.ts)(Q:r.wr=true)(c)(K:c.good){w':World}{u:Option Addr}{y:Nat}(I:aO w' 0 {D with ts:=D.ts.set j {D.ts[j] with cs:=dJ (D.ts[j]).cs c,ca:=u,cc:=y}})(s t):
  Lk n (B+1) w' {D with ts:=D.ts.set j {D.ts[j] with cs:=dJ (D.ts[j]).cs c,ca:=u,cc:=y}} v o ao ots {M with ts:=M.ts.set j (r.changed c s t)}:=by
 have⟨H,T⟩:=P;obtain⟨m,rfl⟩:=AD.1 H;have e:=h.each j m;have⟨l,F,G,z,S⟩:=h.few;refine⟨I,h.well,h.failed,h.ver,h.root,h.aroot,h.store,h.nv,h.last,h.last0,by have:=h.last1;grind,by have:=h.vB;omega,h.now,h.ah,by simp[h.len],by simp[h.leno],by simp;exact h.n8,λp E=>?_,?_,λi g=>?_,l,F,G,λi g=>?_,?_⟩
 .simp only[BQ]at E;show LkT D.fs ((D.ts.set j _)[p]'_) _ ((M.ts.set j _)[p]'_);simp only[DK];by_cases f:j=p
  .subst f;simp only[LU];refine⟨e.num,e.wr,e.tr,e.root,e.bg,?_,?_,?_,λL=>?_,e.lost⟩
   .show dJ _ c=(M.ts[j].ch++[c]).foldl dJ [];rw[EX,<-e.cs];rfl
   .intro d k;rcases AN.1 k with k|k
    .exact e.good d k
    grind
   .show(M.ts[j].ch++[c]).foldl dS M.ts[j].bg=dS M.ts[j].l c;rw[EX,e.l];rfl
   .have:=L;rw[e.wr,Q]at this;cases this
  .simp only[f,KA];exact h.each p E
 .refine BC.2 (λa b A C J=>?_);simp only[BQ]at A C;have q:=BC.1 h.rise a b A C J;simp only[DK];split
  .next f=>subst f;rw[AQ ω];exact q
  .split
   .next f=>subst f;exact q
   .exact q
 .rcases DS g with g|rfl
  .exact h.le i g
  .show(M.ts[j]).num<=M.last;exact h.le _ (AA m)
 .rcases DS g with g|rfl
  .exact z i g
  .show(M.ts[j]).bg<=l/\(M.ts[j]).oth<=l
   grind
 .have f:=qBo (λi:RT=>i.ch) M.ts j m ((M.ts[j]).changed c s t);have R:((M.ts[j]).changed c s t).ch.length=(M.ts[j]).ch+1:=by show(M.ts[j].ch++[c]).length=_;simp
  grind
theorem Lk.more(h:Lk n B w D v o ao ots M){w'}(e:aO w' 0 D){B'}(g:B<=B'):Lk n B' w' D v o ao ots M:=by
 have⟨a,b,c,d,f⟩:=h.few;exact{h with db:=e,last1:=by have:=h.last1;omega,vB:=by have:=h.vB;omega,few:=⟨a,b,c,d,ω⟩}
theorem To{k}(h:1<=k.size):lt ⟨#[]⟩ k=true:=by
 cases hq:lt ⟨#[]⟩ k with
 |true=>rfl
 |false =>
  have:=lQ (Yv k) hq;rw[this]at h;simp[ByteArray.size]at h
theorem qJg(h:Lk n B w D v o ao ots M)(G:B<=900000)(x key a r)(q:cI M.ts x r):
  cL 13 #[.p D.d 0,.i x,.t key,.t a] w λe w'=>e=.r (.i (mU r key a))/\∃D',D.sm D'/\Fr (fpD D) w w'/\aI w (fpD D) (fpD D')/\((mU r key a≠0/\Lk n (B+1) w' D' v o ao ots M)\/∃j t,r=some (j,t)/\t.wr=true/\(1<=key.size/\key.size<=24)/\a.size<=400/\mU r key a=0/\∀s u,Lk n (B+1) w' D' v o ao ots {M with ts:=M.ts.set j (t.changed ⟨key,a,false⟩ s u)}):=by
 have I:=h.len;have F:=h.n8;have l:∀{w':World},Fr (Bl.one D.d) w w'->Fr (fpD D) w w':=λc=>c.m (λJ b=>.inl (.inl b));cases r with
 |none =>
  have f:mU none key a=3:=by rfl
  rw[f];apply(Oh D x key a (.pointer none) 3 3 w h.db (λX g=>Cj D 1 x X g ω (h.miss q)) (.inl ⟨δ,rfl⟩)).m;rintro e w' ⟨rfl,d,c⟩;exact⟨rfl,D,⟨rfl,rfl,rfl,rfl⟩,l c,CS _ _,.inl ⟨δ,h.more d ω⟩⟩
 |some p =>
  have⟨j,r⟩:=p;have⟨k,K,i,m,C⟩:=h.hit q;have⟨L,E,N,O,P,Q⟩:=i.rise;have H:=(h.bounds.2.2 r C).2.2.1;cases hw:r.wr with
  |false =>
   have f:mU (some (j,r)) key a=4:=by simp[mU,bZ,hw]
   rw[f];apply(Oh D x key a (.pointer none) 4 4 w h.db (λX g=>Ci D 1 x j D.ts[j] X g ω k rfl m (by rw[i.wr];exact hw)) (.inl ⟨δ,rfl⟩)).m;rintro e w' ⟨rfl,d,c⟩;exact⟨rfl,D,⟨rfl,rfl,rfl,rfl⟩,l c,CS _ _,.inl ⟨δ,h.more d ω⟩⟩
  |true =>
   by_cases b:(1<=key.size/\key.size<=24)/\a.size<=400
   .have f:mU (some (j,r)) key a=0:=by simp only[mU,bZ,hw];rw[AQ σ,AU b]
    rw[f];apply(qNs D x j D.ts[j] key a w h.db ω k rfl m (by rw[i.wr];exact hw) E ω b.1.1 b.1.2 b.2).m;rintro e w' ⟨rfl,y,A,d,c,z⟩;exact⟨rfl,{D with ts:=D.ts.set j {D.ts[j] with cs:=dJ (D.ts[j]).cs ⟨key,a,false⟩,ca:=y,cc:=A}},⟨rfl,rfl,rfl,rfl⟩,c,z,.inr ⟨j,r,rfl,hw,b.1,b.2,rfl,λs u=>h.change q k hw ⟨key,a,false⟩ ⟨To b.1.1,b.1.2,b.2⟩ d s u⟩⟩
   .have f:mU (some (j,r)) key a=1:=by simp only[mU,bZ,hw];rw[AQ σ,AQ b]
    rw[f];apply(Oh D x key a (.p ((D.ts[j]).b) 0) 0 1 w h.db (λX g=>oM D 1 x j D.ts[j] X g ω k rfl m (i.wr▸hw)) (.inr ⟨rfl,rfl,b⟩)).m;rintro e w' ⟨rfl,d,c⟩;exact⟨rfl,D,⟨rfl,rfl,rfl,rfl⟩,l c,CS _ _,.inl ⟨δ,h.more d ω⟩⟩
end
theorem qGp{fs root o cs key}(p:bO fs root o)(m:qG o)(n:cJ cs)(k:∀c∈cs,c.good):(lT o cs key=false/\tI o cs key=none)\/(lT o cs key=true/\∃l,tI o cs key=some l):=by
 have⟨d,g,h⟩:∃d:Ent,(fnd cs key=true->∀c,cs[dK cs key]?=some c->d=(chE c).e)/\(fnd cs key=false->∀b e,dB (pE key) o=b :: e->d=b.e):=by
  cases hq:fnd cs key with
  |true =>
   cases hs:cs[dK cs key]? with
   |none=>exact⟨⟨⟨#[]⟩,⟨#[]⟩,0,0⟩,(λ_ c a=>by cases a),(λa=>by cases a)⟩
   |some c=>simp
  |false =>
   cases hs:dB (pE key) o with
   |nil=>exact⟨⟨⟨#[]⟩,⟨#[]⟩,0,0⟩,(λa=>by cases a),(λ_ b e a=>by cases a)⟩
   |cons b e=>simp
 rcases Mu p m n k g h with a|⟨X,_,_,i,f⟩
 .grind
 grind
section
variable {n B:Nat}{w:World}{D:Db}{v:Nat}{o ao:Option (Nat×T)}{ots:List (Option (Nat×T))}{M:RM}
theorem qQu(h:Lk n B w D v o ao ots M)(U:B<=900000)(x key r)(C:cI M.ts x r):∃z,(z=gP r key\/(z=9/\D.fs.life=0/\pV r key=0))/\
  cL 71 #[.p D.d 0,.i x,.t key] w λe w'=>e=.r (.i z)/\∃D',D.sm D'/\Fr (fpD D) w w'/\aI w (fpD D) (fpD D')/\((z≠0/\Lk n (B+1) w' D' v o ao ots M)\/∃j t S,r=some (j,t)/\t.wr=true/\(1<=key.size/\key.size<=24)/\sH t.l key=some S/\gP r key=0/\z=0/\∀E F,Lk n (B+1) w' D' v o ao ots {M with ts:=M.ts.set j (t.changed ⟨key,⟨#[]⟩,true⟩ E F)}):=by
 have Y:=h.len;have T:=h.n8;have u:∀{w':World},Fr (Bl.one D.d) w w'->Fr (fpD D) w w':=λb=>b.m (λZ a=>.inl (.inl a));cases r with
 |none =>
  have c:gP none key=3:=by rfl
  refine⟨_,.inl rfl,?_⟩;rw[c];apply(xZ D x key (.pointer none) 3 3 w h.db (λX k=>Cj D 1 x X k ω (h.miss C)) (.inl ⟨δ,rfl⟩)).m;rintro e w' ⟨rfl,d,b⟩;exact⟨rfl,D,⟨rfl,rfl,rfl,rfl⟩,u b,CS _ _,.inl ⟨δ,h.more d ω⟩⟩
 |some p =>
  have⟨j,r⟩:=p;have⟨l,m,f,A,N⟩:=h.hit C;have⟨a0,J,P,Q,R,a1⟩:=f.rise;have W:=(h.bounds.2.2 r N).2.2.1;cases hw:r.wr with
  |false =>
   have c:gP (some (j,r)) key=4:=by simp[gP,bZ,hw]
   refine⟨_,.inl rfl,?_⟩;rw[c];apply(xZ D x key (.pointer none) 4 4 w h.db (λX k=>Ci D 1 x j D.ts[j] X k ω l rfl A (f.wr▸hw)) (.inl ⟨δ,rfl⟩)).m;rintro e w' ⟨rfl,d,b⟩;exact⟨rfl,D,⟨rfl,rfl,rfl,rfl⟩,u b,CS _ _,.inl ⟨δ,h.more d ω⟩⟩
  |true =>
   have y:gP (some (j,r)) key=(eG (some (j,r)) key).2:=by simp[gP,bZ,hw]
   by_cases a:1<=key.size/\key.size<=24
   .have g:=qBj Q key
    rw[P]at g;have I:bO D.fs (D.ts[j]).root m:=by rw[f.root];exact f.tr.rooted
    by_cases hq:fnd D.ts[j].cs key=false->m≠none->(D.fs.life==0)=false
    case neg=>
     have⟨q1,q2,q3⟩:fnd D.ts[j].cs key=false/\m≠none/\(D.fs.life==0)=true:=ζ
     refine⟨9,.inr ⟨rfl,by simpa using q3,by simp[pV,bZ,hw,a]⟩,(Vd D x j D.ts[j] w h.db q3 (f.dead q2) ω l rfl A J ω (f.wr▸hw) key a.1 a.2 q1).m ?_⟩;rintro e w' ⟨rfl,d,b⟩;exact⟨rfl,D,⟨rfl,rfl,rfl,rfl⟩,u b,CS _ _,.inl ⟨δ,h.more d ω⟩⟩
    refine⟨_,.inl rfl,?_⟩;apply(qAi D x j D.ts[j] m key w h.db hq I ω l rfl A (by rw[f.wr];exact hw) J ω a.1 a.2).m;rintro e w' ⟨z,D',rfl,d,V,b,G,H⟩;rcases qGp (key:=key) I f.tr.flat J R with⟨q,s⟩|⟨q,O,s⟩
    .rw[show valOf (bJ (aT m) D.ts[j].cs) key=none from s]at g
     have c:gP (some (j,r)) key=5:=by rw[y];simp only[eG];grind
     rw[c];rcases H with⟨i,_⟩|⟨_,rfl,rfl⟩
     .grind
     .exact⟨rfl,D',⟨rfl,rfl,rfl,rfl⟩,b,G,.inl ⟨δ,h.more d ω⟩⟩
    .rw[show valOf (bJ (aT m) D.ts[j].cs) key=some O from s]at g
     have c:gP (some (j,r)) key=0:=by rw[y];simp only[eG];grind
     rw[c];rcases H with⟨_,rfl,K,L,rfl⟩|⟨i,_⟩
     .exact⟨rfl,{D with ts:=D.ts.set j {D.ts[j] with cs:=dJ (D.ts[j]).cs ⟨key,⟨#[]⟩,true⟩,ca:=K,cc:=L}},⟨rfl,rfl,rfl,rfl⟩,b,G,.inr ⟨j,r,_,rfl,hw,a,g,rfl,rfl,λE F=>h.change C l hw ⟨key,⟨#[]⟩,true⟩ ⟨To a.1,a.2,by simp[ByteArray.size]⟩ d E F⟩⟩
     grind
   .have c:gP (some (j,r)) key=1:=by rw[y];simp only[eG];rw[AQ a]
    refine⟨_,.inl rfl,?_⟩;rw[c];apply(xZ D x key (.p ((D.ts[j]).b) 0) 0 1 w h.db (λX k=>oM D 1 x j D.ts[j] X k ω l rfl A (f.wr▸hw)) (.inr ⟨rfl,rfl,a⟩)).m;rintro e w' ⟨rfl,d,b⟩;exact⟨rfl,D,⟨rfl,rfl,rfl,rfl⟩,u b,CS _ _,.inl ⟨δ,h.more d ω⟩⟩
theorem qDy{fs root o}(a:bO fs root o){cs}(b:cJ cs)(q):mB o cs q=(bJ (aT o) cs).filter (λx=>q.has x.e.key):=by
 unfold mB;rw[xL a,qAf (eP a) b]
theorem Oc(h:Lk n B w D v o ao ots M)(T:B<=900000)(x lo hi most)(Q:most<=9223372036854775807)(r)(t:cI M.ts x r):∃j,Let D.fs (cU r lo hi most).2 (cU r lo hi most) j ([],9)/\
  ∀W,aO W 0 D->cL 61 #[.p D.d 0,.i x,.t lo,.t hi,.i most] W λe w'=>∃vl,e=.r (.tuple #[vl,.i j.2])/\aO w' 0 D/\Fr (Bl.one D.d) W w'/\w'.ownsRow 0 71 2 vl j.1 (aJ j.1)/\nW vl W:=by
 have P:=h.len;have L:=h.n8;cases r with
 |none =>
  refine⟨_,.inl rfl,λW f=>?_⟩;apply(Rh D x lo hi most (.pointer none) 3 3 W f (λX l=>pU D 1 x X l ω (h.miss t)) (.inl ⟨δ,rfl⟩)).m;rintro e w' ⟨rfl,k,g⟩;exact⟨_,rfl,k,g,AO _ _ _ _,λy b=>by simp[Value.ownBlock]at b⟩
 |some p =>
  have⟨a,r⟩:=p;have⟨s,d,i,q,H⟩:=h.hit t;have⟨R,z,j,I,J,S⟩:=i.rise;have U:=h.bounds.2.2 r H;by_cases b:lo.size<=24/\hi.size<=24/\0<=most
  .obtain⟨c,rfl⟩:∃c:Nat,most=c:=⟨most.toNat,ω⟩
   have A:bO D.fs (D.ts[a]).root d:=by rw[i.root];exact i.tr.rooted
   have m:=qDy A z ⟨lo,hi⟩;have E:(mB d (D.ts[a]).cs ⟨lo,hi⟩).length<=1000000:=by
    rw[m];have K:=LK (λx:En=>(⟨lo,hi⟩:Sp).has x.e.key) (bJ (aT d) (D.ts[a]).cs);have N:=nR (bJ (aT d) (D.ts[a]).cs);grind
   by_cases hq:c≠0->d≠none->(D.fs.life==0)=false
   case neg=>
    have⟨F,Y,V⟩:c≠0/\d≠none/\(D.fs.life==0)=true:=ζ
    refine⟨([],9),.inr ⟨rfl,by simpa using V,by simp[cU,b.1,b.2.1]⟩,λW f=>(qEa D x a D.ts[a] W f V (i.dead Y) ω s rfl q z ω ⟨lo,hi⟩ c b.1 b.2.1 F).m ?_⟩;rintro e w' ⟨rfl,k,g⟩;exact⟨_,rfl,k,g,AO _ _ _ _,λy b=>by simp[Value.ownBlock]at b⟩
   refine⟨_,.inl rfl,λW f=>?_⟩;apply(qIr D x a D.ts[a] d ⟨lo,hi⟩ c W f hq A i.tr.flat ω s rfl q z J ω b.1 b.2.1 E ω).m;rintro e w' ⟨vl,rfl,k,g,G,O⟩;have u:(cU (some (a,r)) lo hi (c:Int))=(tJ r.l lo hi c,0):=by simp only[cU];grind
   rw[u];have C:kvB ((mB d (D.ts[a]).cs ⟨lo,hi⟩).take c)=tJ r.l lo hi c:=by rw[m,qNq I,j]
   rw[<-Ti,<-nR,C]at G;grind
  .refine⟨_,.inl rfl,λW f=>?_⟩;apply(Rh D x lo hi most (.p ((D.ts[a]).b) 0) 0 1 W f (λX l=>gR D 1 x a D.ts[a] X l ω s rfl q) (.inr ⟨rfl,rfl,b⟩)).m;rintro e w' ⟨rfl,k,g⟩;have u:cU (some (a,r)) lo hi most=([],1):=by simp only[cU];rw[AQ b]
   rw[u];exact⟨_,rfl,k,g,AO _ _ _ _,λy b=>by simp[Value.ownBlock]at b⟩
end
