import Derived.Test.YtdhgdcjmhofhaaaGreatD32
import Derived.Test.YtdhgdcjmhofhaaaGreatD34
import Derived.Test.YtdhgdcjmhofhaaaGreatD35
import Derived.Test.YtdhgdcjmhofhaaaGreatD16
set_option linter.all false
set_option maxRecDepth 100000
set_option maxHeartbeats 8000000
namespace Go.Proofs.YtdhgdcjmhofhaaaGreat.Tree
open Go.RowKit Pages Tryz
variable {i:Nat} {w:World}
theorem Ep{a:List Tx}(h:a.Pairwise tF){i j:Nat}(hi:i<a)(c:j<a)(g:i≠j):tF a[i] a[j]:=by
 have d:=BC.1 h;rcases Nat.lt_or_gt_of_ne g with b|b
 .grind
 .exact λk e f=>d j i c hi b k f e
theorem aO.retx {w w':World}{v:Int}{D:Db}{t t':Tx}(h:aO w v D)(hi:i<D.ts)(m:D.ts[i]=t)(y:eX w' D.β t')(z:t'.b=t.b)(f:Fr (fpT t) w w')(A:∀k,fpT t' k->fpT t k\/w.1.size<=k):aO w' v {D with ts:=D.ts.set i t'}:=by
 have r:=m▸AA hi;have C:mH (D.ts.set i t')=mH D.ts:=by
  unfold mH;apply CZ;grind
 refine⟨f.heap h.box (h.noTx r),h.file.on (f.on (λk e=>⟨h.file.lies k e,λc=>h.txFile (h.each t r) k c e⟩)),?_,?_,?_⟩
 .show w'.ownsRow 0 _ 1 D.ov (D.ts.set i t') (mH (D.ts.set i t'));rw[BQ,C];exact eN h.row f (λk e c=>h.txRow (h.each t r) k c e)
 .intro F n;obtain⟨g,d,rfl⟩:=AW n;rw[BQ]at d;rw[DK];split
  .exact y
  .next c =>
   have n:=h.each D.ts[g] (AA d);exact n.on (f.on (λk e=>⟨n.lies k e,λx=>Ep h.apart d hi (λj=>c j.symm) k e (m▸x)⟩))
 .refine BC.2 (λa b p q E=>?_);rw[BQ]at p q;rw[DK,DK];have u:∀g (d:g<D.ts.length),g≠i->∀k,fpT t' k->¬fpT D.ts[g] k:=λg d B k o l=>by
   rcases A k o with s|s
   .exact Ep h.apart hi d (Ne.symm B) k (m.symm▸s) l
   .have:=(h.each D.ts[g] (AA d)).lies k l;omega
  split
  .next e1 =>
   split
   .omega
   .next j=>exact u b q (λc=>j c.symm)
  .next e1 =>
   split
   .next j=>exact λk o l=>u a p (λc=>e1 c.symm) k l o
   .exact Ep h.apart p q ω
theorem Ie {D:Db}{t t':Tx}(hi:i<D.ts)(e:D.ts[i]=t)(d:∀k,fpT t' k->fpT t k\/w<=k):aI w (fpD D) (fpD {D with ts:=D.ts.set i t'}):=by
 rintro k (a|a|a|⟨f,b,a⟩)
 .exact .inl (.inl a)
 .exact .inl (.inr (.inl a))
 .exact .inl (.inr (.inr (.inl a)))
 .rcases DS b with b|rfl
  .exact .inl (.inr (.inr (.inr ⟨f,b,a⟩)))
  .exact(d k a).imp (λc=>.inr (.inr (.inr ⟨t,e▸AA hi,c⟩))) id
theorem bM {β a t}(h:cW w β #[a] t):w.c β 0=some a:=by simp[World.cell?,h]
theorem qJj(D x i t key a y z n o w)(h:aO w 1 D)(aa:D.ts.length<=1000)(hi:i<D.ts.length)(s:D.ts[i]=t)(P:gO D.ts x=i)(a5:t.wr=true)(O:cJ t.cs)(a2:t.cs.length<=1000000)(a3:1<=key.size)(a4:key.size<=24)(ab:a.size<=400)(F:cW w y #[.p D.d 0] 29)(G:cW w z #[.i x] 3)(H:cW w n #[.t key] 9)(I:cW w o #[.t a] 9):
  cL 37 #[.p y 0,.p z 0,.p n 0,.p o 0] w λe w'=>e=.r (.i 0)/\∃d f,aO w' 1 {D with ts:=D.ts.set i {t with cs:=dJ t.cs ⟨key,a,false⟩,ca:=d,cc:=f}}/\Fr (fpD D) w w'/\aI w (fpD D) (fpD {D with ts:=D.ts.set i {t with cs:=dJ t.cs ⟨key,a,false⟩,ca:=d,cc:=f}}):=by
 have Z:=oM D 1 x i t w h ω hi s P a5;have r:=s▸AA hi;have m:Hid (∀X,bW w X->aO X 1 D/\X.c y 0=some (.p D.d 0)/\X.c z 0=some (.i x)/\cW X n #[.t key] 9/\cW X o #[.t a] 9):=by
  intro X g;exact⟨h.bl g,bM (g.kp F),bM (g.kp G),g.kp H,g.kp I⟩
 obtain⟨_,A,B,b,c⟩:=m.o w (AC _ _);have j:=bM b;have k:=bM c;have V:=λX=>by
  have:=iL key X;rw[CR (JN a3 a4)]at this;exact this
 have S:Hid (∀X,cL 41 #[.t key] X λe w'=>e=.r (.t key)/\bW X w'):=λX=>sF key ω X;have T:Hid (∀X,cL 41 #[.t a] X λe w'=>e=.r (.t a)/\bW X w'):=λX=>sF a ω X;have R:Hid (∀X,aO X 1 D->cL 40 #[.p t.b 0,.agg #[.t key,.t a,.bool false]] X λe w'=>e=.r (.tuple #[])/\∃d f,eX w' D.β {t with cs:=dJ t.cs ⟨key,a,false⟩,ca:=d,cc:=f}/\Fr (fpT t) X w'/\∀l,fpT {t with cs:=dJ t.cs ⟨key,a,false⟩,ca:=d,cc:=f} l->fpT t l\/X<=l):=λX g=>Iw t D.β ⟨key,a,false⟩ X (g.each t r) O a2;have J:Hid _:=hi;have K:Hid _:=s;clear F G H I h s P O;go_enter func37,ntmps37;go_wp2_with (first
  |(apply Calls.m Z;rintro e L ⟨rfl,C⟩;obtain⟨a7,A,B,b,c⟩:=m.o L C;have j:=bM b;have k:=bM c;have W:=V L)
  |(apply Calls.m W;rintro e U ⟨rfl,a9⟩;subst U))
 go_region_held3 (λX=>X.c n 0=some (.t key)/\X.c o 0=some (.t a))
  ((first|exact⟨j,k⟩|(simp[j,k])))
  (first
   |(apply Calls.m (S.o _);rintro e M ⟨rfl,a0⟩;have u:=C.drew.t (a0.m C.size);obtain⟨a8,A,B,b,c⟩:=m.o M u;have j:=bM b;have k:=bM c)
   |(apply Calls.m (T.o _);rintro e X3 ⟨rfl,a1⟩;have v:=u.tm a1;obtain⟨p,A,B,b,c⟩:=m.o X3 v;have j:=bM b;have k:=bM c)
   |(apply Calls.m (R.o _ p);rintro e a6 ⟨rfl,d,f,Y,q,N⟩;have Q:=p.retx J.o K.o Y rfl q N;have j:=bM (q.heap b (yI (p.each t r) b δ δ));have k:=bM (q.heap c (yI (p.each t r) c δ δ))))
 all_goals go_wp2
 all_goals go_ret
 all_goals
  refine⟨rfl,d,f,Q,(AB v).t (q.m (λl E=>.inl (.inr (.inr (.inr ⟨t,r,E⟩))))),λl E=>?_⟩;have:=Ie (w:=X3) J.o K.o N l E;exact this.imp id (λh=>vJ v.size h)
theorem qNs(D x i t key a w)(h:aO w 0 D)(C:D.ts.length<=1000)(hi:i<D.ts.length)(F:D.ts[i]=t)(I:gO D.ts x=i)(H:t.wr=true)(E:cJ t.cs)(z:t.cs.length<=1000000)(A:1<=key.size)(B:key.size<=24)(G:a.size<=400):
  cL 13 #[.p D.d 0,.i x,.t key,.t a] w λe w'=>e=.r (.i 0)/\∃c d,aO w' 0 {D with ts:=D.ts.set i {t with cs:=dJ t.cs ⟨key,a,false⟩,ca:=c,cc:=d}}/\Fr (fpD D) w w'/\aI w (fpD D) (fpD {D with ts:=D.ts.set i {t with cs:=dJ t.cs ⟨key,a,false⟩,ca:=c,cc:=d}}):=by
 obtain⟨b,f,l,q,J,K,L,-⟩:=al4 w (.cells #[.p D.d 0] 29) (.cells #[.i x] 3) (.cells #[.t key] 9) (.cells #[.t a] 9); have N:=(gL h.box);have M:=bM q;have y:=Ez D 37 #[] #[.p w 0,.p (w+1) 0,.p (w+1+1) 0,.p (w+1+1+1) 0] (enters_of func37 κ rfl) b (h.bl l) (λr u=>r=0/\∃c d,u = {D with ts:=D.ts.set i {t with cs:=dJ t.cs ⟨key,a,false⟩,ca:=c,cc:=d}}) (by
  intro s v j P;have k:∀g,w.1.size<=g->¬Bl.one D.d g:=λg p e=>by cases e;omega
  apply(qJj D x i t key a _ _ _ _ s v C hi F I H E z A B G (j.heap q (k _ ω)) (j.heap J (k _ ω)) (j.heap K (k _ ω)) (j.heap L (k _ ω))).m;grind)
 go_enter func13,ntmps13;go_wp2_with (apply Calls.m y;rintro e X ⟨r,u,rfl,m,O,n,o,rfl,c,d,rfl⟩);go_ret;exact⟨rfl,c,d,m,(AB l).t n,λg p=>(o g p).imp id (λh=>vJ l.size h)⟩
open Go.Shelf
attribute [local go_sem] CE
theorem qX{P:Program}{f:Func}{p q:Tmp}{c e:TypeId}(h:f.results=#[.cell p c,.cell q e])(b:Array Value)(w:World)(g a:Nat)(t t':TypeId)(cs:Array Value)(v:Value)(d:TypeDesc)(n:b.getD p undef=.p g 0)(r:b.getD q undef=.p a 0)(l:cW w g cs t)(m:cW w a #[v] t')(u:P.underlying c=some d)(k:(match d with|.struct _|.array _ _=>true|_=>false)=true)(hi:(P.info? c).map (·.size)=some cs.size)(x:∀w,(isAgg e).run P w=.ok false w):
  (results f b).run P w=.ok (.tuple #[.agg cs,v]) w:=by
 have o:b[p]?.getD undef=.p g 0:=by simp_all
 have s:b[q]?.getD undef=.p a 0:=by simp_all
 have i:w.c a 0=some v:=by simp[World.cell?,m]
 have j:(loadVar e (aD a 0)).run P w=.ok v w:=by
  simp[loadVar,x,go_sem,i]
 simp[results,h,o,s,asAddr,JZ w g t c cs (0,0) d l u k hi,j]
abbrev sY:Obj:=.cells #[.string ⟨#[]⟩,.string ⟨#[]⟩,.int .i64 0,.int .i64 0] 69
abbrev Ah(b:Bool):Obj:=.cells #[.bool b] 4
theorem Dz{w:World}{β a b c d t}(h:cW w β #[a,b,c,d] t):w.c β 0=some a/\w.c β 1=some b/\w.c β 2=some c/\w.c β 3=some d:=by
 simp[World.cell?,h]
theorem qLk(β root g f cs key S w)(B:aH w S g (cs.flatMap Ch.cells))(s:lW S w)(aa:cJ cs)(aq:cs.length<=1000000)(a6:cs.length<=f)(T:fnd cs key=true)(i)(hi:dK cs key=i)(a8:i<cs)(c)(R:cs[i]=c):
  cL 47 #[.agg #[.p β 0,.i root,.s g cs f],.t key] w λe w'=>e=.r (.tuple #[.agg #[.t c.key,.t c.val,.i c.val.size,.i 0],.bool (!c.gone)])/\bW w w':=by
 obtain⟨a,n,r,al,ak,ai,au⟩:=al3 w (.cells #[.p β 0,.i root,.s g cs f] 90) sY (Ah false); have P:=mG g f cs key S a (B.on (vV r s)) (λb t=>jY (s b t) r.size) aa ω a6;rw[T,hi]at P;have A:Hid (∀X,bW a X->X.c w 2=some (.s g cs f)/\X.1[w.1.size+1]?=some sY/\X.1[w.1.size+1+1]?=some (Ah false)/\bW w X/\∃b d,g=some (aD b d)/\b<w.1.size/\X.c b (d+i * 3)=some (.t c.key)/\X.c b (d+i * 3+1)=some (.t c.val)/\X.c b (d+i * 3+2)=some (.bool c.gone)):=by
  intro X h;have t:=r.tm h;have z:=(h.block _ ω).t al;obtain⟨b,d,W,Y,K,L,M⟩:=(B.on (vV t s)).ch a8;rw[R]at K L M;exact⟨(eM z).2.2,(h.block _ ω).t ak,(h.block _ ω).t ai,t,b,d,W,s b Y,K,L,M⟩
 obtain⟨o,_,_,_,b,d,a7,ao,_⟩:=A.o a (AC _ _);subst a7;have H:Hid (∀X,bW a X->X.c w.1.size 2=some (.s (some (aD b d)) cs f)/\X.1[w.1.size+1]?=some sY/\X.1[w.1.size+1+1]?=some (Ah false)/\bW w X/\X.c b (d+i * 3)=some (.t c.key)/\X.c b (d+i * 3+1)=some (.t c.val)/\X.c b (d+i * 3+2)=some (.bool c.gone)):=by
  intro X h;obtain⟨z,Z,a0,a1,am,ar,O,an,a2⟩:=A.o X h;simp only[BB,CD,DC]at O;obtain⟨rfl,rfl⟩:=O;exact⟨z,Z,a0,a1,a2⟩
 have a3:=λX=>Mz c X;have ap:(i:Int)<(cs.length:Int):=ω;go_enter func47,ntmps47;go_wp2_with (apply Calls.m P;rintro e V ⟨rfl,C⟩;obtain⟨o,l,j,D,u,x,y⟩:=H.o V C);obtain⟨ad,ae,af,ag⟩:=Dz l;have ah:=aF l;have ab:=bM j;have ac:=aF j;go_region_held3 (λX=>X.c w.1.size 2=some (.s (some (aD b d)) cs f)/\X.c b (d+i * 3)=some (.t c.key)/\X.c b (d+i * 3+1)=some (.t c.val)/\X.c b (d+i * 3+2)=some (.bool c.gone))
  ((first|(with_reducible exact⟨o,u,x,y⟩)|(refine⟨?_,?_,?_,?_⟩<;>(repeat apply cO ω)<;>(first|(with_reducible exact o)|(with_reducible exact u)|(with_reducible exact x)|(with_reducible exact y)))|(simp[o,u,x,y])))
  (first
   |((with_reducible refine Calls.m (a3 _) ?_);rintro e m ⟨rfl,a4⟩;have U:=C.drew.t (a4.m C.size);obtain⟨o,l,j,D,u,x,y⟩:=H.o m U;obtain⟨ad,ae,af,ag⟩:=Dz l;have ah:=aF l;have ab:=bM j;have ac:=aF j))
 all_goals
  have F:=aC (aC (aC (aC l 0 (.t c.key)) 1 (.t c.val)) 2 (.i c.val.size)) 3 (.i 0);obtain⟨X3,Q⟩:=nM ((((m.setCell (aD (w+1) 0) (.t c.key)).setCell (aD (w+1) 1) (.t c.val)).setCell (aD (w+1) 2) (.i c.val.size)).setCell (aD (w+1) 3) (.i 0));rw[Q]at F⊢;have N:=Q▸((((AE (Bl.one (w+1)) m).setCell (p:=(aD (w+1) 0)) (.inl rfl) _).setCell (p:=(aD (w+1) 1)) (.inl rfl) _).setCell (p:=(aD (w+1) 2)) (.inl rfl) _).setCell (p:=(aD (w+1) 3)) (.inl rfl) _;have aj:=N.heap j φ;have E:bW w (X3.setCell (aD (w+1+1) 0) (.bool (!c.gone))):=(D.t (N.below D.size (λ_=>φ))).setCell (p:=(aD (w+1+1) 0)) (by show w.1.size<=w+1+1;omega) _;have I:=aC aj 0 (.bool (!c.gone));have G:(X3.setCell (aD (w+1+1) 0) (.bool (!c.gone))).1[w.1.size+1]?=some (.cells #[.t c.key,.t c.val,.i c.val.size,.i 0] 69):=((AE (Bl.one (w+1+1)) X3).setCell (p:=(aD (w+1+1) 0)) (.inl rfl) _).heap (by simpa using F) φ;obtain⟨J,a5⟩:=nM (X3.setCell (aD (w+1+1) 0) (.bool (!c.gone)));rw[a5]at I G E⊢;go_wp2;refine BH (v:=.tuple #[.agg #[.t c.key,.t c.val,.i c.val.size,.i 0],.bool (!c.gone)]) ?_ rfl ⟨rfl,E⟩;exact qX (p:=4) (q:=5) rfl _ _ (w+1) (w+1+1) _ _ _ _ _ rfl rfl G (by simpa using I) underlying69 rfl κ (λw=>κ)
theorem qLn{P n i a R B f w}{p q:Nat}{e j}(u:i.results=#[.cell p e,.cell q j])(g b t t' cs v d)(r:a.getD p undef=.p g 0)(s:a.getD q undef=.p b 0)(l:cW w g cs t)(m:cW w b #[v] t')(x:P.underlying e=some d)(k:(match d with|.struct _|.array _ _=>true|_=>false)=true)(hi:(P.info? e).map (·.size)=some cs.size)(y:∀w,(isAgg j).run P w=.ok false w)(o:Marks B f w)(h:∀w',nA B w w'->R (.r (.tuple #[.agg cs,v])) w'):
  LeavesInM Fence.wide n P i a R f .returning w :=
 fL σ o (λw' c=>⟨_,qX u a w' g b t t' cs v d r s (c.cells _ _ _ _ l) (c.cells _ _ _ _ m) x k hi y,h w' c⟩)
abbrev qOu(x:En):Obj:=.cells #[.string x.e.key,.string x.e.val,.int .i64 x.e.size,.int .i64 x.e.over] 69
def pE(key:ByteArray):Sp:=⟨key,key++⟨#[0]⟩⟩
theorem qGt(β sv lv fs)(root s t cs key o)(b7:o≠none->(fs.life==0)=false)(ba:bO fs root o)(S w)(a6:aA w β sv lv fs)(b0:aH w S s (cs.flatMap Ch.cells))(af:lW S w)(ak:cJ cs)(bt:cs.length<=1000000)(Q:cs.length<=t)(b5:fnd cs key=false)(f:key.size<=1000):
  cL 47 #[.agg #[.p β 0,.i root,.s s cs t],.t key] w λe w'=>∃F:Ent,e=.r (.tuple #[.agg #[.t F.key,.t F.val,.i F.size,.i F.over],.bool (!(dB (pE key) o).isEmpty)])/\(∀x xs,dB (pE key) o=x :: xs->F=x.e)/\bW w w':=by
 obtain⟨J,K,M,au,bm,bj,c2⟩:=al3 w (.cells #[.p β 0,.i root,.s s cs t] 90) sY (Ah false); have a4:=mG s t cs key S J (b0.on (vV M af)) (λb b3=>jY (af b b3) M.size) ak ω Q;rw[b5]at a4;obtain⟨C,b6⟩:=nM (dK cs key);rw[b6]at a4;obtain⟨an,ap,aq⟩:=eM au;have ax:Hid (dB (pE key) o=dB ⟨key,key++⟨#[0]⟩⟩ o):=rfl;have b1:=λX=>tS root β s cs t ⟨key,key++⟨#[0]⟩⟩ X;refine(BG (n:=0)).1 (CH func47 rfl trivial ?_ rfl);simp only[ntmps47,jA,jB,jN,Nat.reduceAdd,Nat.reduceSub,jR,jO,jP,jT,jE,jF];gi_wp2_with (first
  |(refine⟨trivial,rfl,?_⟩;gi_at_call 96;refine(BG.2 a4).m ?_;rintro e H ⟨rfl,a5⟩;have bo:=(a5.block _ (show w.1.size<J by omega)).t au;obtain⟨an,ap,aq⟩:=eM bo;have ag:=b1 H)
  |(refine⟨trivial,rfl,?_⟩;gi_at_call 98;refine(BG.2 ag).m ?_;clear ag;rintro e A ⟨rfl,aw,av,ai⟩))
 have bq:=a5.size;have T:=a5.t (ai.m bq);have U:=M.t (T.m M.size);have bn:=(T.block _ (show w.1.size+1<J by omega)).t bm;have bk:=(T.block _ (show w.1.size+1+1<J by omega)).t bj;have b4:aA A β sv lv fs:=a6.on (vV U a6.lies);have bv:=(gL aw);have bw:=(gL av);let Rd:Bl:=λa=>a=H.1.size\/a=H.1.size+1\/fpF β sv lv a;have am:=Cm β sv lv fs root s cs.length t ⟨key,key++⟨#[0]⟩⟩ o b7 ba H (H+1) Rd A aw av b4 (.inl rfl) (.inr (.inl rfl)) (λa f=>.inr (.inr f));obtain⟨xs,ao⟩:=nM (dB ⟨key,key++⟨#[0]⟩⟩ o);have N:Hid (dB (pE key) o=xs):=ax.o.t ao;rw[ao]at am;let N1:=w.1.size+1;let N2:=w.1.size+1+1;let I:List En->Bl->World->Prop:=λk u W=>k=[]/\W.1[N1]?=some sY/\W.1[N2]?=some (Ah false)/\(∀a,u a↔a=N1\/a=N2);let Ix:Code->List En->Bl->World->Prop:=λc k u W=>c=.ret/\∃x,k=[x]/\W.1[N1]?=some (qOu x)/\W.1[N2]?=some (Ah true)/\(∀a,u a↔a=N1\/a=N2);refine gF (P:=prog) (Has:=qF) (Rd:=Rd) rfl (enters_of func134 κ rfl) am (λx Y S W a3=>by rw[show Y=_ from a3];rfl) I Ix ?_ ?_ ?_ ?_ (λa=>a=N1\/a=N2) ⟨rfl,bn,bk,λa=>GF⟩ ?_ ?_ ?_ ?_
 .rintro k u R B ⟨G,h,i,g⟩ L;exact⟨G,L.heap h ((g _).2 (.inl rfl)),L.heap i ((g _).2 (.inr rfl)),g⟩
 .rintro c k u R B ⟨Q,x,G,h,i,g⟩ L;exact⟨Q,x,G,L.heap h ((g _).2 (.inl rfl)),L.heap i ((g _).2 (.inr rfl)),g⟩
 .rintro k u R ⟨G,h,i,g⟩ a f;rcases(g a).1 f with rfl|rfl
  .exact(gL h)
  .exact(gL i)
 .rintro c k u R ⟨Q,x,G,h,i,g⟩ a f;rcases(g a).1 f with rfl|rfl
  .exact(gL h)
  .exact(gL i)
 .rintro a (rfl|rfl|f)
  .exact⟨λd=>by simp only[N1,N2]at d;omega,ω⟩
  .exact⟨λd=>by simp only[N1,N2]at d;omega,ω⟩
  .have:=a6.lies a f;exact⟨λd=>by simp only[N1,N2]at d;omega,ω⟩
 .rintro l k x bl Y S V W bb ⟨rfl,h,i,g⟩ a3 br E ae bs b8 aj ⟨r,ak⟩;have az:Y=#[.agg #[.t x.e.key,.t x.e.val,.i x.e.size,.i x.e.over]]:=a3;subst az;clear bb;unfold iM;gi_wp2;refine⟨(AE _ W).alloc _,?_⟩;intro z ah;have bp:=ah.heap (k:=W.1.size) (aB W (qOu x)) (DT b8);obtain⟨an,ap,aq,bx⟩:=kI bp;have ay:Fr Bl.none W (W.alloc (qOu x)):=(AE _ W).alloc _;have ad:=(ay.m (λ_ d=>d.elim)).t ah.fr;have j:z.1[w.1.size+1]?=some sY:=ad.heap h (λd=>by simp only[Bl.one]at d;exact aj ((g _).2 (.inl d.symm)));have m:z.1[w.1.size+1+1]?=some (Ah false):=ad.heap i (λd=>by simp only[Bl.one]at d;exact aj ((g _).2 (.inr d.symm)));obtain⟨be,bf,bg,bh⟩:=Dz j;have bc:=bM m;have bi:=aF j;have bd:=aF m;have a9:=aC (aC (aC (aC j 0 (.t x.e.key)) 1 (.t x.e.val)) 2 (.i x.e.size)) 3 (.i x.e.over);obtain⟨X3,O⟩:=nM ((((z.setCell (aD (w+1) 0) (.t x.e.key)).setCell (aD (w+1) 1) (.t x.e.val)).setCell (aD (w+1) 2) (.i x.e.size)).setCell (aD (w+1) 3) (.i x.e.over));have Z:Fr (Bl.one (w+1)) z X3:=O▸((((AE (Bl.one (w+1)) z).s (w+1) 0).s (w+1) 1).s (w+1) 2).s (w+1) 3;have ar:=Z.heap m (oN (by omega));have ac:=aC ar 0 (.bool true);have a0:Fr (Bl.one (w+1+1)) X3 (X3.setCell (aD (w+1+1) 0) (.bool true)):=(AE (Bl.one (w+1+1)) X3).s (w+1+1) 0;have aa:(X3.setCell (aD (w+1+1) 0) (.bool true)).1[w.1.size+1]?=some (qOu x):=a0.heap (by rw[<-O];simpa using a9) (oN (by omega));have ab:Hid (qPx I Ix ([]++[x]) V z .ret {tmps:=#[],defers:=[]} (X3.setCell (aD (w+1+1) 0) (.bool true))):=by
   refine⟨λa=>a=N1\/a=N2,⟨rfl,x,rfl,aa,by simpa using ac,λa=>GF⟩,?_,?_⟩
   .refine(Z.m (λa f=>.inl ((g a).2 (.inl (by simp only[Bl.one]at f;exact f))))).t (a0.m (λa f=>.inl ((g a).2 (.inr (by simp only[Bl.one]at f;exact f)))))
   .rintro a (rfl|rfl)
    .exact .inl ((g _).2 (.inl rfl))
    .exact .inl ((g _).2 (.inr rfl))
  rw[<-O]at ab;clear a9 ac aa Z a0 ar O;gi_wp2;exact ab.o
 .rintro D V W a1 b2 ⟨rfl,h,i,g⟩ E ae a2;have j:W.1[w.1.size+1]?=some sY:=h;have m:W.1[w.1.size+1+1]?=some (Ah false):=i;obtain⟨be,bf,bg,bh⟩:=Dz j;have bc:=bM m;have bi:=aF j;have bd:=aF m;have a7:Marks w [mk D] W:=(GC w A).cons (λD' _ d=>E.heap d (λe=>by rcases e with rfl|rfl<;>simp_all[N1,N2])) ω a2 a1;gi_wp2;rw[cH j (i:=0) (v:=.e) rfl,cH j (i:=1) (v:=.e) rfl,cH j (i:=2) (v:=.i 0) rfl,cH j (i:=3) (v:=.i 0) rfl,cH m (i:=0) (v:=.bool false) rfl];refine qLn (p:=4) (q:=5) rfl (w+1) (w+1+1) _ _ _ _ _ rfl rfl j m underlying69 rfl κ (λw=>κ) a7 ?_;intro w' a8;refine⟨⟨⟨#[]⟩,⟨#[]⟩,0,0⟩,by rw[N.o];rfl,λx xs d=>(by rw[N.o]at d;cases d),?_⟩;exact(((AB U).t (E.m (λa f=>.inl f))).took a8 (jU _)).below (jU _) (λa f=>by rcases f with rfl|rfl<;>simp only[N1,N2]<;>omega)
 .rintro D c k V W a1 b2 b9 bu ⟨rfl,x,rfl,h,i,g⟩ E ae a2;have j:=h;have m:=i;have a7:=(GC w A).cons (λD' _ d=>E.heap d (λe=>by rcases e with rfl|rfl<;>simp_all[N1,N2])) ω a2 a1;obtain⟨bl,al⟩:=b9;gi_wp2;refine qLn (p:=4) (q:=5) rfl (w+1) (w+1+1) _ _ _ _ _ rfl rfl j m underlying69 rfl κ (λw=>κ) a7 ?_;intro w' a8;refine⟨x.e,by rw[N.o,<-al];rfl,λy c1 d=>(by rw[N.o,<-al]at d;simp at d;rw[d.1]),?_⟩;exact(((AB U).t (E.m (λa f=>.inl f))).took a8 (jU _)).below (jU _) (λa f=>by rcases f with rfl|rfl<;>simp only[N1,N2]<;>omega)
def lT(o:Option (Nat×T))(cs:List Ch)(key:ByteArray):Bool:=if fnd cs key=true then (match cs[dK cs key]? with|some c=>!c.gone|none=>false) else !(dB (pE key) o).isEmpty
theorem Um(β sv lv fs)(root f g cs key o)(t:fnd cs key=false->o≠none->(fs.life==0)=false)(u:bO fs root o)(S w)(q:aA w β sv lv fs)(l:aH w S f (cs.flatMap Ch.cells))(m:lW S w)(k:cJ cs)(n:cs.length<=1000000)(d:cs.length<=g)(s:key.size<=1000):
  cL 47 #[.agg #[.p β 0,.i root,.s f cs g],.t key] w λe w'=>∃a:Ent,e=.r (.tuple #[.agg #[.t a.key,.t a.val,.i a.size,.i a.over],.bool (lT o cs key)])/\(fnd cs key=true->∀c,cs[dK cs key]?=some c->a=(chE c).e)/\(fnd cs key=false->∀x xs,dB (pE key) o=x :: xs->a=x.e)/\bW w w':=by
 by_cases hf':fnd cs key=true
 .have⟨i,_⟩:=uV hf' k;apply(qLk β root f g cs key S w l m k n d hf' _ rfl i _ rfl).m;rintro e w' ⟨rfl,b⟩;refine⟨(chE cs[dK cs key]).e,?_,λ_ c d=>?_,(λh=>ζ),b⟩
  .unfold lT;rw[AU hf',jQ i];rfl
  grind
 .have j:fnd cs key=false:=ζ
  apply(qGt β sv lv fs root f g cs key o (t j) u S w q l m k n d j s).m;rintro e w' ⟨a,rfl,p,b⟩;refine⟨a,?_,λh=>absurd h hf',λ_=>p,b⟩;unfold lT;rw[AQ hf']
variable {fs:Fs}
theorem qGe(key k):(pE key).has k=true↔k=key:=by
 have d:(key++(⟨#[0]⟩:ByteArray)).toList=key.toList++[0]:=by
  rw[ByteArray.toList_eq,ByteArray.toList_eq];simp
 have f:(key++(⟨#[0]⟩:ByteArray))≠⟨#[]⟩:=λe=>by
  simp_all
 constructor
 .intro b;simp only[pE,Sp.has,AM,gK]at b;rcases b.2 with a|a
  .grind
  .unfold lt at a;rw[d]at a;rcases qDe _ _ a with c|c
   .have:=Gx.2 b.1;rw[show lt k key=true from c]at this;cases this
   .exact iV c
 .rintro rfl;simp only[pE,Sp.has,AM,gK];refine⟨bG _,.inr ?_⟩;unfold lt;rw[d];exact qDd _
theorem gV {root o}(b:bO fs root o)(d:qG o):∀x∈aT o,x.good fs:=λx a=>by
 cases o with
 |none=>cases a
 |some p =>
  have⟨c,e⟩:=p;exact(oI b.2.2).2 x a
theorem Eu {x:En}(h:x.good fs):x.ok fs/\(x.e.over≠0->x.e.size≠0):=by
 obtain⟨_,_,⟨a,b,d,c⟩|⟨_,_,g,e,a,b,d,c,f⟩⟩:=h
 .exact⟨⟨x.e.val,0,d,a,c,.inl ⟨rfl,b⟩⟩,λh=>absurd a h⟩
 .refine⟨⟨g,e,a,b,c,?_⟩,λ_=>by rw[a];omega⟩;rcases KB e with rfl|h
  .rename_i hp;rw[b]at hp;simp[bF]at hp
  grind
def tI(o:Option (Nat×T))(cs:List Ch)(key:ByteArray):Option (List UInt8):=valOf (bJ (aT o) cs) key
theorem Mu {root o cs key f}(h:bO fs root o)(u:qG o)(d:cJ cs)(s:∀c∈cs,c.good)(p:fnd cs key=true->∀c,cs[dK cs key]?=some c->f=(chE c).e)(q:fnd cs key=false->∀x xs,dB (pE key) o=x :: xs->f=x.e):
  (lT o cs key=false/\tI o cs key=none)\/∃X:En,X.good fs/\f=X.e/\lT o cs key=true/\tI o cs key=some X.value:=by
 unfold tI;rw[qJq (eP h) d];cases hfd:fnd cs key with
 |true =>
  have⟨a,g⟩:=uV hfd d;have v:cs.find? (λc=>decide (c.key=key))=some (cs[dK cs key]):=by
   cases hq:cs.find? (λc=>decide (c.key=key)) with
   |none=>grind
   |some c =>
    have j:c.key=key:=ζ
    obtain⟨i,l,rfl⟩:=AW (GT hq);rcases JE i (dK cs key) with b|b|b
    .have:=BC.1 d i _ l a b;rw[j,g,cP]at this;cases this
    .subst b;rfl
    .have:=BC.1 d _ i a l b;rw[j,g,cP]at this;cases this
  rw[v];simp only;unfold lT;rw[AU hfd,jQ a];cases hgo:(cs[dK cs key]).gone with
  |true=>grind
  |false=>right;exact⟨chE _,Vy (s _ (AA a)),p hfd _ (jQ a),by simp[hgo],by rfl⟩
 |false =>
  have z:cs.find? (λc=>decide (c.key=key))=none:=by
   refine MB.2 λc t=>?_;simp only[BO];intro n;have:=(Ev d key).2 ⟨c,t,n⟩;grind
  rw[z];simp only;unfold lT;rw[AQ ζ];have e:=xL h (pE key);have w:(aT o).filter (λx=>(pE key).has x.e.key)=(aT o).filter (λx=>decide (x.e.key=key)):=List.filter_congr (λx _=>by
   rw[FN,qGe];simp)
  rw[w]at e;unfold valOf;cases hl:dB (pE key) o with
  |nil =>
   simp_all
  |cons x xs =>
   right;have k:(aT o).find? (λx=>decide (x.e.key=key))=some x:=by
    rw[<-List.head?_filter,<-e,hl];rfl
   exact⟨x,gV h u x (GT k),q hfd x xs hl,rfl,by rw[k];rfl⟩
def qRf(D:Db)(i:Nat)(t:Tx)(o:Option (Nat×T))(key:ByteArray)(z:Int)(D':Db):Prop :=
  (lT o t.cs key=true/\z=0/\∃ca' cc',D' = {D with ts:=D.ts.set i {t with cs:=dJ t.cs ⟨key,⟨#[]⟩,true⟩,ca:=ca',cc:=cc'}})\/(lT o t.cs key=false/\z=5/\D'=D)
theorem qLw(D x i t o key b0 b1 b2 w)(h:aO w 1 D)(hal:fnd t.cs key=false->o≠none->(D.fs.life==0)=false)(hro:bO D.fs t.root o)(hn:D.ts.length≤1000)(hi:i<D.ts.length)(ht:D.ts[i]=t)(hx:gO D.ts x=i)(hw:t.wr=true)(hr:cJ t.cs)(hcs:t.cs.length≤1000000)(hk1:1≤key.size)(hk2:key.size≤24)(x0:cW w b0 #[.p D.d 0] 29)(x1:cW w b1 #[.i x] 3)(x2:cW w b2 #[.t key] 9):
    cL 107 #[.p b0 0,.p b1 0,.p b2 0] w λe w'=>∃ z D',e=.r (.i z)∧aO w' 1 D'∧D'.d=D.d∧Fr (fpD D) w w'∧aI w (fpD D) (fpD D')∧qRf D i t o key z D':=by
  have hWr:=oM D 1 x i t w h ω hi ht hx hw;have hm:=ht▸AA hi;have HK:Hid (∀ X,bW w X→aO X 1 D∧X.c b0 0=some (.p D.d 0)∧X.c b1 0=some (.i x)∧cW X b2 #[.t key] 9∧X.c t.b 2=some (.p D.β 0)∧X.c t.b 3=some (.i t.root)∧X.c t.b 4=some (.s t.ca t.cs t.cc)):=by
    intro X hX;have hD:=h.bl hX;obtain⟨q0,q1,q2,q3,q4,q5⟩:=qQ (hD.each t hm).box;exact⟨hD,bM (hX.kp x0),bM (hX.kp x1),hX.kp x2,q2,q3,q4⟩
  obtain⟨_,c0,c1,y2,q2,q3,q4⟩:=HK.o w (AC _ _);have c2:=bM y2;have hKy:=λX=>by
    have:=iL key X;rw [CR (JN hk1 hk2)] at this;exact this
  obtain⟨fb,hfb⟩:=nM (lT o t.cs key);have HFi:Hid (∀ X,aO X 1 D→cL 47 #[.agg #[.p D.β 0,.i t.root,.s t.ca t.cs t.cc],.t key] X λe w'=>∃ E:Ent,e=.r (.tuple #[.agg #[.t E.key,.t E.val,.i E.size,.i E.over],.bool fb])∧bW X w'):=λX hX=>by
    obtain⟨a0,cc0,he,hcc,hrow⟩:=cA (hX.each t hm).row;simp only [Tx.cv,AR,CV] at he;obtain⟨e1,e2⟩:=he;subst e1 e2;refine(Um D.β D.sv D.lv D.fs t.root t.ca t.cc t.cs key o hal hro (λk=>t.cv.ownBlock=some k) X hX.file hrow (λk hk=>aL (hX.each t hm).row hk) hr hcs hcc ω).m ?_;rintro e w' ⟨E,rfl,_,_,hb⟩;exact⟨E,by rw [hfb],hb⟩
  have HCk:Hid (∀ X,cL 41 #[.t key] X λe w'=>e=.r (.t key)∧bW X w'):=λX=>sF key ω X;have HCh:Hid (∀ X,aO X 1 D→cL 40 #[.p t.b 0,.agg #[.t key,.e,.bool true]] X λe w'=>e=.r (.tuple #[])∧∃ ca' cc',eX w' D.β { t with cs:=dJ t.cs ⟨key,⟨#[]⟩,true⟩,ca:=ca',cc:=cc' }∧Fr (fpT t) X w'∧∀ k,fpT { t with cs:=dJ t.cs ⟨key,⟨#[]⟩,true⟩,ca:=ca',cc:=cc' } k→fpT t k∨X.1.size≤k):=λX hX=>Iw t D.β ⟨key,⟨#[]⟩,true⟩ X (hX.each t hm) hr hcs;have HHI:Hid _:=hi;have HTI:Hid _:=ht;have HFB:Hid _:=hfb;go_enter func107,ntmps107;go_wp2_with (first
    | (apply Calls.m hWr;rintro e X1 ⟨rfl,hX1⟩;obtain⟨hD1,c0,c1,y2,q2,q3,q4⟩:=HK.o X1 hX1;have c2:=bM y2;have hKy1:=hKy X1)
    | (apply Calls.m hKy1;rintro e X1' ⟨rfl,hX1'⟩;subst X1'))
  have HS:Hid (∀ X,bW w X→X.c b2 0=some (.t key)∧X.c t.b 2=some (.p D.β 0)∧X.c t.b 3=some (.i t.root)∧X.c t.b 4=some (.s t.ca t.cs t.cc)):=λX hX=>by
    obtain⟨_,_,_,y2,q2,q3,q4⟩:=HK.o X hX;exact⟨bM y2,q2,q3,q4⟩
  have zX1:=hX1.size;go_region_held3 (λX=>X.c b2 0=some (.t key)∧X.c t.b 2=some (.p D.β 0)∧X.c t.b 3=some (.i t.root)∧X.c t.b 4=some (.s t.ca t.cs t.cc))
    ((refine HS.o _ ?_;(repeat (first|exact hX1|exact B2|(refine KE ?_)|(refine LV ?_ (by first|omega|(simp;omega)) _)|(refine KI ?_ (by first|omega|(simp;omega)|(show w.1.size≤X2.1.size;omega)|(show w.1.size≤X1.1.size;omega)) _)))))
    (first
      | ((with_reducible refine Calls.m (HFi.o _ (HK.o _ ?_).1) ?_);(first|exact hX1.drew|exact hX1|exact(hX1.alloc zX1 _).drew|exact hX1.drew.alloc zX1 _);rintro e X2 ⟨E,rfl,hX2⟩;have B2:=(by first|exact hX1.drew.t (hX2.m zX1)|exact(hX1.alloc zX1 _).drew.t (hX2.m χ));have zX2:=B2.size;have xE:=aB X2 sY;obtain⟨g0,g1,g2,g3⟩:=Dz xE;have gfr:=aF xE;try (have xF:X2.1[X1.1.size]?=some sY:=(hX2.block _ σ).t (by first|exact aB X1 sY|exact aB X1.drew sY);obtain⟨g0,g1,g2,g3⟩:=Dz xF;have gfr:=aF xF)))
  all_goals
    clear hKy1 hWr;first
      | (obtain⟨X3,hX3⟩:=nM (X2.alloc (.cells #[.t E.key,.t E.val,.i E.size,.i E.over] 69))
         rw [hX3];have B3:=hX3▸B2.alloc zX2 _;clear hX3)
      | (obtain⟨X3,hX3⟩:=nM ((((X2.setCell (aD X1 0) (.t E.key)).setCell (aD X1 1) (.t E.val)).setCell (aD X1 2) (.i E.size)).setCell (aD X1 3) (.i E.over))
         rw [hX3];have B3:=hX3▸((((B2.setCell (p:=(aD X1 0)) zX1 _).setCell (p:=(aD X1 1)) zX1 _).setCell (p:=(aD X1 2)) zX1 _).setCell (p:=(aD X1 3)) zX1 _);clear hX3)
    clear g0 g1 g2 g3 gfr xE;obtain⟨hD3,c0,c1,y2,q2,q3,q4⟩:=HK.o X3 B3;have c2:=bM y2;have hCl:=HCk.o X3;cases fb with
    | false =>
      go_wp2;go_ret;exact⟨5,D,rfl,hD3,rfl,AB B3,CS _ _,.inr ⟨HFB.o,rfl,rfl⟩⟩
    | true =>
      go_wp2_with (first
        | (apply Calls.m hCl;rintro e X4 ⟨rfl,hX4⟩;have B4:=B3.tm hX4;obtain⟨hD4,c0,c1,y2,q2,q3,q4⟩:=HK.o X4 B4;have hCg:=HCh.o X4 hD4)
        | (apply Calls.m hCg;rintro e X5 ⟨rfl,ca',cc',hT5,hF5,hG5⟩))
      go_ret;refine⟨0,_,rfl,hD4.retx HHI.o HTI.o hT5 rfl hF5 hG5,rfl,(AB B4).t (hF5.m (λk hk=>.inl (.inr (.inr (.inr ⟨t,hm,hk⟩))))),λk hk=>?_,.inl ⟨HFB.o,rfl,ca',cc',rfl⟩⟩;have:=Ie (w:=X4) HHI.o HTI.o hG5 k hk;exact this.imp id (λh=>vJ B4.size h)
theorem qAi(D x i t o key w)(h:aO w 0 D)(v:fnd t.cs key=false->o≠none->(D.fs.life==0)=false)(r:bO D.fs t.root o)(p:D.ts.length<=1000)(hi:i<D.ts.length)(H:D.ts[i]=t)(J:gO D.ts x=i)(u:t.wr=true)(F:cJ t.cs)(y:t.cs.length<=1000000)(B:1<=key.size)(C:key.size<=24):
    cL 71 #[.p D.d 0,.i x,.t key] w λe w'=>∃z D',e=.r (.i z)/\aO w' 0 D'/\D'.d=D.d/\Fr (fpD D) w w'/\aI w (fpD D) (fpD D')/\qRf D i t o key z D':=by
  obtain⟨a,c,d,k,K,L,-⟩:=al3 w (.cells #[.p D.d 0] 29) (.cells #[.i x] 3) (.cells #[.t key] 9);  have I:=(gL h.box);have M:=bM k;have E:=Ez D 107 #[] #[.p w 0,.p (w+1) 0,.p (w+1+1) 0] (enters_of func107 κ rfl) a (h.bl d) (qRf D i t o key) (by
    intro l A f N;have g:∀b,w.1.size<=b->¬Bl.one D.d b:=λb j e=>by cases e;omega
    exact qLw D x i t o key _ _ _ l A v r p hi H J u F y B C (f.heap k (g _ ω)) (f.heap K (g _ ω)) (f.heap L (g _ ω)))
  go_enter func71,ntmps71;go_wp2_with (apply Calls.m E;rintro e X ⟨z,D',rfl,n,m,q,s,G⟩);go_ret;exact⟨z,D',rfl,n,m,(AB d).t q,λb j=>(s b j).imp id (λh=>vJ d.size h),G⟩
abbrev Db.drop(D:Db)(i g c:Nat):Db:={D with ov:=.slice (some (aD g 0)) (D.ts.length-1) c,ts:=D.ts.eraseIdx i}
theorem Ig{D:Db}{i g c:Nat}(d:D.ov=.q g D.ts c):∀k,fpD (D.drop i g c) k->fpD D k:=by
 rintro k (a|a|a|⟨f,e,a⟩)
 .exact .inl a
 .exact .inr (.inl a)
 .exact .inr (.inr (.inl (d▸a)))
 .exact .inr (.inr (.inr ⟨f,List.mem_of_mem_eraseIdx e,a⟩))
theorem qRx(D x i t m n w)(h:aO w 1 D)(u:D.ts.length<=1000)(hi:i<D.ts.length)(y:D.ts[i]=t)(s:gO D.ts x=i)(R:Int->Db->Prop)(q:∀X g c,D.ov=.q g D.ts.length c->aO X 1 (D.drop i g c)->eX X D.β t->cL 44 #[.p D.d 0,.p t.b 0] X λe w'=>∃z D',e=.r (.i z)/\aO w' 1 D'/\D'.d=D.d/\Fr (fpD (D.drop i g c)) X w'/\aI X (fpD (D.drop i g c)) (fpD D')/\R z D')(f:cW w m #[.p D.d 0] 29)(A:cW w n #[.i x] 3):
  cL 42 #[.p m 0,.p n 0] w λe w'=>∃z D',e=.r (.i z)/\aO w' 1 D'/\D'.d=D.d/\Fr (fpD D) w w'/\aI w (fpD D) (fpD D')/\R z D':=by
 have L:=Pm D 1 x i t w h ω hi y s;have C:Hid _:=q;have B:Hid (∀X,Fr (λa=>a=D.d\/D.ov.ownBlock=some a) w X->X.c m 0=some (.p D.d 0)):=λX P=>bM (P.heap f (λe=>by
  rcases e with e|e
  .have:=h.box;rw[<-e,f]at this;simp at this
  .exact aQ h.row f δ e))
 have Q:=bM f;have T:=bM A;clear h f A s q y hi;go_enter func42,ntmps42;go_wp2_with (first
  |(apply Calls.m L;rintro e l ⟨rfl,g,c,j,K,O,d⟩;have k:Fr (λa=>a=D.d\/D.ov.ownBlock=some a) w l:=⟨d.os,d.tape,d.output,d.size,λa b u=>d.block a b (λe=>u (e.imp id (λh=>by rw[j,h];rfl)))⟩;have S:=B.o l k;have J:=C.o l g c j K O;have G:Hid _:=j;clear j)
  |(apply Calls.m J;rintro e I ⟨z,D',rfl,o,r,M,N,p⟩;have E:Hid _:=o;have H:Hid _:=p;have F:Hid _:=r;clear o p r))
 go_ret;have v:=Ig (i:=i) G.o;refine⟨z,D',rfl,E.o,F.o,?_,λa b=>?_,H.o⟩
 .exact(k.m (λa b=>.inl (by rcases b with b|b;exact .inl b;exact .inr (.inr (.inl b))))).t (M.m (λa b=>.inl (v a b)))
 .exact(N a b).imp (v a) (λh=>vJ k.size h)
theorem qRy(D x i t w)(h:aO w 0 D)(G:D.ts.length<=1000)(hi:i<D.ts.length)(H:D.ts[i]=t)(F:gO D.ts x=i)(R:Int->Db->Prop)(E:∀X g c,D.ov=.q g D.ts.length c->aO X 1 (D.drop i g c)->eX X D.β t->cL 44 #[.p D.d 0,.p t.b 0] X λe w'=>∃z D',e=.r (.i z)/\aO w' 1 D'/\D'.d=D.d/\Fr (fpD (D.drop i g c)) X w'/\aI X (fpD (D.drop i g c)) (fpD D')/\R z D'):
  cL 14 #[.p D.d 0,.i x] w λe w'=>∃z D',e=.r (.i z)/\aO w' 0 D'/\D'.d=D.d/\Fr (fpD D) w w'/\aI w (fpD D) (fpD D')/\R z D':=by
 obtain⟨a,f,d,p,I,-⟩:=al2 w (.cells #[.p D.d 0] 29) (.cells #[.i x] 3); have K:=(gL h.box);have J:=bM p;have B:=Ez D 42 #[] #[.p w 0,.p (w+1) 0] (enters_of func42 κ rfl) a (h.bl d) R (by
  intro u y k L;have o:∀b,w.1.size<=b->¬Bl.one D.d b:=λb n e=>by cases e;omega
  exact qRx D x i t _ _ u y G hi H F R E (k.heap p (o _ ω)) (k.heap I (o _ ω)))
 go_enter func14,ntmps14;go_wp2_with (apply Calls.m B;rintro e X ⟨z,D',rfl,j,m,A,C,l⟩;have q:Hid _:=j;have s:Hid _:=l;have r:Hid _:=m;clear j l m);go_ret;exact⟨z,D',rfl,q,r,(AB d).t A,λb n=>(C b n).imp id (λh=>vJ d.size h),s⟩
variable {P:Program} {Q:Exit->Act->World->Prop} {S:World->Prop} {a:Act} {i n s:Nat} {md:Region.Mode} {ops:Array Oper} {v:Value} {w:World}
attribute [local go_sem] CE
theorem mZ {s i j o o' L}(g:Region.ready md ops L=[i,j])(l:ops[i]?=some o)(m:ops[j]?=some o')(h:∀K':Act->World->Prop,Go.Shut (∀a w,((L.setIfInBounds i true).getD s true=false->S w)->pN P md ops Q S s n (L.setIfInBounds i true) a w->K' a w)->if Region.wanted o (yielded ops a.tmps)=true then Oper.wp P o a w K' Q else K' (a.put o.dst undef) w)(k:∀K':Act->World->Prop,Go.Shut (∀a w,((L.setIfInBounds j true).getD s true=false->S w)->pN P md ops Q S s n (L.setIfInBounds j true) a w->K' a w)->if Region.wanted o' (yielded ops a.tmps)=true then Oper.wp P o' a w K' Q else K' (a.put o'.dst undef) w):pN P md ops Q S s (n+1) L a w:=by
 refine⟨λf=>(by rw[g]at f;cases f),λp e=>?_⟩;rw[g]at e;simp only[AS,FG,KO]at e;rcases e with rfl|rfl
 .exact wpOp_step l (λK' b=>h K' (λa w c d=>b a w ⟨c,d⟩))
 .exact wpOp_step m (λK' b=>k K' (λa w c d=>b a w ⟨c,d⟩))
theorem Jj {g}(hi:ops[i]?=some g)(m:∀(j:Nat) (o:Oper) cs b,ops[j]?=some o->o.op≠.select cs b)(r:∀c a w,Q (.panic c) (a.put g.dst v) w->Q (.panic c) a w)(h:i≠s):
  ∀(n:Nat) (L:Array Bool) (a:Act) (w:World),(∀j f,ops[j]?=some f->j≠i->L.getD j true=false->(∀e∈f.after,Region.binds md e=true->e.on≠i)->g.apart ops f=true)->i∈Region.ready md ops L->YieldsIf P ops (λ_=>True) g v a->(L.getD s true=false->S w)->pN P md ops Q S s n (L.setIfInBounds i true) (a.put g.dst v) w->pN P md ops Q S s (n+1) L a w
 |0,L,a,w,_,hr,hy,hS,H=>by
  refine⟨λd=>(by rw[d]at hr;cases hr),λj k=>?_⟩;by_cases e:j=i
  .subst e;exact hy.wpOp hi trivial ⟨λd=>hS (by rwa[KW true h]at d),H⟩
  .have:=JS k e;rw[H.1]at this;cases this
 |n+1,L,a,w,hf,hr,hy,hS,H=>by
  refine⟨λd=>(by rw[d]at hr;cases hr),λj k=>?_⟩;by_cases e:j=i
  .subst e;exact hy.wpOp hi trivial ⟨λd=>hS (by rwa[KW true h]at d),H⟩
  .have⟨u,f,l,A⟩:=JR.1 k;have F:∀e∈f.after,Region.binds md e=true->e.on≠i:=λe C B D=>yF (JR.1 hr).1 (D▸A e C B);refine wpOp_mono (λy w' p=>?_) (wpOp_putIf l (hf j f l e u F) (λcs b=>m i g cs b hi) (λcs b=>m j f cs b l) r hy (H.2 j (JS k e)));have t:=λd=>p.2.1 (by rw[GV _ _ (Ne.symm e),KW true h];exact d);refine⟨t,Jj hi m r h n (L.setIfInBounds j true) y w' (λq J G I x E=>hf q J G I ?_ E) (JS hr (Ne.symm e)) p.1 t ?_⟩
   .by_cases hjq:j=q
    .subst hjq;exact u
    .rw[KW true hjq]at x;exact x
   .rw[GV _ _ e];exact p.2.2
theorem Cf {b L}(hi:ops[i]?=some b)(e:(Region.noSelect ops&&Region.free md ops L i&&(Region.ready md ops L).contains i&&decide (i≠s))=true)(l:∀c a w,Q (.panic c) (a.put b.dst v) w->Q (.panic c) a w)(m:YieldsIf P ops (λ_=>True) b v a)(d:S w)(h:S w->pN P md ops Q S s n (L.setIfInBounds i true) (a.put b.dst v) w):pN P md ops Q S s (n+1) L a w:=by
 simp only[AM,BO]at e;have⟨⟨⟨f,g⟩,j⟩,k⟩:=e;exact Jj hi (MA f) l k n L a w (MZ hi g) (by simpa using j) m (λ_=>d) (h d)
theorem lG {n l id}(s)(c:P.follows .mixedOrders=true)(d:vW ops=true)(b:∀a w,¬Q .outgrown a w)(h:pN P .any ops Q S s ops.size (Array.replicate ops.size false) a w.drew):(Code.region id ops true).wpIn (Fence.wide.inRound l) n P Q a w :=
 wpIn_region_any c (wV d b _ _ _ _ h.any)
theorem qEy {e z xs}(h:w.ownsRow 0 e z v n xs):∃a c,v=.s a n c/\n<=c/\aH w (λk=>v.ownBlock=some k) a xs:=by
 obtain⟨a,c,rfl⟩:=aG h;have i:=h;have⟨j,l⟩:=h;rcases l with⟨b,m⟩|⟨g,q,r,b,t,y,o,u,x,A⟩
 .simp only[AR]at b;refine⟨a,c,rfl,ω,.inl ?_⟩;have:xs.length=0:=by rw[j,m];simp
  exact AH this
 .simp only[AR,CV]at b;obtain⟨rfl,rfl⟩:=b;refine⟨_,c,rfl,o,.inr ⟨g,0,rfl,rfl,λB C p=>?_⟩⟩;have⟨s,d,_,_,f⟩:=gU i p;simp only[BB,CD,DC]at d;subst d;simpa using f
abbrev eI(x:T×Sp):MN:=⟨x.2.lo,x.2.hi,x.1.place,none,0,0,none,0,0⟩
abbrev Ye(w:World)(g k:Nat)(m:MN):World:=((((w.setCell (aD g k) (.string m.lo)).setCell (aD g (k+1)) (.string m.hi)).setCell (aD g (k+2)) (.int .i64 m.place)).setCell (aD g (k+3)) (.slice m.ea m.en m.ec)).setCell (aD g (k+4)) (.slice m.ka m.kn m.kc)
theorem sI(w g k m):Fr (Bl.one g) w (Ye w g k m):=
 (((((AE (Bl.one g) w).s g k).s g (k+1)).s g (k+2)).s g (k+3)).s g (k+4)
theorem Ov(β sv lv fs)(dz:(fs.life==0)=false)(root a7 a9 a8)(m:MN)(fu:((m.place:Int)==0)=false)(h ks k w)(aj:aZ fs (h+1) (.branch m.place ks k) ⟨m.lo,m.hi⟩)(c7:aA w β sv lv fs):
  cL 219 #[.agg #[.p β 0,.i root,.s a7 a9 a8],.agg #[.t m.lo,.t m.hi,.i m.place,.s m.ea m.en m.ec,.s m.ka m.kn m.kc]] w λe w' =>
   ∃y z a3 a4,e=.r (.agg #[.t m.lo,.t m.hi,.i 0,.s y 0 z,.s a3 k a4])/\aH w' (New w w') a3 (aM ((parts ⟨m.lo,m.hi⟩ ks k).map eI))/\k<=a4/\bW w w':=by
 obtain⟨g,bb,bd,ah,be,e1,⟨dt,dk,dl⟩,fn⟩:=aj;obtain⟨u,ae,am,eu,co,bl,ex⟩:=al3 w (.cells #[.p β 0,.i root,.s a7 a9 a8] 90) m.obj Oo;obtain⟨gw,gx,gy⟩:=eM eu;obtain⟨gl,gm,gn,gp,gq⟩:=cS co;have dy:aA u β sv lv fs:=c7.bl am;obtain⟨cs,ct,et⟩:=gB bb;have c4:=pX β sv lv fs root a7 a9 a8 m.place ⟨m.lo,m.hi⟩ g u dy dz bb (by simp[bd]) (by rw[ah];exact dt) (by simp only[ah];exact dk) (by simp only[ah];exact dl) cs et;have d3:Hid (g.keys=ks):=ah;have d2:Hid (g.kids=k.map (λL=>(L.place:Int))):=be;have d1:Hid (g.ents.length=0):=by rw[qZ bb bd];exact rfl
 have fq:k.length<=1000:=by have:=ct;rw[be,AF]at this;exact this
 clear bd ah be e1;refine(BG (n:=0)).1 (CH func219 rfl trivial ?_ rfl);simp only[ntmps219,jA,jB,jN,Nat.reduceAdd,Nat.reduceSub,jR,jO,jP,jT,jE,jF];gi_wp2_with (first
  |(refine⟨trivial,rfl,?_⟩;gi_at_call 144;refine(BG.2 c4).m ?_;clear c4;rintro e H ⟨h5,rfl,⟨a3,b0,y,a4,b1,z,rfl,cl,cm,el,bk⟩,ba⟩;obtain⟨d,b8,-,bn,-⟩:=al1 H (pgO g a3 b0 y a4 b1 z);obtain⟨g8,g9,ga,gb,gc,gd,gi,gj⟩:=bU bn;have bv:Fr Bl.none u d:=(AB ba).t (b8▸(AE _ H).alloc _);have cp:=bv.heap co (λh=>h);obtain⟨gr,gs,gt,gu,gv⟩:=cS cp;have cq:=aP (.cells #[.t m.lo,.t m.hi,.i 0,.s y g.ents z,.n] 242) cp;obtain⟨eo,ep,eq,er,es⟩:=cS cq;have cu:=aP (.cells #[.t m.lo,.t m.hi,.i 0,.s y g.ents z,.n] 242) bn;obtain⟨e7,e8,e9,ea,eb,ec,ed,ee⟩:=bU cu;have c3:=rL g ⟨m.lo,m.hi⟩ a3 b0 y a4 b1 z (d.alloc (.cells #[.t m.lo,.t m.hi,.i 0,.s y g.ents z,.n] 242)))
  |(refine⟨trivial,rfl,?_⟩;gi_at_call 145;refine(BG.2 c3).m ?_;clear c3;rintro e M ⟨rfl,bp,b3,aw⟩))
 clear eo ep eq er es e7 e8 e9 ea eb ec ed ee;obtain⟨a0,af,-,cv,ez⟩:=al1 d (.cells #[.t m.lo,.t m.hi,.i 0,.s y g.ents z,.n] 242);rw[af]at bp b3 aw cq cu;have ds:Fr Bl.none u a0:=bv.t (af▸(AE _ d).alloc _);rw[ez]at bp b3;have ar:Fr Bl.none u M:=ds.t (AB aw);have hj:H.1.size<d:=(gL bn);have ey:d.1.size<a0:=(gL cv);have hi:=ba.size;have hk:d.1.size+1+1<M:=(gL b3);have cj:On (New u H) H M:=((b8▸(CM _ H).alloc (λb c=>c.2) _:On (New u H) H d).t (af▸(CM _ d).alloc (λb c=>by have:=c.2;omega) _:On (New u H) d a0)).t (vV aw (λb c=>by have:=c.2;omega));let Rd:Bl:=λb=>b=d+1\/b=d+1+1\/New u H b;have e4:=wA (d+1+1) (d+1) ⟨m.lo,m.hi⟩ g.kind g.ver g.root g.next a3 b0 y a4 b1 g.ents z g.data g.keys g.kids Rd M b3 bp ((cl.on cj).m (λb c=>.inr (.inr c))) ((cm.on cj).m (λb c=>.inr (.inr c))) (.inr (.inl rfl)) (.inl rfl) cs ct bk.1 bk.2.1;have cf:parts ⟨m.lo,m.hi⟩ g.keys g.kids=(parts ⟨m.lo,m.hi⟩ ks k).map (λR=>((R.1.place:Int),R.2)):=by rw[d3.o,d2.o,rA]
 have b5:Hid (parts ⟨m.lo,m.hi⟩ g.keys g.kids=(parts ⟨m.lo,m.hi⟩ ks k).map (λR=>((R.1.place:Int),R.2))):=cf;clear cf cl cm el bk;have bs:Hid (u.1.size=w+3):=ex;let NB:=d.1.size;let NO:Value->Obj:=λv=>.cells #[.t m.lo,.t m.hi,.i 0,.s y g.ents.length z,v] 242;have cw:=(aw.block _ ey).t cv;let I:List (Int×Sp)->Bl->World->Prop:=λt Y W=>∃v,W.1[NB]?=some (NO v)/\W.ownsRow 0 242 5 v t (aM (((parts ⟨m.lo,m.hi⟩ ks k).take t).map eI))/\(∀b,v.ownBlock=some b->M<=b)/\(∀b,Y b↔b=NB\/v.ownBlock=some b);refine gF (P:=prog) (Has:=vG) (Rd:=Rd) rfl (enters_of func167 κ rfl) e4 (λR bu S W b7=>by rw[b7];rfl) I (λ_ _ _ _=>False) ?_ (λ_ _ _ _ _ h=>h.elim) ?_ (λ_ _ _ _ h=>h.elim) (Bl.one NB) ⟨.n,cw,by simpa[aM] using AO _ _ _ _,ι,λb=>by simp[Bl.one,Value.ownBlock]⟩ ?_ ?_ ?_ (λ_ _ _ _ _ _ _ _ _ h=>h.elim)
 .rintro t Y A B ⟨v,U,ac,au,V⟩ cb
  exact⟨v,cb.heap U ((V _).2 (.inl rfl)),aS ac cb (λb c=>(V b).2 (.inr c)),au,V⟩
 .rintro t Y A ⟨v,U,ac,au,V⟩ b c
  rcases(V b).1 c with rfl|h
  .exact(gL U)
  .exact aL ac h
 .rintro b (rfl|rfl|c)
  .exact⟨λh=>by simp only[Bl.one,NB]at h;omega,ω⟩
  .exact⟨λh=>by simp only[Bl.one,NB]at h;omega,ω⟩
  .exact⟨λh=>by simp only[Bl.one,NB]at h;have:=c.2;omega,by have:=c.2;omega⟩
 .
  rintro l t R gk bu f3 ap W bi ⟨v,ab,Q,ai,N⟩ b7 fl aa dw fr ft e0 ⟨r,fv⟩;have bc:t.length<k:=by
   have:=BR List.length bi;rw[b5.o]at this;simp[dA]at this;omega
  obtain⟨s,c9⟩:=nM (k[t.length]'bc);obtain⟨f,cd⟩:=nM ((⟨kQ ⟨m.lo,m.hi⟩ ks t,rO ⟨m.lo,m.hi⟩ ks t⟩:Sp));have ay:=fF ⟨m.lo,m.hi⟩ ks k t bc;rw[c9,cd]at ay;have e6:R=((s.place:Int),f):=by
   have U:(parts ⟨m.lo,m.hi⟩ g.keys g.kids)[t.length]?=some R:=by rw[bi];simp
   rw[b5.o,BM,ay]at U;simpa using U.symm
  have da:Hid (((parts ⟨m.lo,m.hi⟩ ks k).take (t+1)).map eI=((parts ⟨m.lo,m.hi⟩ ks k).take t).map eI++[eI (s,f)]):=by
   show _=_
   rw[sB ay,BL];rfl
  obtain⟨G,ax⟩:=nM (((parts ⟨m.lo,m.hi⟩ ks k).take t).map eI);have d5:Hid (((parts ⟨m.lo,m.hi⟩ ks k).take t).map eI=G):=ax;rw[ax]at Q;have bf:t.length=G:=by rw[<-ax,AF,AX,dA];omega
  subst e6;have dx:bu=#[.i s.place,.agg #[.t f.lo,.t f.hi]]:=b7;subst dx;obtain⟨n,bg⟩:=nM (t.length);have d6:Hid (t=n):=bg;rw[bg]at Q bf bc;have f1:M.1.size<=W:=aa.size;have f0:d.1.size<W:=(gL ab);have hm:w.1.size<=W:=by have:=am.size;have:=ar.size;omega
  have d4:Hid (n=G):=bf;clear c9 cd ay bi ax bg bf;unfold iM;gi_wp2;refine⟨(AE _ W).alloc _,?_⟩;intro E c5;have dg:Fr Bl.none W (W.alloc (.cells #[.t f.lo,.t f.hi] 154)):=(AE _ W).alloc _;have ak:=c5.heap (aB W (.cells #[.t f.lo,.t f.hi] 154)) ω;have bz:Fr (Bl.one l) W E:=(dg.m (λ_ h=>h.elim)).t c5.fr;have hh:W.1.size<E:=(gL ak);have ck:On ap W E:=bz.on (λb c=>⟨by rcases(N b).1 c with rfl|h;exact f0;exact aL Q h,λe=>by cases e;exact e0 c⟩);have b9:E.1[NB]?=some (NO v):=ck.heap ab ((N _).2 (.inl rfl));have bh:=aS Q ck (λb c=>(N b).2 (.inr c));obtain⟨o,q,rfl⟩:=aG bh;obtain⟨dm,dn⟩:=cM ak;obtain⟨ef,eg,eh,ei,ch⟩:=cS b9;have b4:Hid (∀a6 v',a6.1[NB]?=some (NO v')->a6.ownsRow 0 242 5 v' (n+1) (aM (G++[eI (s,f)]))->Fr (λb=>b=NB\/(Value.s o n q).ownBlock=some b) E a6->(∀b,v'.ownBlock=some b->(Value.s o n q).ownBlock=some b\/E<=b)->∃bt,I (t++[((s.place:Int),f)]) bt a6/\Fr ap E a6/\aI E ap bt):=by
   intro a6 v' U ac au V;refine⟨λb=>b=NB\/v'.ownBlock=some b,⟨v',U,?_,λb c=>?_,λb=>GF⟩,au.m (λb c=>.inl ((N b).2 c)),?_⟩
   .rw[jK,AP,da.o,d5.o,d6.o];exact ac
   .rcases V b c with h|h
    .exact ai b h
    .omega
   .rintro b (c|c)
    .exact .inl ((N b).2 (.inl c))
    .exact(V b c).imp (λh=>(N b).2 (.inr h)) id
  gi_wp2;refine lG (S:=λX=>X.c W 0=some (.t f.lo)/\X.c W 1=some (.t f.hi)/\X.c d.1.size 4=some (.s o n q)) 11 κ κ (λ_ _ h=>h) ?_;refine tks [(0,.p d 4),(1,.s o n q),(2,.agg #[.t f.lo,.t f.hi]),(3,.i s.place),(4,.agg #[.t f.lo,.t f.hi,.i s.place,.n,.n]),(5,.i n)] ⟨dm,dn,ch⟩ ?_;iterate 6 (refine tk1 rfl ?_;try simp only[pS])
  refine tke ?_;have ev:=aP (.cells #[.t ⟨#[]⟩,.t ⟨#[]⟩,.i 0,.n,.n] 242) ak;obtain⟨dq,dr⟩:=cM ev;have ej:=(cS (aP (.cells #[.t ⟨#[]⟩,.t ⟨#[]⟩,.i 0,.n,.n] 242) b9)).2.2.2.2;refine aR (i:=6) κ rfl (λK C=>?_);go_simp;refine C.out _ _ (λ_=>⟨dq,dr,ej⟩) ?_;clear C K;try simp only[pS]
  refine aR (i:=7) κ rfl (λK C=>?_);refine kA E.drew rfl (.tmp 31) (.tmp 36) 239 242 _ 5 88 rfl underlying239 jD rfl δ (.s o n q) n (aM G) ξ bh [.t ⟨#[]⟩,.t ⟨#[]⟩,.i 0,.n,.n] ξ rfl υ ω ω ?_;intro h4 F al;obtain⟨x,O,rfl⟩:=al.shape δ;have J:fO 242 5 (.s o n q) n (aM G) [.t ⟨#[]⟩,.t ⟨#[]⟩,.i 0,.n,.n] 1 E (.q x (n+1) O) F:=⟨al.row,(AE _ E).drew.t al.fr,al.lies⟩;have bo:=J.fr.heap ak (aQ bh ak δ);obtain⟨c1,c2⟩:=cM bo;have aq:F.1[d.1.size]?=some (NO (.s o n q)):=J.fr.heap b9 (λe=>by have:=ai _ e;omega);obtain⟨ge,gf,gg,gh,cg⟩:=cS aq;have bj:x≠d:=λe=>by
   rcases J.lies x rfl with h|h
   .have:=ai _ h;omega
   .omega
  have ek:x≠W:=λe=>aQ J.row bo δ (by rw[e];rfl);have ff:=aF aq;have c8:(aM G).length=n * 5:=by rw[iY,<-d4.o]
  have bl:=zB J.row (n * 5) c8 (eI (s,f));have c6:aM (G++[eI (s,f)])=aM G++(eI (s,f)).cells:=by rw[iK];simp[aM]
  have br:Hid (aM (G++[eI (s,f)])=aM G++(eI (s,f)).cells):=c6;have fp:(n:Int)<(n:Int)+1:=ω
  have av:=JN c1 (JN c2 cg);refine C.out _ _ (λ_=>⟨c1,c2,cg⟩) ?_;clear C K c6;try simp only[pS]
  refine Cf (i:=8) (v:=.p x (n * 5)) rfl κ (λ_ _ _ h=>h) τ av (λav=>?_);try simp only[pS]
  refine Cf (i:=10) (v:=.p d 4) rfl κ (λ_ _ _ h=>h) τ av (λav=>?_);try simp only[pS]
  obtain⟨gz,h0,h1,h2,h3,fx,fy,fz,g0,g1,fg,fh,fi,fj,fk⟩:=qDa J.row;have bm:=sI F x (n * 5) (eI (s,f));have b6:=bm.heap aq (λe=>bj (MO e));obtain⟨f4,f5,f6,f7,dd⟩:=cS b6;obtain⟨de,df⟩:=cM (bm.heap bo (λe=>ek (MO e)));have fe:=aF b6;have dh:=aC b6 4 (.q x (n+1) O);have bw:Fr (Bl.one d) (Ye F x (n * 5) (eI (s,f))) ((Ye F x (n * 5) (eI (s,f))).setCell (aD d 4) (.q x (n+1) O)):=(AE (Bl.one d) _).s d 4;have ci:∀b,(Value.q x (n+1) O).ownBlock=some b->¬Bl.one d b:=λb c e=>by
   cases e;exact bj (by simpa[Value.ownBlock] using c)
  have em:=eN bl bw ci;have di:=aC aq 4 (.q x (n+1) O);have bx:Fr (Bl.one d) F (F.setCell (aD d 4) (.q x (n+1) O)):=(AE (Bl.one d) F).s d 4;have cn:=eN J.row bx ci;have en:=zB cn (n * 5) c8 (eI (s,f));have cr:=sI (F.setCell (aD d 4) (.q x (n+1) O)) x (n * 5) (eI (s,f));have dj:=cr.heap di (λe=>bj (MO e));have c0:∀b,Bl.one x b->(b=NB\/(Value.s o n q).ownBlock=some b)\/E<=b:=λb c=>by
   cases c;exact(J.lies _ rfl).imp (λh=>.inr h) id
  have bq:Fr (λb=>b=NB\/(Value.s o n q).ownBlock=some b) E F:=J.fr.m (λb c=>.inl (.inr c));have cz:=(bq.grow bm c0).grow bw (λb c=>.inl (.inl c));have d0:=(bq.grow bx (λb c=>.inl (.inl c))).grow cr c0;have d7:=b4.o _ _ (by simpa using dh) (by rw[br.o];exact em) cz J.lies;have d8:=b4.o _ _ (by simpa using dj) (by rw[br.o];exact en) d0 J.lies;clear b4 av;refine mZ (i:=9) (j:=11) κ rfl rfl (λK C=>?_) (λK C=>?_)
  .go_simp
   refine C.out _ _ (λ_=>⟨de,df,dd⟩) ?_;clear C K;try simp only[pS]
   refine aR (i:=11) κ rfl (λK C=>?_);go_simp;refine C.out _ _ (λe=>by cases e) ?_;clear C K;refine dF κ ?_ _;gi_wp2;exact d7
  .go_simp
   obtain⟨h6,h7,h8,h9,ha,g2,g3,g4,g5,g6,hb,hc,hd,he,hf⟩:=qDa cn;refine C.out _ _ (λe=>by cases e) ?_;clear C K;try simp only[pS]
   refine aR (i:=9) κ rfl (λK C=>?_);go_simp;refine C.out _ _ (λe=>by cases e) ?_;clear C K;refine dF κ ?_ _;gi_wp2;exact d8
 .rintro D ap W du fm ⟨v,ab,Q,ai,N⟩ aa dw dv
  have ca:(parts ⟨m.lo,m.hi⟩ g.keys g.kids).length=k:=by rw[b5.o,AF,dA]
  rw[ca,CN (by rw[dA];exact jU _)]at Q;have b2:=aa.heap (ar.heap bl (λh=>h)) (λh=>by simp only[Bl.one,NB]at h;have:=bs.o;have:=ba.size;omega);obtain⟨o,q,e5,ce,cc⟩:=qEy Q;subst e5;obtain⟨ef,eg,eh,ei,ch⟩:=cS (show W.1[d.1.size]?=some (.cells #[.t m.lo,.t m.hi,.i 0,.s y g.ents z,.s o k q] 242) from ab);obtain⟨f8,f9,fa,fb,fc⟩:=cS b2;have fd:=aF b2;have f1:M.1.size<=W:=aa.size;have hl:u.1.size<=M:=ar.size;have e2:Marks w [mk D] W:=(GC w M).cons (λD' _ h=>aa.heap h (λe=>by simp only[Bl.one,NB]at e;subst e;rw[cw]at h;simp at h)) (η am.size) dv du;have cx:Fr Bl.none w W:=((AB am).t ar).grow aa (λb c=>.inr (by simp only[Bl.one,NB]at c;omega));have d9:Hid (aH W (λb=>(Value.s o k q).ownBlock=some b) o (aM ((parts ⟨m.lo,m.hi⟩ ks k).map eI))):=cc;have db:Hid (k<=q):=ce;have ao:Hid (∀b,(Value.s o k q).ownBlock=some b->M<=b/\b<W):=λb c=>⟨ai b c,aL Q c⟩;have dp:=aC (aC (aC (aC (aC b2 0 (.t m.lo)) 1 (.t m.hi)) 2 (.i 0)) 3 (.s y g.ents z)) 4 (.s o k q);clear ab Q cc ce ca;gi_wp2;obtain⟨a5,ag⟩:=nM (((((W.setCell (aD (w+1+1) 0) (.t m.lo)).setCell (aD (w+1+1) 1) (.t m.hi)).setCell (aD (w+1+1) 2) (.i 0)).setCell (aD (w+1+1) 3) (.s y g.ents z)).setCell (aD (w+1+1) 4) (.s o k q));have an:Fr (Bl.one (w+1+1)) W a5:=ag▸((((((AE (Bl.one (w+1+1)) W).s (w+1+1) 0).s (w+1+1) 1).s (w+1+1) 2).s (w+1+1) 3).s (w+1+1) 4);have ew:a5.1[w.1.size+1+1]?=some (.cells #[.t m.lo,.t m.hi,.i 0,.s y g.ents z,.s o k q] 242):=by rw[<-ag];simpa using dp
  have e3:Marks w [mk D] a5:=e2.on (λD' _ h=>an.heap h (λe=>by cases e;rw[b2]at h;simp at h));have cy:Fr Bl.none w a5:=cx.grow an (λb c=>.inr (by simp only[Bl.one]at c;omega));have dc:=d9.o.on (an.on (Z:=λb=>(Value.s o k q).ownBlock=some b) (λb c=>⟨(ao.o b c).2,λe=>by simp only[Bl.one]at e;have:=(ao.o b c).1;omega⟩));refine qPp (p:=4) rfl (w+1+1) _ _ _ rfl (ag▸ew) underlying242 rfl κ (ag▸e3) ?_;intro w' az;rw[ag]at az;refine⟨y,z,o,q,by rw[<-d1.o],?_,db.o,(cy.took az (jU _)).below0⟩;have fw:=az.size;have fo:=an.size;exact aH.took (dc.m (λb c=>⟨by have:=(ao.o b c).1;omega,by have:=(ao.o b c).2;omega⟩)) az
variable {fs:Fs} {h:Nat} {n:NT}
mutual
def ndT:NT->Nd
 |.kept t s=>.mk s t.place [] []
 |.leaf s es=>.mk s 0 es []
 |.bran s ks=>.mk s 0 [] (qKf ks)
def qKf:List NT->List Nd
 |[]=>[]
 |n :: ns=>ndT n :: qKf ns
end
theorem Sb:∀(ns:List NT),qKf ns=ns.map ndT
 |[]=>by simp[qKf]
 |n :: ns=>by simp[qKf,Sb ns]
theorem rE(s ks):ndT (.bran s ks)=.mk s 0 [] (ks.map ndT):=by rw[ndT,Sb]
theorem uN(t s):ndT (.kept t s)=.mk s t.place [] []:=by rw[ndT]
theorem Hd(s es):ndT (.leaf s es)=.mk s 0 es []:=by rw[ndT]
theorem uM(n):(ndT n).sp=n.sp:=by
 cases n with
 |kept=>rfl
 |leaf=>rfl
 |bran=>rfl
theorem Vj{b β}(f)(a:β->Nat):∀(k:Nat) (l:List b),lX a k (l.map f)=(lX (λx=>a (f x)) k l).map (List.map f)
 |0,l=>rfl
 |k+1,l=>by
  have e:tot a (l.map f)=tot (λx=>a (f x)) l:=by simp[tot,KJ]
  have d:=λc=>(Nz (λx=>a (f x)) a c l (l.map f) 0 σ).symm;simp only[lX,e,d,AF];split
  .grind
  .rw[BE,<-List.map_take,<-List.map_drop,Vj f a k]
theorem Bg(ns):(eL ns).map ndT=(fA xT (ns.map ndT)).map Jf:=by
 have a:(λn=>xT (ndT n))=gY:=by funext n;simp[xT,gY,uM]
 rw[eL,fA,fA,AF,Vj,a,GO,GO];refine EI (λp _=>?_);simp only[Function.comp_apply,Je,rE,Jf];cases p with
 |nil=>rfl
 |cons n p=>simp[kO,uM,Im]
theorem xN(es):(dE es).map ndT=(dE es).map nd0:=by
 refine EI (λn a=>?_);obtain⟨p,_,rfl⟩:=AY.1 a;rfl
theorem qCd (H:OkH fs 0 n):ndT n=nd0 n:=by
 cases n with
 |kept=>rfl
 |leaf=>rfl
 |bran=>exact H.elim
theorem qQs(x):3<=esz x:=by unfold esz;split<;>omega
theorem Nv{b:Type}(a m):∀(l:List b),(∀x∈l,m<=a x)->l * m<=tot a l
 |[],_=>by simp
 |x :: l,h=>by
  have e:=h x σ;have f:=Nv a m l (λd c=>h d (by simp[c]));rw[cQ,jB,MF];omega
theorem Er (H:OkH fs 0 n):n.ents0.length<=1000:=by
 cases n with
 |kept t s=>cases t with
  |leaf p es =>
   have⟨g,b,_,a,_⟩:=(iE H).1;have:=(gB b).2.2;rw[a,AF]at this;exact this
  |branch=>exact(iE H).1.elim
 |leaf s es =>
  have d:=Nv esz 3 es (λc _=>qQs c);have e:=H.2.2.2.1;show es.length<=1000;omega
 |bran=>exact H.elim
theorem mJ (H:OkH fs h n):Cg n:=by
 rintro a s rfl;have:=gC (iE H).2.2;omega
theorem qQd (H:OkH fs h n){m S w}(c:jM w S (ndT n) m)(u:lW S w):
  cL 215 #[m.val] w λe w'=>e=.r (.bool (dP n))/\bW w w':=by
 cases n with
 |leaf s es =>
  cases h with
  |succ h=>exact H.elim
  |zero =>
   rw[Hd]at c;exact qQe (sK H) (mJ H) c u (Er H)
 |kept t s =>
  rw[uN]at c;have⟨_,_,_,_,_,a,B,j,k,l,o,p,g,q,r,f,i⟩:=c;have A:=AH f;subst A;apply(nO m [] [] S w l o p g q r u σ σ σ σ).m;rintro e w' ⟨rfl,v⟩;refine⟨?_,v⟩;have J:=mJ H t s rfl;have:(m.place==0)=false:=ζ
  rw[this];rfl
 |bran s ks =>
  cases h with
  |zero=>exact H.elim
  |succ h =>
   have⟨L,M,N,O,I,P⟩:=H;rw[rE]at c;have⟨_,_,_,_,_,a,B,j,k,l,o,p,g,q,r,f,i⟩:=c;have C:bK w S (ks.map ndT) a:=⟨f,i⟩;have F:tot ksz a=tot gY ks:=by
    rw[Ei,<-Lv C,GO,Ei];refine BR List.sum (EI (λn _=>?_));simp[xT,gY,uM]
   have y:a.length=ks:=by rw[f,AF]
   have K:ks.length<=1000:=by have:=Nv gY 3 ks (λn _=>by unfold gY;omega);omega
   have D:∀z∈a,z.fits:=λz G=>by
    obtain⟨d,E,rfl⟩:=AW G;have x:d<ks:=ω;show(a[d]).lo.size<=24;rw[(i d (ndT ks[d]) a[d] ζ (jQ E)).lo,uM];exact sL (I _ (AA x)).1
   apply(nO m [] a S w l (by rw[o,AF,y]) p ω q r u σ ω σ D).m;rintro e w' ⟨rfl,v⟩;refine⟨?_,v⟩;apply BR (λb=>Ending.returned (.bool b));rw[k,F,FN];simp[dP,Nt]<;>exact KC
theorem Tq(w)(l:List (T×Sp)):bK w Bl.none ((l.map (λx=>NT.kept x.1 x.2)).map ndT) (l.map eI):=by
 refine⟨σ,λc d x a b=>?_⟩;rw[BM,BM]at a;rw[BM]at b;cases hl:l[c]? with
 |none=>grind
 |some y =>
  rw[hl]at a b;simp only[MX,BB]at a b;subst a b;rw[uN];exact .mk y.2 y.1.place [] [] (eI y) [] rfl rfl rfl rfl rfl (jU _) (jU _) (.inl rfl) (.inl rfl) rfl (λc d x a _=>by simp at a)
theorem qKo(β sv lv fs)(O:(fs.life==0)=false)(root g j i){h:Nat}{n:NT}(H:OkH fs (h+1) n)(m S w)(N:aA w β sv lv fs)(f:jM w S (ndT n) m)(L:lW S w):
  cL 219 #[.agg #[.p β 0,.i root,.s g j i],.agg #[.t m.lo,.t m.hi,.i m.place,.s m.ea m.en m.ec,.s m.ka m.kn m.kc]] w λe w'=>qBc ndT n.kidsN S w e w':=by
 cases n with
 |leaf=>exact H.elim
 |bran s ks =>
  rw[rE]at f;have⟨_,_,_,_,_,u,k,l,c,z,A,I,q,J,B,v,x⟩:=f;apply(Hi β root g j i m (by simp[c]) w).m;rintro e w' ⟨rfl,d⟩;have o:=vV d L;have K:bK w S (ks.map ndT) u:=⟨v,x⟩;refine⟨m.lo,m.hi,m.ea,m.ec,m.ka,m.kc,u,?_,(B.on o).m (λr a=>.inl a),(K.on o).m (λr a=>.inl a),by rw[AF]at q;exact q,d⟩;rw[c,z,A,AF];rfl
 |kept t s =>
  have⟨E,W,Q⟩:=iE H;cases t with
  |leaf=>simp[aZ]at E
  |branch p ks kids =>
   rw[uN]at f;have⟨_,_,_,_,_,u,k,l,c,z,A,I,q,J,B,v,x⟩:=f;have P:=(gC Q).1;have T:aZ fs (h+1) (.branch m.place ks kids) ⟨m.lo,m.hi⟩:=by rw[c,k,l];exact E
   apply(Ov β sv lv fs O root g j i m ζ h ks kids w T N).m;rintro e w' ⟨F,G,U,V,rfl,D,M,d⟩;have R:(⟨m.lo,m.hi⟩:Sp)=s:=by rw[k,l]
   rw[R]at D;have C:(NT.kept (.branch p ks kids) s).kidsN.length=kids:=by simp[NT.kidsN,dA]
   refine⟨m.lo,m.hi,F,G,U,V,(parts s ks kids).map eI,by rw[C],D.m (λr a=>.inr a),(Tq w' (parts s ks kids)).m (λr a=>a.elim),ω,d⟩
theorem eE.count {ns:List NT}(L:eE fs h ns):ns.length<=(bQ h ns):=Dh _ _ (λn a=>(kL (L.ok n a)).1)
def qSb(β:Nat)(sv lv:Value)(fs:Fs)(root:Int)(ca:Option Addr)(cn cc:Nat)(h:Nat):Prop:=∀(l n:NT),eE fs h [l,n]->(l.entsH h).length+(n.entsH h).length<=1000000->∀(ma mb:MN) (S:Bl) (w:World),aA w β sv lv fs->jM w S (ndT l) ma->jM w S (ndT n) mb->(∀b,S b->b<w.1.size)->cL 216 #[.agg #[.pointer (some (aD β 0)),.int .i64 root,.slice ca cn cc],ma.val,mb.val] w λe w' =>
   ∃v ms,e=.returned v/\w'.ownsRow 0 242 5 v ms.length (aM ms)/\bK w' (Or2 S (New w w')) ((qK h l n).map ndT) ms/\bW w w'/\∀k,v.ownBlock=some k->w.1.size<=k
theorem qCm(β sv lv fs root d g f){h:Nat}(s:qSb β sv lv fs root d g f h)(ns)(L:eE fs h ns)(D:(bQ h ns).length<=1000000)(ms l m S w)(i:aA w β sv lv fs)(r:aH w S l (aM ms))(j:bK w S (ns.map ndT) ms)(c:lW S w)(y:ns.length<=m):
  cL 206 #[.agg #[.p β 0,.i root,.s d g f],.s l ns m] w λe w' =>
   ∃v rs,e=.r v/\w'.ownsRow 0 242 5 v rs.length (aM rs)/\bK w' (Apart S w v w') ((rN (qK h) ns).map ndT) rs/\bW w w'/\nW v w:=by
 refine qOl β sv lv fs root d g f ndT (qK h) (λM=>eE fs h M/\bQ h M=bQ h ns) (λp o n B a=>?_) (λM a=>?_) (λM a n x E S w j c=>qQd (a.1.ok n x) j c) (λp o n B a z F S w i t u c=>?_) ns ms l m S w i ⟨L,rfl⟩ r j c y
 .have T:=Nw h a.1.two;have⟨A,C⟩:=a.1.swap T.lst T.ents T.lo;exact⟨⟨A,C.t a.2⟩,T.ne⟩
 .have:=a.1.count;grind
 .have q:=BR List.length a.2;rw[eT,kY,kY,jK,jK,jK]at q;exact s o n a.1.two ω z F S w i t u c
theorem Ku(β sv lv fs)(s:(fs.life==0)=false)(root j l k):∀h,qSb β sv lv fs root j l k h
 |0=>λe n p B t mb S w g q f m=>by
  have o:=p.ok e σ;have on:=p.ok n σ;rw[qCd o]at q;rw[qCd on]at f;apply(qDn β sv lv fs s root j l k e n (sK o) (sK on) (mJ o) (mJ on) t mb S w g q f m (Er o) (Er on)).m;rintro Y w' ⟨v,u,rfl,O,N,f,M⟩;refine⟨v,u,rfl,O,?_,f,M⟩;show bK w' _ ((dE _).map ndT) u;rw[xN];exact N.m (λZ h=>.inr h)
 |h+1=>λe n p B t mb S w g q f m=>by
  have o:=p.ok e σ;have on:=p.ok n σ;have⟨z,C,R,a0⟩:=wB o;have⟨A,T,a1,U⟩:=wB on;have y:eE fs h (e.kidsN++n.kidsN):=by
   refine⟨λi r=>(AN.1 r).elim (z.ok i) (A.ok i),λi r=>(AN.1 r).elim (z.lo i) (A.lo i),CO.2 ⟨z.sep,A.sep,λa q b f D Q=>?_⟩⟩;have:D∈e.entsH (h+1):=by rw[<-C];exact AV.2 ⟨a,q,Q⟩
   exact cD (((BD.1 p.sep).1 n σ) D this) (U b f)
  have F:(bQ h (e.kidsN++n.kidsN)).length<=1000000:=by rw[eT,C,T,jK];exact B
  have L:=y.count;rw[jK]at L;have x:=qKv (c:=⟨#[]⟩) y (λi _=>Be _);have K:=x.lst.count;rw[x.ents]at K;have:=Qs β root j l k ndT e.kidsN n.kidsN (rN (qK h) (e.kidsN++n.kidsN)) t mb S w m
   (λW d=>(qKo β sv lv fs s root j l k o t S W (g.bl d) (q.on (vV d m)) (λb h=>jY (m b h) d.size)))
   (λW d=>(qKo β sv lv fs s root j l k on mb S W (g.bl d) (f.on (vV d m)) (λb h=>jY (m b h) d.size)))
   (BX.2 R) ω ω (λi r=>by rw[uM];exact sL (x.lst.ok i r))
   (λu V X E W d H G I J=>qCm β sv lv fs root j l k (Ku β sv lv fs s root j l k h) _ y F u V X E W (g.bl d) H G I J)
  rw[<-Bg]at this;exact this
