import Derived.Test.YtdhgdcjmhofhaaaGreatD31
import Derived.Test.YtdhgdcjmhofhaaaGreatD33
import Derived.Test.YtdhgdcjmhofhaaaGreatD34
import Derived.Test.YtdhgdcjmhofhaaaGreatD16
set_option linter.all false
set_option maxRecDepth 100000
set_option maxHeartbeats 8000000
namespace Go.Proofs.YtdhgdcjmhofhaaaGreat.Tree
open Go.RowKit Pages
variable {i:Nat} {w:World}
def Cn{a:List Tx}(h:a.Pairwise rY){i j}(hi:i<a.length)(c:j<a.length)(g:i≠j):rY a[i] a[j]:=by
 have d:=BD.1 h;rcases Nat.lt_or_gt_of_ne g with b|b
 .grind
 .exact λk e f=>d j i c hi b k f e
def aO.retx {w w' v D t t'}(h:aO w v D)(hi:i<D.ts.length)(m:D.ts[i]=t)(y:eI w' D.β t')(z:t'.b=t.b)(f:Fr (fpT t) w w')(A:∀k,fpT t' k->fpT t k\/w.heap.size<=k):aO w' v {D with ts:=D.ts.set i t'}:=by
 have r:t∈D.ts:=m▸AA hi;have C:lR (D.ts.set i t')=lR D.ts:=by
  unfold lR;apply DU;grind
 refine⟨f.heap h.box (h.noTx r),h.file.on (f.on (λk e=>⟨h.file.lies k e,λc=>h.txFile (h.each t r) k c e⟩)),?_,?_,?_⟩
 .show w'.ownsRow 0 _ 1 D.ov (D.ts.set i t').length (lR (D.ts.set i t'))
  rw[CL,C];exact eJ h.row f (λk e c=>h.txRow (h.each t r) k c e)
 .intro F n
  obtain⟨g,d,rfl⟩:=AV n;rw[CL]at d;rw[DN];split
  .exact y
  .next c =>
   have n:=h.each D.ts[g] (AA d);exact n.on (f.on (λk e=>⟨n.lies k e,λx=>Cn h.apart d hi (λj=>c j.symm) k e (m▸x)⟩))
 .refine BD.2 (λa b p q E=>?_)
  rw[CL]at p q;rw[DN,DN];have u:∀g (d:g<D.ts.length),g≠i->∀k,fpT t' k->¬fpT D.ts[g] k:=λg d B k o l=>by
   rcases A k o with s|s
   .exact Cn h.apart hi d (Ne.symm B) k (m.symm▸s) l
   .have:=(h.each D.ts[g] (AA d)).lies k l;omega
  split
  .next e1 =>
   split
   .omega
   .next j=>exact u b q (λc=>j c.symm)
  .next e1 =>
   split
   .next j=>exact λk o l=>u a p (λc=>e1 c.symm) k l o
   .exact Cn h.apart p q (by omega)
def Fz {D t t'}(hi:i<D.ts.length)(e:D.ts[i]=t)(d:∀k,fpT t' k->fpT t k\/w.heap.size<=k):aJ w (fpD D) (fpD {D with ts:=D.ts.set i t'}):=by
 rintro k (a|a|a|⟨f,b,a⟩)
 .exact .inl (.inl a)
 .exact .inl (.inr (.inl a))
 .exact .inl (.inr (.inr (.inl a)))
 .rcases EI b with b|rfl
  .exact .inl (.inr (.inr (.inr ⟨f,b,a⟩)))
  .exact(d k a).imp (λc=>.inr (.inr (.inr ⟨t,e▸AA hi,c⟩))) id
def bJ {β a t}(h:cW w β #[a] t):w.c β 0=some a:=by simp[World.cell?,h]
def qFe(D x i t key a y z n o w)(h:aO w 1 D)(aa:D.ts.length<=1000)(hi:i<D.ts.length)(s:D.ts[i]=t)(P:gG D.ts x=i)(a5:t.wr=true)(O:cF t.cs)(a2:t.cs.length<=1000000)(a3:1<=key.size)(a4:key.size<=24)(ab:a.size<=400)(F:cW w y #[.p D.d 0] 29)(G:cW w z #[.i x] 3)(H:cW w n #[.t key] 9)(I:cW w o #[.t a] 9):
  cL 37 #[.p y 0,.p z 0,.p n 0,.p o 0] w λe w'=>e=.r (.i 0)/\∃d f,aO w' 1 {D with ts:=D.ts.set i {t with cs:=dG t.cs ⟨key,a,false⟩,ca:=d,cc:=f}}/\Fr (fpD D) w w'/\aJ w (fpD D) (fpD {D with ts:=D.ts.set i {t with cs:=dG t.cs ⟨key,a,false⟩,ca:=d,cc:=f}}):=by
 have Z:=nY D 1 x i t w h (by omega) hi s P a5;have r:t∈D.ts:=s▸AA hi;have m:Hid (∀X,bW w X->aO X 1 D/\X.c y 0=some (.p D.d 0)/\X.c z 0=some (.i x)/\cW X n #[.t key] 9/\cW X o #[.t a] 9):=by
  intro X g;exact⟨h.on (vV g h.lies),bJ ((g.block _ (gL F)).t F),bJ ((g.block _ (gL G)).t G),(g.block _ (gL H)).t H,(g.block _ (gL I)).t I⟩
 obtain⟨_,A,B,b,c⟩:=m.o w (AC _ _);have j:=bJ b;have k:=bJ c;have V:∀X,cL 39 #[.t key] X λe w'=>e=.r (.bool true)/\w'=X:=λX=>by
  have:=iD key X;rw[CU (LQ a3 a4)]at this;exact this
 have S:Hid (∀X,cL 41 #[.t key] X λe w'=>e=.r (.t key)/\bW X w'):=λX=>rC key (by omega) X;have T:Hid (∀X,cL 41 #[.t a] X λe w'=>e=.r (.t a)/\bW X w'):=λX=>rC a (by omega) X;have R:Hid (∀X,aO X 1 D->cL 40 #[.p t.b 0,.agg #[.t key,.t a,.bool false]] X λe w'=>e=.r (.tuple #[])/\∃d f,eI w' D.β {t with cs:=dG t.cs ⟨key,a,false⟩,ca:=d,cc:=f}/\Fr (fpT t) X w'/\∀l,fpT {t with cs:=dG t.cs ⟨key,a,false⟩,ca:=d,cc:=f} l->fpT t l\/X.heap.size<=l):=λX g=>Gr t D.β ⟨key,a,false⟩ X (g.each t r) O a2;have ac:¬(400:Int)<(a.size:Int):=by omega
 have J:Hid (i<D.ts.length):=hi;have K:Hid (D.ts[i]=t):=s;clear F G H I h s P O;go_enter Tryz.func37,Tryz.ntmps37;go_wp2_with (first
  |(go_at_call 38;apply Calls.m Z;rintro e L ⟨rfl,C⟩;obtain⟨a7,A,B,b,c⟩:=m.o L C;have j:=bJ b;have k:=bJ c;have W:=V L)
  |(go_at_call 39;apply Calls.m W;rintro e U ⟨rfl,a9⟩;subst U))
 go_region_held3 (λX=>X.c n 0=some (.t key)/\X.c o 0=some (.t a))
  ((first|exact⟨j,k⟩|(simp[j,k])))
  (first
   |(go_at_call 41;apply Calls.m (S.o _);rintro e M ⟨rfl,a0⟩;have u:bW w M:=C.drew.t (a0.m C.size);obtain⟨a8,A,B,b,c⟩:=m.o M u;have j:=bJ b;have k:=bJ c)
   |(go_at_call 41;apply Calls.m (T.o _);rintro e X3 ⟨rfl,a1⟩;have v:bW w X3:=u.t (a1.m u.size);obtain⟨p,A,B,b,c⟩:=m.o X3 v;have j:=bJ b;have k:=bJ c)
   |(go_at_call 40;apply Calls.m (R.o _ p);rintro e a6 ⟨rfl,d,f,Y,q,N⟩;have Q:=p.retx J.o K.o Y rfl q N;have j:=bJ (q.heap b (wJ (p.each t r) b (by decide) (by decide)));have k:=bJ (q.heap c (wJ (p.each t r) c (by decide) (by decide)))))
 all_goals go_wp2
 all_goals go_ret
 all_goals
  refine⟨rfl,d,f,Q,(AB v).t (q.m (λl E=>.inl (.inr (.inr (.inr ⟨t,r,E⟩))))),λl E=>?_⟩;have:=Fz (w:=X3) J.o K.o N l E;exact this.imp id (λh=>vJ v.size h)
def qIz(D x i t key a w)(h:aO w 0 D)(C:D.ts.length<=1000)(hi:i<D.ts.length)(F:D.ts[i]=t)(I:gG D.ts x=i)(H:t.wr=true)(E:cF t.cs)(z:t.cs.length<=1000000)(A:1<=key.size)(B:key.size<=24)(G:a.size<=400):
  cL 13 #[.p D.d 0,.i x,.t key,.t a] w λe w'=>e=.r (.i 0)/\∃c d,aO w' 0 {D with ts:=D.ts.set i {t with cs:=dG t.cs ⟨key,a,false⟩,ca:=c,cc:=d}}/\Fr (fpD D) w w'/\aJ w (fpD D) (fpD {D with ts:=D.ts.set i {t with cs:=dG t.cs ⟨key,a,false⟩,ca:=c,cc:=d}}):=by
 obtain⟨b,f,l,q,J,K,L,-⟩:=al4 w (.cells #[.p D.d 0] 29) (.cells #[.i x] 3) (.cells #[.t key] 9) (.cells #[.t a] 9); have N:=(gL h.box);have M:=bJ q;have y:=Cx D 37 #[] #[.p w.heap.size 0,.p (w.heap.size+1) 0,.p (w.heap.size+1+1) 0,.p (w.heap.size+1+1+1) 0] (enters_of Tryz.func37 (by kernel_rfl) rfl) b (h.on (vV l h.lies)) (λr u=>r=0/\∃c d,u = {D with ts:=D.ts.set i {t with cs:=dG t.cs ⟨key,a,false⟩,ca:=c,cc:=d}}) (by
  intro s v j P;have k:∀g,w.heap.size<=g->¬Bl.one D.d g:=λg p e=>by cases e;omega
  apply(qFe D x i t key a _ _ _ _ s v C hi F I H E z A B G (j.heap q (k _ (by omega))) (j.heap J (k _ (by omega))) (j.heap K (k _ (by omega))) (j.heap L (k _ (by omega)))).m;grind)
 go_enter Tryz.func13,Tryz.ntmps13;go_wp2_with (go_at_call 32;apply Calls.m y;rintro e X ⟨r,u,rfl,m,O,n,o,rfl,c,d,rfl⟩);go_ret;exact⟨rfl,c,d,m,(AB l).t n,λg p=>(o g p).imp id (λh=>vJ l.size h)⟩
open Go.Shelf
attribute [local go_sem] CM
def qE{P:Program}{f:Func}{p q:Tmp}{c e:TypeId}(h:f.results=#[.cell p c,.cell q e])(b:Array Value)(w:World)(g a:Nat)(t t':TypeId)(cs:Array Value)(v:Value)(d:TypeDesc)(n:b.getD p undef=.p g 0)(r:b.getD q undef=.p a 0)(l:cW w g cs t)(m:cW w a #[v] t')(u:P.underlying c=some d)(k:(match d with|.struct _|.array _ _=>true|_=>false)=true)(hi:(P.info? c).map (·.size)=some cs.size)(x:∀w,(isAgg e).run P w=.ok false w):
  (results f b).run P w=.ok (.tuple #[.agg cs,v]) w:=by
 have o:b[p]?.getD undef=.p g 0:=by simp_all
 have s:b[q]?.getD undef=.p a 0:=by simp_all
 have i:w.c a 0=some v:=by simp[World.cell?,m]
 have j:(loadVar e (aD a 0)).run P w=.ok v w:=by
  simp[loadVar,x,go_sem,i]
 simp[results,h,o,s,asAddr,JH w g t c cs (0,0) d l u k hi,j]
abbrev rU:Obj:=.cells #[.string ⟨#[]⟩,.string ⟨#[]⟩,.int .i64 0,.int .i64 0] 69
abbrev yE(b:Bool):Obj:=.cells #[.bool b] 4
def Bz{w:World}{β a b c d t}(h:cW w β #[a,b,c,d] t):w.c β 0=some a/\w.c β 1=some b/\w.c β 2=some c/\w.c β 3=some d:=by
 simp[World.cell?,h]
def qHb(β root g f cs key S w)(B:aH w S g (cs.flatMap Ch.cells))(s:lW S w)(aa:cF cs)(aq:cs.length<=1000000)(a6:cs.length<=f)(T:fnd cs key=true)(i)(hi:dH cs key=i)(a8:i<cs.length)(c)(R:cs[i]=c):
  cL 47 #[.agg #[.p β 0,.i root,.s g cs.length f],.t key] w λe w'=>e=.r (.tuple #[.agg #[.t c.key,.t c.val,.i c.val.size,.i 0],.bool (!c.gone)])/\bW w w':=by
 obtain⟨a,n,r,al,ak,ai,au⟩:=al3 w (.cells #[.p β 0,.i root,.s g cs.length f] 90) rU (yE false); have P:=lQ g f cs key S a (B.on (vV r s)) (λb t=>jY (s b t) r.size) aa (by omega) a6;rw[T,hi]at P;have A:Hid (∀X,bW a X->X.c w.heap.size 2=some (.s g cs.length f)/\X.heap[w.heap.size+1]?=some rU/\X.heap[w.heap.size+1+1]?=some (yE false)/\bW w X/\∃b d,g=some (aD b d)/\b<w.heap.size/\X.c b (d+i * 3)=some (.t c.key)/\X.c b (d+i * 3+1)=some (.t c.val)/\X.c b (d+i * 3+2)=some (.bool c.gone)):=by
  intro X h;have t:=r.t (h.m r.size);have z:=(h.block _ (by omega)).t al;obtain⟨b,d,W,Y,K,L,M⟩:=(B.on (vV t s)).ch a8;rw[R]at K L M;exact⟨(eC z).2.2,(h.block _ (by omega)).t ak,(h.block _ (by omega)).t ai,t,b,d,W,s b Y,K,L,M⟩
 obtain⟨o,_,_,_,b,d,a7,ao,_⟩:=A.o a (AC _ _);subst a7;have H:Hid (∀X,bW a X->X.c w.heap.size 2=some (.s (some (aD b d)) cs.length f)/\X.heap[w.heap.size+1]?=some rU/\X.heap[w.heap.size+1+1]?=some (yE false)/\bW w X/\X.c b (d+i * 3)=some (.t c.key)/\X.c b (d+i * 3+1)=some (.t c.val)/\X.c b (d+i * 3+2)=some (.bool c.gone)):=by
  intro X h;obtain⟨z,Z,a0,a1,am,ar,O,an,a2⟩:=A.o X h;simp only[BB,CC,DD]at O;obtain⟨rfl,rfl⟩:=O;exact⟨z,Z,a0,a1,a2⟩
 have a3:=λX=>Kk c X;have ap:(i:Int)<(cs.length:Int):=by omega
 go_enter Tryz.func47,Tryz.ntmps47;go_wp2_with (go_at_call 96;(with_reducible refine Calls.m P ?_);rintro e V ⟨rfl,C⟩;obtain⟨o,l,j,D,u,x,y⟩:=H.o V C);obtain⟨ad,ae,af,ag⟩:=Bz l;have ah:=aA l;have ab:=bJ j;have ac:=aA j;go_region_held3 (λX=>X.c w.heap.size 2=some (.s (some (aD b d)) cs.length f)/\X.c b (d+i * 3)=some (.t c.key)/\X.c b (d+i * 3+1)=some (.t c.val)/\X.c b (d+i * 3+2)=some (.bool c.gone))
  ((first|(with_reducible exact⟨o,u,x,y⟩)|(refine⟨?_,?_,?_,?_⟩<;>(repeat (with_reducible refine cH (by omega) ?_))<;>(first|(with_reducible exact o)|(with_reducible exact u)|(with_reducible exact x)|(with_reducible exact y)))|(simp[o,u,x,y])))
  (first
   |(go_at_call 97;(with_reducible refine Calls.m (a3 _) ?_);rintro e m ⟨rfl,a4⟩;have U:bW a m:=C.drew.t (a4.m C.size);obtain⟨o,l,j,D,u,x,y⟩:=H.o m U;obtain⟨ad,ae,af,ag⟩:=Bz l;have ah:=aA l;have ab:=bJ j;have ac:=aA j))
 all_goals
  have F:=aB (aB (aB (aB l 0 (.t c.key)) 1 (.t c.val)) 2 (.i c.val.size)) 3 (.i 0);obtain⟨X3,Q⟩:=nM ((((m.setCell (aD (w.heap.size+1) 0) (.t c.key)).setCell (aD (w.heap.size+1) 1) (.t c.val)).setCell (aD (w.heap.size+1) 2) (.i c.val.size)).setCell (aD (w.heap.size+1) 3) (.i 0));rw[Q]at F⊢;have N:Fr (Bl.one (w.heap.size+1)) m X3:=Q▸((((AE (Bl.one (w.heap.size+1)) m).setCell (p:=(aD (w.heap.size+1) 0)) (.inl rfl) _).setCell (p:=(aD (w.heap.size+1) 1)) (.inl rfl) _).setCell (p:=(aD (w.heap.size+1) 2)) (.inl rfl) _).setCell (p:=(aD (w.heap.size+1) 3)) (.inl rfl) _;have aj:=N.heap j (oN (by omega));have E:bW w (X3.setCell (aD (w.heap.size+1+1) 0) (.bool (!c.gone))):=(D.t (N.below D.size (oK (by omega)))).setCell (p:=(aD (w.heap.size+1+1) 0)) (by show w.heap.size<=w.heap.size+1+1;omega) _;have I:=aB aj 0 (.bool (!c.gone));have G:(X3.setCell (aD (w.heap.size+1+1) 0) (.bool (!c.gone))).heap[w.heap.size+1]?=some (.cells #[.t c.key,.t c.val,.i c.val.size,.i 0] 69):=((AE (Bl.one (w.heap.size+1+1)) X3).setCell (p:=(aD (w.heap.size+1+1) 0)) (.inl rfl) _).heap (by simpa using F) (oN (by omega));obtain⟨J,a5⟩:=nM (X3.setCell (aD (w.heap.size+1+1) 0) (.bool (!c.gone)));rw[a5]at I G E⊢;go_wp2;refine BI (v:=.tuple #[.agg #[.t c.key,.t c.val,.i c.val.size,.i 0],.bool (!c.gone)]) ?_ rfl ⟨rfl,E⟩;exact qE (p:=4) (q:=5) rfl _ _ (w.heap.size+1) (w.heap.size+1+1) _ _ _ _ _ rfl rfl G (by simpa using I) Tryz.underlying69 rfl (by kernel_rfl) (λw=>by kernel_rfl)
def qHe{P n i a R B f w}{p q:Nat}{e j}(u:i.results=#[.cell p e,.cell q j])(g b t t' cs v d)(r:a.getD p undef=.p g 0)(s:a.getD q undef=.p b 0)(l:cW w g cs t)(m:cW w b #[v] t')(x:P.underlying e=some d)(k:(match d with|.struct _|.array _ _=>true|_=>false)=true)(hi:(P.info? e).map (·.size)=some cs.size)(y:∀w,(isAgg j).run P w=.ok false w)(o:Marks B f w)(h:∀w',mP B w w'->R (.r (.tuple #[.agg cs,v])) w'):
  LeavesInM Fence.wide n P i a R f .returning w :=
 iR (by simp) o (λw' c=>⟨_,qE u a w' g b t t' cs v d r s (c.cells _ _ _ _ l) (c.cells _ _ _ _ m) x k hi y,h w' c⟩)
abbrev qKa(x:En):Obj:=.cells #[.string x.e.key,.string x.e.val,.int .i64 x.e.size,.int .i64 x.e.over] 69
def oP(key:ByteArray):Sp:=⟨key,key++⟨#[0]⟩⟩
def qCr(β sv lv fs)(root s t cs key o)(b7:o≠none->(fs.life==0)=false)(ba:bQ fs root o)(S w)(a6:aF w β sv lv fs)(b0:aH w S s (cs.flatMap Ch.cells))(af:lW S w)(ak:cF cs)(bt:cs.length<=1000000)(Q:cs.length<=t)(b5:fnd cs key=false)(f:key.size<=1000):
  cL 47 #[.agg #[.p β 0,.i root,.s s cs.length t],.t key] w λe w'=>∃F:Ent,e=.r (.tuple #[.agg #[.t F.key,.t F.val,.i F.size,.i F.over],.bool (!(cU (oP key) o).isEmpty)])/\(∀x xs,cU (oP key) o=x :: xs->F=x.e)/\bW w w':=by
 obtain⟨J,K,M,au,bm,bj,c2⟩:=al3 w (.cells #[.p β 0,.i root,.s s cs.length t] 90) rU (yE false); have a4:=lQ s t cs key S J (b0.on (vV M af)) (λb b3=>jY (af b b3) M.size) ak (by omega) Q;rw[b5]at a4;obtain⟨C,b6⟩:=nM (dH cs key);rw[b6]at a4;obtain⟨an,ap,aq⟩:=eC au;have ax:Hid (cU (oP key) o=cU ⟨key,key++⟨#[0]⟩⟩ o):=rfl;have b1:=λX=>sL root β s cs.length t ⟨key,key++⟨#[0]⟩⟩ X;refine(AZ (n:=0)).1 (BX Tryz.func47 rfl trivial ?_ rfl);simp only[Tryz.ntmps47,jA,jB,jN,Nat.reduceAdd,Nat.reduceSub,jR,jO,jP,jT,jE,jF];gi_wp2_with (first
  |(refine⟨trivial,rfl,?_⟩;gi_at_call 96;refine(AZ.2 a4).m ?_;rintro e H ⟨rfl,a5⟩;have bo:=(a5.block _ (show w.heap.size<J.heap.size by omega)).t au;obtain⟨an,ap,aq⟩:=eC bo;have ag:=b1 H)
  |(refine⟨trivial,rfl,?_⟩;gi_at_call 98;refine(AZ.2 ag).m ?_;clear ag;rintro e A ⟨rfl,aw,av,ai⟩))
 have bq:=a5.size;have c3:=ai.size;have T:bW J A:=a5.t (ai.m bq);have U:bW w A:=M.t (T.m M.size);have bn:=(T.block _ (show w.heap.size+1<J.heap.size by omega)).t bm;have bk:=(T.block _ (show w.heap.size+1+1<J.heap.size by omega)).t bj;have b4:aF A β sv lv fs:=a6.on (vV U a6.lies);have bv:=(gL aw);have bw:=(gL av);let Rd:Bl:=λa=>a=H.heap.size\/a=H.heap.size+1\/fpF β sv lv a;have am:=Ag β sv lv fs root s cs.length t ⟨key,key++⟨#[0]⟩⟩ o b7 ba H.heap.size (H.heap.size+1) Rd A aw av b4 (.inl rfl) (.inr (.inl rfl)) (λa f=>.inr (.inr f));obtain⟨xs,ao⟩:=nM (cU ⟨key,key++⟨#[0]⟩⟩ o);have N:Hid (cU (oP key) o=xs):=ax.o.t ao;rw[ao]at am;let N1:=w.heap.size+1;let N2:=w.heap.size+1+1;let I:List En->Bl->World->Prop:=λk u W=>k=[]/\W.heap[N1]?=some rU/\W.heap[N2]?=some (yE false)/\(∀a,u a↔a=N1\/a=N2);let Ix:Code->List En->Bl->World->Prop:=λc k u W=>c=.ret/\∃x,k=[x]/\W.heap[N1]?=some (qKa x)/\W.heap[N2]?=some (yE true)/\(∀a,u a↔a=N1\/a=N2);refine fI (P:=Tryz.prog) (Has:=pL) (Rd:=Rd) rfl (enters_of Tryz.func134 (by kernel_rfl) rfl) am (λx Y S W a3=>by rw[show Y=_ from a3];rfl) I Ix ?_ ?_ ?_ ?_ (λa=>a=N1\/a=N2) ⟨rfl,bn,bk,λa=>FT⟩ ?_ ?_ ?_ ?_
 .rintro k u R B ⟨G,h,i,g⟩ L
  exact⟨G,L.heap h ((g _).2 (.inl rfl)),L.heap i ((g _).2 (.inr rfl)),g⟩
 .rintro c k u R B ⟨Q,x,G,h,i,g⟩ L
  exact⟨Q,x,G,L.heap h ((g _).2 (.inl rfl)),L.heap i ((g _).2 (.inr rfl)),g⟩
 .rintro k u R ⟨G,h,i,g⟩ a f
  rcases(g a).1 f with rfl|rfl
  .exact(gL h)
  .exact(gL i)
 .rintro c k u R ⟨Q,x,G,h,i,g⟩ a f
  rcases(g a).1 f with rfl|rfl
  .exact(gL h)
  .exact(gL i)
 .rintro a (rfl|rfl|f)
  .exact⟨λd=>by simp only[N1,N2]at d;omega,by omega⟩
  .exact⟨λd=>by simp only[N1,N2]at d;omega,by omega⟩
  .have:=a6.lies a f
   exact⟨λd=>by simp only[N1,N2]at d;omega,by omega⟩
 .rintro l k x bl Y S V W bb ⟨rfl,h,i,g⟩ a3 br E ae bs b8 aj ⟨r,ak⟩
  have az:Y=#[.agg #[.t x.e.key,.t x.e.val,.i x.e.size,.i x.e.over]]:=a3;subst az;clear bb;unfold iY;gi_wp2;refine⟨(AE _ W).alloc _,?_⟩;intro z ah;have bp:=ah.heap (k:=W.heap.size) (aC W (qKa x)) (DL b8);obtain⟨an,ap,aq,bx⟩:=kA bp;have ay:Fr Bl.none W (W.alloc (qKa x)):=(AE _ W).alloc _;have ad:Fr (Bl.one l) W z:=(ay.m (λ_ d=>d.elim)).t ah.fr;have j:z.heap[w.heap.size+1]?=some rU:=ad.heap h (λd=>by simp only[Bl.one]at d;exact aj ((g _).2 (.inl d.symm)));have m:z.heap[w.heap.size+1+1]?=some (yE false):=ad.heap i (λd=>by simp only[Bl.one]at d;exact aj ((g _).2 (.inr d.symm)));obtain⟨be,bf,bg,bh⟩:=Bz j;have bc:=bJ m;have bi:=aA j;have bd:=aA m;have bz:w.heap.size+1<W.heap.size:=(gL h);have c0:w.heap.size+1+1<W.heap.size:=(gL i);have a9:=aB (aB (aB (aB j 0 (.t x.e.key)) 1 (.t x.e.val)) 2 (.i x.e.size)) 3 (.i x.e.over);obtain⟨X3,O⟩:=nM ((((z.setCell (aD (w.heap.size+1) 0) (.t x.e.key)).setCell (aD (w.heap.size+1) 1) (.t x.e.val)).setCell (aD (w.heap.size+1) 2) (.i x.e.size)).setCell (aD (w.heap.size+1) 3) (.i x.e.over));have Z:Fr (Bl.one (w.heap.size+1)) z X3:=O▸((((AE (Bl.one (w.heap.size+1)) z).s (w.heap.size+1) 0).s (w.heap.size+1) 1).s (w.heap.size+1) 2).s (w.heap.size+1) 3;have ar:=Z.heap m (oN (by omega));have ac:=aB ar 0 (.bool true);have a0:Fr (Bl.one (w.heap.size+1+1)) X3 (X3.setCell (aD (w.heap.size+1+1) 0) (.bool true)):=(AE (Bl.one (w.heap.size+1+1)) X3).s (w.heap.size+1+1) 0;have aa:(X3.setCell (aD (w.heap.size+1+1) 0) (.bool true)).heap[w.heap.size+1]?=some (qKa x):=a0.heap (by rw[<-O];simpa using a9) (oN (by omega));have ab:Hid (qKz I Ix ([]++[x]) V z .ret {tmps:=#[],defers:=[]} (X3.setCell (aD (w.heap.size+1+1) 0) (.bool true))):=by
   refine⟨λa=>a=N1\/a=N2,⟨rfl,x,rfl,aa,by simpa using ac,λa=>FT⟩,?_,?_⟩
   .refine(Z.m (λa f=>.inl ((g a).2 (.inl (by simp only[Bl.one]at f;exact f))))).t (a0.m (λa f=>.inl ((g a).2 (.inr (by simp only[Bl.one]at f;exact f)))))
   .rintro a (rfl|rfl)
    .exact .inl ((g _).2 (.inl rfl))
    .exact .inl ((g _).2 (.inr rfl))
  rw[<-O]at ab;clear a9 ac aa Z a0 ar O;gi_wp2;exact ab.o
 .rintro D V W a1 b2 ⟨rfl,h,i,g⟩ E ae a2
  have j:W.heap[w.heap.size+1]?=some rU:=h;have m:W.heap[w.heap.size+1+1]?=some (yE false):=i;obtain⟨be,bf,bg,bh⟩:=Bz j;have bc:=bJ m;have bi:=aA j;have bd:=aA m;have a7:Marks w.heap.size [mk D] W:=(FQ w.heap.size A).cons (λD' _ d=>E.heap d (λe=>by rcases e with rfl|rfl<;>simp_all[N1,N2])) (by omega) a2 a1;gi_wp2;rw[dI j (i:=0) (v:=.e) rfl,dI j (i:=1) (v:=.e) rfl,dI j (i:=2) (v:=.i 0) rfl,dI j (i:=3) (v:=.i 0) rfl,dI m (i:=0) (v:=.bool false) rfl];refine qHe (p:=4) (q:=5) rfl (w.heap.size+1) (w.heap.size+1+1) _ _ _ _ _ rfl rfl j m Tryz.underlying69 rfl (by kernel_rfl) (λw=>by kernel_rfl) a7 ?_;intro w' a8;refine⟨⟨⟨#[]⟩,⟨#[]⟩,0,0⟩,by rw[N.o];rfl,λx xs d=>(by rw[N.o]at d;cases d),?_⟩;exact(((AB U).t (E.m (λa f=>.inl f))).took a8 (jU _)).below (jU _) (λa f=>by rcases f with rfl|rfl<;>simp only[N1,N2]<;>omega)
 .rintro D c k V W a1 b2 b9 bu ⟨rfl,x,rfl,h,i,g⟩ E ae a2
  have j:=h;have m:=i;have a7:Marks w.heap.size [mk D] W:=(FQ w.heap.size A).cons (λD' _ d=>E.heap d (λe=>by rcases e with rfl|rfl<;>simp_all[N1,N2])) (by omega) a2 a1;obtain⟨bl,al⟩:=b9;gi_wp2;refine qHe (p:=4) (q:=5) rfl (w.heap.size+1) (w.heap.size+1+1) _ _ _ _ _ rfl rfl j m Tryz.underlying69 rfl (by kernel_rfl) (λw=>by kernel_rfl) a7 ?_;intro w' a8;refine⟨x.e,by rw[N.o,<-al];rfl,λy c1 d=>(by rw[N.o,<-al]at d;simp at d;rw[d.1]),?_⟩;exact(((AB U).t (E.m (λa f=>.inl f))).took a8 (jU _)).below (jU _) (λa f=>by rcases f with rfl|rfl<;>simp only[N1,N2]<;>omega)
def kI(o:Option (Nat×T))(cs:List Ch)(key:ByteArray):Bool:=if fnd cs key=true then (match cs[dH cs key]? with|some c=>!c.gone|none=>false) else !(cU (oP key) o).isEmpty
def Ra(β sv lv fs)(root f g cs key o)(t:fnd cs key=false->o≠none->(fs.life==0)=false)(u:bQ fs root o)(S w)(q:aF w β sv lv fs)(l:aH w S f (cs.flatMap Ch.cells))(m:lW S w)(k:cF cs)(n:cs.length<=1000000)(d:cs.length<=g)(s:key.size<=1000):
  cL 47 #[.agg #[.p β 0,.i root,.s f cs.length g],.t key] w λe w'=>∃a:Ent,e=.r (.tuple #[.agg #[.t a.key,.t a.val,.i a.size,.i a.over],.bool (kI o cs key)])/\(fnd cs key=true->∀c,cs[dH cs key]?=some c->a=(chE c).e)/\(fnd cs key=false->∀x xs,cU (oP key) o=x :: xs->a=x.e)/\bW w w':=by
 by_cases hf':fnd cs key=true
 .have⟨i,_⟩:=tL hf' k
  apply(qHb β root f g cs key S w l m k n d hf' _ rfl i _ rfl).m;rintro e w' ⟨rfl,b⟩;refine⟨(chE cs[dH cs key]).e,?_,λ_ c d=>?_,(λh=>by grind),b⟩
  .unfold kI
   rw[AU hf',jQ i];rfl
  grind
 .have j:fnd cs key=false:=by grind
  apply(qCr β sv lv fs root f g cs key o (t j) u S w q l m k n d j s).m;rintro e w' ⟨a,rfl,p,b⟩;refine⟨a,?_,λh=>absurd h hf',λ_=>p,b⟩;unfold kI;rw[AR hf']
variable {fs:Fs}
def qCc(key k):(oP key).has k=true↔k=key:=by
 have d:(key++(⟨#[0]⟩:ByteArray)).toList=key.toList++[0]:=by
  rw[ByteArray.toList_eq,ByteArray.toList_eq];simp
 have f:(key++(⟨#[0]⟩:ByteArray))≠⟨#[]⟩:=λe=>by
  simp_all
 constructor
 .intro b
  simp only[oP,Sp.has,AP,gD]at b;rcases b.2 with a|a
  .grind
  .unfold lt at a
   rw[d]at a;rcases Zm _ _ a with c|c
   .have:=El.2 b.1
    rw[show lt k key=true from c]at this;cases this
   .exact iM c
 .rintro rfl
  simp only[oP,Sp.has,AP,gD];refine⟨bD _,.inr ?_⟩;unfold lt;rw[d];exact Zl _
def gO {root o}(b:bQ fs root o)(d:pM o):∀x∈aU o,x.good fs:=λx a=>by
 cases o with
 |none=>cases a
 |some p =>
  have⟨c,e⟩:=p;exact(nX b.2.2).2 x a
def Cs {x:En}(h:x.good fs):x.ok fs/\(x.e.over≠0->x.e.size≠0):=by
 obtain⟨_,_,⟨a,b,d,c⟩|⟨_,_,g,e,a,b,d,c,f⟩⟩:=h
 .exact⟨⟨x.e.val.size,0,d,a,c,.inl ⟨rfl,b⟩⟩,λh=>absurd a h⟩
 .refine⟨⟨g,e,a,b,c,?_⟩,λ_=>by rw[a];omega⟩
  rcases JJ e with rfl|h
  .rename_i hp
   rw[b]at hp;simp[bI]at hp
  grind
def sB(o:Option (Nat×T))(cs:List Ch)(key:ByteArray):Option (List UInt8):=valOf (bF (aU o) cs) key
def Kf {root o cs key f}(h:bQ fs root o)(u:pM o)(d:cF cs)(s:∀c∈cs,c.good)(p:fnd cs key=true->∀c,cs[dH cs key]?=some c->f=(chE c).e)(q:fnd cs key=false->∀x xs,cU (oP key) o=x :: xs->f=x.e):
  (kI o cs key=false/\sB o cs key=none)\/∃X:En,X.good fs/\f=X.e/\kI o cs key=true/\sB o cs key=some X.value:=by
 unfold sB;rw[qFm (eL h) d];cases hfd:fnd cs key with
 |true =>
  have⟨a,g⟩:=tL hfd d;have v:cs.find? (λc=>decide (c.key=key))=some (cs[dH cs key]):=by
   cases hq:cs.find? (λc=>decide (c.key=key)) with
   |none=>grind
   |some c =>
    have j:c.key=key:=by grind
    obtain⟨i,l,rfl⟩:=AV (EZ hq);rcases GT i (dH cs key) with b|b|b
    .have:=BD.1 d i _ l a b
     rw[j,g,cI]at this;cases this
    .subst b;rfl
    .have:=BD.1 d _ i a l b
     rw[j,g,cI]at this;cases this
  rw[v];simp only;unfold kI;rw[AU hfd,jQ a];cases hgo:(cs[dH cs key]).gone with
  |true=>grind
  |false=>right;exact⟨chE _,Sq (s _ (AA a)),p hfd _ (jQ a),by simp[hgo],by rfl⟩
 |false =>
  have z:cs.find? (λc=>decide (c.key=key))=none:=by
   refine LG.2 λc t=>?_;simp only[BT];intro n;have:=(Ct d key).2 ⟨c,t,n⟩;grind
  rw[z];simp only;unfold kI;rw[AR (by grind)];have e:=vM h (oP key);have w:(aU o).filter (λx=>(oP key).has x.e.key)=(aU o).filter (λx=>decide (x.e.key=key)):=List.filter_congr (λx _=>by
   rw[FC,qCc];simp)
  rw[w]at e;unfold valOf;cases hl:cU (oP key) o with
  |nil =>
   simp_all
  |cons x xs =>
   right;have k:(aU o).find? (λx=>decide (x.e.key=key))=some x:=by
    rw[<-List.head?_filter,<-e,hl];rfl
   exact⟨x,gO h u x (EZ k),q hfd x xs hl,rfl,by rw[k];rfl⟩
def qMd(D:Db)(i:Nat)(t:Tx)(o:Option (Nat×T))(key:ByteArray)(z:Int)(D':Db):Prop :=
  (kI o t.cs key=true/\z=0/\∃ca' cc',D' = {D with ts:=D.ts.set i {t with cs:=dG t.cs ⟨key,⟨#[]⟩,true⟩,ca:=ca',cc:=cc'}})\/(kI o t.cs key=false/\z=5/\D'=D)
def qHn(D x i t o key b0 b1 b2 w)(h:aO w 1 D)(hal:fnd t.cs key=false->o≠none->(D.fs.life==0)=false)(hro:bQ D.fs t.root o)(hn:D.ts.length≤1000)(hi:i<D.ts.length)(ht:D.ts[i]=t)(hx:gG D.ts x=i)(hw:t.wr=true)(hr:cF t.cs)(hcs:t.cs.length≤1000000)(hk1:1≤key.size)(hk2:key.size≤24)(x0:cW w b0 #[.p D.d 0] 29)(x1:cW w b1 #[.i x] 3)(x2:cW w b2 #[.t key] 9):
    cL 107 #[.p b0 0,.p b1 0,.p b2 0] w λe w'=>∃ z D',e=.r (.i z)∧aO w' 1 D'∧D'.d=D.d∧Fr (fpD D) w w'∧aJ w (fpD D) (fpD D')∧qMd D i t o key z D':=by
  have hWr:=nY D 1 x i t w h (by omega) hi ht hx hw;have hm:t∈D.ts:=ht▸AA hi;have HK:Hid (∀ X,bW w X→aO X 1 D∧X.c b0 0=some (.p D.d 0)∧X.c b1 0=some (.i x)∧cW X b2 #[.t key] 9∧X.c t.b 2=some (.p D.β 0)∧X.c t.b 3=some (.i t.root)∧X.c t.b 4=some (.s t.ca t.cs.length t.cc)):=by
    intro X hX;have hD:=h.on (vV hX h.lies);obtain⟨q0,q1,q2,q3,q4,q5⟩:=qA (hD.each t hm).box;exact⟨hD,bJ ((hX.block _ (gL x0)).t x0),bJ ((hX.block _ (gL x1)).t x1),(hX.block _ (gL x2)).t x2,q2,q3,q4⟩
  obtain⟨_,c0,c1,y2,q2,q3,q4⟩:=HK.o w (AC _ _);have c2:=bJ y2;have hKy:∀ X,cL 39 #[.t key] X λe w'=>e=.r (.bool true)∧w'=X:=λX=>by
    have:=iD key X;rw [CU (LQ hk1 hk2)] at this;exact this
  obtain⟨fb,hfb⟩:=nM (kI o t.cs key);have HFi:Hid (∀ X,aO X 1 D→cL 47 #[.agg #[.p D.β 0,.i t.root,.s t.ca t.cs.length t.cc],.t key] X λe w'=>∃ E:Ent,e=.r (.tuple #[.agg #[.t E.key,.t E.val,.i E.size,.i E.over],.bool fb])∧bW X w'):=λX hX=>by
    obtain⟨a0,cc0,he,hcc,hrow⟩:=bR (hX.each t hm).row;simp only [Tx.cv,AQ,CV] at he;obtain⟨e1,e2⟩:=he;subst e1 e2;refine(Ra D.β D.sv D.lv D.fs t.root t.ca t.cc t.cs key o hal hro (λk=>t.cv.ownBlock=some k) X hX.file hrow (λk hk=>aK (hX.each t hm).row hk) hr hcs hcc (by omega)).m ?_;rintro e w' ⟨E,rfl,_,_,hb⟩;exact⟨E,by rw [hfb],hb⟩
  have HCk:Hid (∀ X,cL 41 #[.t key] X λe w'=>e=.r (.t key)∧bW X w'):=λX=>rC key (by omega) X;have HCh:Hid (∀ X,aO X 1 D→cL 40 #[.p t.b 0,.agg #[.t key,.e,.bool true]] X λe w'=>e=.r (.tuple #[])∧∃ ca' cc',eI w' D.β { t with cs:=dG t.cs ⟨key,⟨#[]⟩,true⟩,ca:=ca',cc:=cc' }∧Fr (fpT t) X w'∧∀ k,fpT { t with cs:=dG t.cs ⟨key,⟨#[]⟩,true⟩,ca:=ca',cc:=cc' } k→fpT t k∨X.heap.size≤k):=λX hX=>Gr t D.β ⟨key,⟨#[]⟩,true⟩ X (hX.each t hm) hr hcs;have HHI:Hid (i<D.ts.length):=hi;have HTI:Hid (D.ts[i]=t):=ht;have HFB:Hid (kI o t.cs key=fb):=hfb;go_enter Tryz.func107,Tryz.ntmps107;go_wp2_with (first
    | (go_at_call 38;apply Calls.m hWr;rintro e X1 ⟨rfl,hX1⟩;obtain⟨hD1,c0,c1,y2,q2,q3,q4⟩:=HK.o X1 hX1;have c2:=bJ y2;have hKy1:=hKy X1)
    | (go_at_call 39;apply Calls.m hKy1;rintro e X1' ⟨rfl,hX1'⟩;subst X1'))
  have HS:Hid (∀ X,bW w X→X.c b2 0=some (.t key)∧X.c t.b 2=some (.p D.β 0)∧X.c t.b 3=some (.i t.root)∧X.c t.b 4=some (.s t.ca t.cs.length t.cc)):=λX hX=>by
    obtain⟨_,_,_,y2,q2,q3,q4⟩:=HK.o X hX;exact⟨bJ y2,q2,q3,q4⟩
  have zX1:=hX1.size;go_region_held3 (λX=>X.c b2 0=some (.t key)∧X.c t.b 2=some (.p D.β 0)∧X.c t.b 3=some (.i t.root)∧X.c t.b 4=some (.s t.ca t.cs.length t.cc))
    ((refine HS.o _ ?_;(repeat (first|exact hX1|exact B2|(refine JM ?_)|(refine KY ?_ (by first|omega|(simp;omega)) _)|(refine JQ ?_ (by first|omega|(simp;omega)|(show w.heap.size≤X2.heap.size;omega)|(show w.heap.size≤X1.heap.size;omega)) _)))))
    (first
      | (go_at_call 47;(with_reducible refine Calls.m (HFi.o _ (HK.o _ ?_).1) ?_);(first|exact hX1.drew|exact hX1|exact(hX1.alloc zX1 _).drew|exact hX1.drew.alloc zX1 _);rintro e X2 ⟨E,rfl,hX2⟩;have B2:bW w X2:=(by first|exact hX1.drew.t (hX2.m zX1)|exact(hX1.alloc zX1 _).drew.t (hX2.m (by simp;omega)));have zX2:=B2.size;have xE:=aC X2 rU;obtain⟨g0,g1,g2,g3⟩:=Bz xE;have gfr:=aA xE;try (have xF:X2.heap[X1.heap.size]?=some rU:=(hX2.block _ (by simp)).t (by first|exact aC X1 rU|exact aC X1.drew rU);obtain⟨g0,g1,g2,g3⟩:=Bz xF;have gfr:=aA xF)))
  all_goals
    clear hKy1 hWr;first
      | (obtain⟨X3,hX3⟩:=nM (X2.alloc (.cells #[.t E.key,.t E.val,.i E.size,.i E.over] 69))
         rw [hX3];have B3:bW w X3:=hX3▸B2.alloc zX2 _;clear hX3)
      | (obtain⟨X3,hX3⟩:=nM ((((X2.setCell (aD X1.heap.size 0) (.t E.key)).setCell (aD X1.heap.size 1) (.t E.val)).setCell (aD X1.heap.size 2) (.i E.size)).setCell (aD X1.heap.size 3) (.i E.over))
         rw [hX3];have B3:bW w X3:=hX3▸((((B2.setCell (p:=(aD X1.heap.size 0)) zX1 _).setCell (p:=(aD X1.heap.size 1)) zX1 _).setCell (p:=(aD X1.heap.size 2)) zX1 _).setCell (p:=(aD X1.heap.size 3)) zX1 _);clear hX3)
    clear g0 g1 g2 g3 gfr xE;obtain⟨hD3,c0,c1,y2,q2,q3,q4⟩:=HK.o X3 B3;have c2:=bJ y2;have hCl:=HCk.o X3;cases fb with
    | false =>
      go_wp2;go_ret;exact⟨5,D,rfl,hD3,rfl,AB B3,CR _ _,.inr ⟨HFB.o,rfl,rfl⟩⟩
    | true =>
      go_wp2_with (first
        | (go_at_call 41;apply Calls.m hCl;rintro e X4 ⟨rfl,hX4⟩;have B4:bW w X4:=B3.t (hX4.m B3.size);obtain⟨hD4,c0,c1,y2,q2,q3,q4⟩:=HK.o X4 B4;have hCg:=HCh.o X4 hD4)
        | (go_at_call 40;apply Calls.m hCg;rintro e X5 ⟨rfl,ca',cc',hT5,hF5,hG5⟩))
      go_ret;refine⟨0,_,rfl,hD4.retx HHI.o HTI.o hT5 rfl hF5 hG5,rfl,(AB B4).t (hF5.m (λk hk=>.inl (.inr (.inr (.inr ⟨t,hm,hk⟩))))),λk hk=>?_,.inl ⟨HFB.o,rfl,ca',cc',rfl⟩⟩;have:=Fz (w:=X4) HHI.o HTI.o hG5 k hk;exact this.imp id (λh=>vJ B4.size h)
def Wu(D x i t o key w)(h:aO w 0 D)(v:fnd t.cs key=false->o≠none->(D.fs.life==0)=false)(r:bQ D.fs t.root o)(p:D.ts.length<=1000)(hi:i<D.ts.length)(H:D.ts[i]=t)(J:gG D.ts x=i)(u:t.wr=true)(F:cF t.cs)(y:t.cs.length<=1000000)(B:1<=key.size)(C:key.size<=24):
    cL 71 #[.p D.d 0,.i x,.t key] w λe w'=>∃z D',e=.r (.i z)/\aO w' 0 D'/\D'.d=D.d/\Fr (fpD D) w w'/\aJ w (fpD D) (fpD D')/\qMd D i t o key z D':=by
  obtain⟨a,c,d,k,K,L,-⟩:=al3 w (.cells #[.p D.d 0] 29) (.cells #[.i x] 3) (.cells #[.t key] 9);  have I:=(gL h.box);have M:=bJ k;have E:=Cx D 107 #[] #[.p w.heap.size 0,.p (w.heap.size+1) 0,.p (w.heap.size+1+1) 0] (enters_of Tryz.func107 (by kernel_rfl) rfl) a (h.on (vV d h.lies)) (qMd D i t o key) (by
    intro l A f N;have g:∀b,w.heap.size<=b->¬Bl.one D.d b:=λb j e=>by cases e;omega
    exact qHn D x i t o key _ _ _ l A v r p hi H J u F y B C (f.heap k (g _ (by omega))) (f.heap K (g _ (by omega))) (f.heap L (g _ (by omega))))
  go_enter Tryz.func71,Tryz.ntmps71;go_wp2_with (go_at_call 32;apply Calls.m E;rintro e X ⟨z,D',rfl,n,m,q,s,G⟩);go_ret;exact⟨z,D',rfl,n,m,(AB d).t q,λb j=>(s b j).imp id (λh=>vJ d.size h),G⟩
abbrev Db.drop(D:Db)(i g c:Nat):Db:={D with ov:=.slice (some (aD g 0)) (D.ts.length-1) c,ts:=D.ts.eraseIdx i}
def Ga{D i g c}(d:D.ov=.q g D.ts.length c):∀k,fpD (D.drop i g c) k->fpD D k:=by
 rintro k (a|a|a|⟨f,e,a⟩)
 .exact .inl a
 .exact .inr (.inl a)
 .exact .inr (.inr (.inl (by rw[d];exact a)))
 .exact .inr (.inr (.inr ⟨f,List.mem_of_mem_eraseIdx e,a⟩))
def qMr(D x i t m n w)(h:aO w 1 D)(u:D.ts.length<=1000)(hi:i<D.ts.length)(y:D.ts[i]=t)(s:gG D.ts x=i)(R:Int->Db->Prop)(q:∀X g c,D.ov=.q g D.ts.length c->aO X 1 (D.drop i g c)->eI X D.β t->cL 44 #[.p D.d 0,.p t.b 0] X λe w'=>∃z D',e=.r (.i z)/\aO w' 1 D'/\D'.d=D.d/\Fr (fpD (D.drop i g c)) X w'/\aJ X (fpD (D.drop i g c)) (fpD D')/\R z D')(f:cW w m #[.p D.d 0] 29)(A:cW w n #[.i x] 3):
  cL 42 #[.p m 0,.p n 0] w λe w'=>∃z D',e=.r (.i z)/\aO w' 1 D'/\D'.d=D.d/\Fr (fpD D) w w'/\aJ w (fpD D) (fpD D')/\R z D':=by
 have L:=Mm D 1 x i t w h (by omega) hi y s;have C:Hid (∀X g c,D.ov=.q g D.ts.length c->aO X 1 (D.drop i g c)->eI X D.β t->cL 44 #[.p D.d 0,.p t.b 0] X λe w'=>∃z D',e=.r (.i z)/\aO w' 1 D'/\D'.d=D.d/\Fr (fpD (D.drop i g c)) X w'/\aJ X (fpD (D.drop i g c)) (fpD D')/\R z D'):=q;have B:Hid (∀X,Fr (λa=>a=D.d\/D.ov.ownBlock=some a) w X->X.c m 0=some (.p D.d 0)):=λX P=>bJ (P.heap f (λe=>by
  rcases e with e|e
  .have:=h.box;rw[<-e,f]at this;simp at this
  .exact aP h.row f (by decide) e))
 have Q:=bJ f;have T:=bJ A;clear h f A s q y hi;go_enter Tryz.func42,Tryz.ntmps42;go_wp2_with (first
  |(go_at_call 43;apply Calls.m L;rintro e l ⟨rfl,g,c,j,K,O,d⟩;have k:Fr (λa=>a=D.d\/D.ov.ownBlock=some a) w l:=⟨d.os,d.tape,d.output,d.size,λa b u=>d.block a b (λe=>u (e.imp id (λh=>by rw[j,h];rfl)))⟩;have S:=B.o l k;have J:=C.o l g c j K O;have G:Hid (D.ov=.q g D.ts.length c):=j;clear j)
  |(go_at_call 44;apply Calls.m J;rintro e I ⟨z,D',rfl,o,r,M,N,p⟩;have E:Hid (aO I 1 D'):=o;have H:Hid (R z D'):=p;have F:Hid (D'.d=D.d):=r;clear o p r))
 go_ret;have v:=Ga (i:=i) G.o;refine⟨z,D',rfl,E.o,F.o,?_,λa b=>?_,H.o⟩
 .exact(k.m (λa b=>.inl (by rcases b with b|b;exact .inl b;exact .inr (.inr (.inl b))))).t (M.m (λa b=>.inl (v a b)))
 .exact(N a b).imp (v a) (λh=>vJ k.size h)
def qMs(D x i t w)(h:aO w 0 D)(G:D.ts.length<=1000)(hi:i<D.ts.length)(H:D.ts[i]=t)(F:gG D.ts x=i)(R:Int->Db->Prop)(E:∀X g c,D.ov=.q g D.ts.length c->aO X 1 (D.drop i g c)->eI X D.β t->cL 44 #[.p D.d 0,.p t.b 0] X λe w'=>∃z D',e=.r (.i z)/\aO w' 1 D'/\D'.d=D.d/\Fr (fpD (D.drop i g c)) X w'/\aJ X (fpD (D.drop i g c)) (fpD D')/\R z D'):
  cL 14 #[.p D.d 0,.i x] w λe w'=>∃z D',e=.r (.i z)/\aO w' 0 D'/\D'.d=D.d/\Fr (fpD D) w w'/\aJ w (fpD D) (fpD D')/\R z D':=by
 obtain⟨a,f,d,p,I,-⟩:=al2 w (.cells #[.p D.d 0] 29) (.cells #[.i x] 3); have K:=(gL h.box);have J:=bJ p;have B:=Cx D 42 #[] #[.p w.heap.size 0,.p (w.heap.size+1) 0] (enters_of Tryz.func42 (by kernel_rfl) rfl) a (h.on (vV d h.lies)) R (by
  intro u y k L;have o:∀b,w.heap.size<=b->¬Bl.one D.d b:=λb n e=>by cases e;omega
  exact qMr D x i t _ _ u y G hi H F R E (k.heap p (o _ (by omega))) (k.heap I (o _ (by omega))))
 go_enter Tryz.func14,Tryz.ntmps14;go_wp2_with (go_at_call 32;apply Calls.m B;rintro e X ⟨z,D',rfl,j,m,A,C,l⟩;have q:Hid (aO X 0 D'):=j;have s:Hid (R z D'):=l;have r:Hid (D'.d=D.d):=m;clear j l m);go_ret;exact⟨z,D',rfl,q,r,(AB d).t A,λb n=>(C b n).imp id (λh=>vJ d.size h),s⟩
variable {P:Program} {Q:Exit->Act->World->Prop} {S:World->Prop} {a:Act} {i n s:Nat} {md:Region.Mode} {ops:Array Oper} {v:Value} {w:World}
attribute [local go_sem] CM
def mO {s i j o o' L}(g:Region.ready md ops L=[i,j])(l:ops[i]?=some o)(m:ops[j]?=some o')(h:∀K':Act->World->Prop,Go.Shut (∀a w,((L.setIfInBounds i true).getD s true=false->S w)->oZ P md ops Q S s n (L.setIfInBounds i true) a w->K' a w)->if Region.wanted o (yielded ops a.tmps)=true then Oper.wp P o a w K' Q else K' (a.put o.dst undef) w)(k:∀K':Act->World->Prop,Go.Shut (∀a w,((L.setIfInBounds j true).getD s true=false->S w)->oZ P md ops Q S s n (L.setIfInBounds j true) a w->K' a w)->if Region.wanted o' (yielded ops a.tmps)=true then Oper.wp P o' a w K' Q else K' (a.put o'.dst undef) w):oZ P md ops Q S s (n+1) L a w:=by
 refine⟨λf=>(by rw[g]at f;cases f),λp e=>?_⟩;rw[g]at e;simp only[AS,FK,KT]at e;rcases e with rfl|rfl
 .exact wpOp_step l (λK' b=>h K' (λa w c d=>b a w ⟨c,d⟩))
 .exact wpOp_step m (λK' b=>k K' (λa w c d=>b a w ⟨c,d⟩))
def Hd {g}(hi:ops[i]?=some g)(m:∀(j:Nat) (o:Oper) cs b,ops[j]?=some o->o.op≠.select cs b)(r:∀c a w,Q (.panic c) (a.put g.dst v) w->Q (.panic c) a w)(h:i≠s):
  ∀(n:Nat) (L:Array Bool) (a:Act) (w:World),(∀j f,ops[j]?=some f->j≠i->L.getD j true=false->(∀e∈f.after,Region.binds md e=true->e.on≠i)->g.apart ops f=true)->i∈Region.ready md ops L->YieldsIf P ops (λ_=>True) g v a->(L.getD s true=false->S w)->oZ P md ops Q S s n (L.setIfInBounds i true) (a.put g.dst v) w->oZ P md ops Q S s (n+1) L a w
 |0,L,a,w,_,hr,hy,hS,H=>by
  refine⟨λd=>(by rw[d]at hr;cases hr),λj k=>?_⟩;by_cases e:j=i
  .subst e;exact hy.wpOp hi trivial ⟨λd=>hS (by rwa[KA true h]at d),H⟩
  .have:=JC k e
   rw[H.1]at this;cases this
 |n+1,L,a,w,hf,hr,hy,hS,H=>by
  refine⟨λd=>(by rw[d]at hr;cases hr),λj k=>?_⟩;by_cases e:j=i
  .subst e;exact hy.wpOp hi trivial ⟨λd=>hS (by rwa[KA true h]at d),H⟩
  .have⟨u,f,l,A⟩:=JB.1 k
   have F:∀e∈f.after,Region.binds md e=true->e.on≠i:=λe C B D=>wG (JB.1 hr).1 (D▸A e C B);refine wpOp_mono (λy w' p=>?_) (wpOp_putIf l (hf j f l e u F) (λcs b=>m i g cs b hi) (λcs b=>m j f cs b l) r hy (H.2 j (JC k e)));have t:(L.setIfInBounds j true).getD s true=false->S w':=λd=>p.2.1 (by rw[GJ _ _ (Ne.symm e),KA true h];exact d);refine⟨t,Hd hi m r h n (L.setIfInBounds j true) y w' (λq J G I x E=>hf q J G I ?_ E) (JC hr (Ne.symm e)) p.1 t ?_⟩
   .by_cases hjq:j=q
    .subst hjq;exact u
    .rw[KA true hjq]at x;exact x
   .rw[GJ _ _ e];exact p.2.2
def zZ {b L}(hi:ops[i]?=some b)(e:(Region.noSelect ops&&Region.free md ops L i&&(Region.ready md ops L).contains i&&decide (i≠s))=true)(l:∀c a w,Q (.panic c) (a.put b.dst v) w->Q (.panic c) a w)(m:YieldsIf P ops (λ_=>True) b v a)(d:S w)(h:S w->oZ P md ops Q S s n (L.setIfInBounds i true) (a.put b.dst v) w):oZ P md ops Q S s (n+1) L a w:=by
 simp only[AP,BT]at e;have⟨⟨⟨f,g⟩,j⟩,k⟩:=e;exact Hd hi (LE f) l k n L a w (MD hi g) (by simpa using j) m (λ_=>d) (h d)
def kW {n l id}(s)(c:P.follows .mixedOrders=true)(d:uH ops=true)(b:∀a w,¬Q .outgrown a w)(h:oZ P .any ops Q S s ops.size (Array.replicate ops.size false) a w.drew):(Code.region id ops true).wpIn (Fence.wide.inRound l) n P Q a w :=
 wpIn_region_any c (vD d b _ _ _ _ h.any)
def qAz {e z xs}(h:w.ownsRow 0 e z v n xs):∃a c,v=.s a n c/\n<=c/\aH w (λk=>v.ownBlock=some k) a xs:=by
 obtain⟨a,c,rfl⟩:=aG h;have i:=h;have⟨j,l⟩:=h;rcases l with⟨b,m⟩|⟨g,q,r,b,t,y,o,u,x,A⟩
 .simp only[AQ]at b
  refine⟨a,c,rfl,by omega,.inl ?_⟩;have:xs.length=0:=by rw[j,m];simp
  exact AH this
 .simp only[AQ,CV]at b
  obtain⟨rfl,rfl⟩:=b;refine⟨_,c,rfl,o,.inr ⟨g,0,rfl,rfl,λB C p=>?_⟩⟩;have⟨s,d,_,_,f⟩:=iO i p;simp only[BB,CC,DD]at d;subst d;simpa using f
abbrev eE(x:T×Sp):MN:=⟨x.2.lo,x.2.hi,x.1.place,none,0,0,none,0,0⟩
abbrev Uk(w:World)(g k:Nat)(m:MN):World:=((((w.setCell (aD g k) (.string m.lo)).setCell (aD g (k+1)) (.string m.hi)).setCell (aD g (k+2)) (.int .i64 m.place)).setCell (aD g (k+3)) (.slice m.ea m.en m.ec)).setCell (aD g (k+4)) (.slice m.ka m.kn m.kc)
def rG(w g k m):Fr (Bl.one g) w (Uk w g k m):=
 (((((AE (Bl.one g) w).s g k).s g (k+1)).s g (k+2)).s g (k+3)).s g (k+4)
def Lx(β sv lv fs)(dz:(fs.life==0)=false)(root a7 a9 a8)(m:MN)(fu:((m.place:Int)==0)=false)(h ks k w)(aj:aV fs (h+1) (.branch m.place ks k) ⟨m.lo,m.hi⟩)(c7:aF w β sv lv fs):
  cL 219 #[.agg #[.p β 0,.i root,.s a7 a9 a8],.agg #[.t m.lo,.t m.hi,.i m.place,.s m.ea m.en m.ec,.s m.ka m.kn m.kc]] w λe w' =>
   ∃y z a3 a4,e=.r (.agg #[.t m.lo,.t m.hi,.i 0,.s y 0 z,.s a3 k.length a4])/\aH w' (New w w') a3 (aM ((parts ⟨m.lo,m.hi⟩ ks k).map eE))/\k.length<=a4/\bW w w':=by
 obtain⟨g,bb,bd,ah,be,e1,⟨dt,dk,dl⟩,fn⟩:=aj;obtain⟨u,ae,am,eu,co,bl,ex⟩:=al3 w (.cells #[.pointer (some (aD β 0)),.int .i64 root,.slice a7 a9 a8] 90) m.obj Lv;obtain⟨gw,gx,gy⟩:=eC eu;obtain⟨gl,gm,gn,gp,gq⟩:=cV co;have dy:aF u β sv lv fs:=c7.on (vV am c7.lies);obtain⟨cs,ct,et⟩:=gK bb;have c4:=pF β sv lv fs root a7 a9 a8 m.place ⟨m.lo,m.hi⟩ g u dy dz bb (by simp[bd]) (by rw[ah];exact dt) (by simp only[ah];exact dk) (by simp only[ah];exact dl) cs et;have d3:Hid (g.keys=ks):=ah;have d2:Hid (g.kids=k.map (λL=>(L.place:Int))):=be;have d1:Hid (g.ents.length=0):=by rw[qG bb bd];exact rfl
 have fq:k.length<=1000:=by have:=ct;rw[be,AF]at this;exact this
 clear bd ah be e1;refine(AZ (n:=0)).1 (BX Tryz.func219 rfl trivial ?_ rfl);simp only[Tryz.ntmps219,jA,jB,jN,Nat.reduceAdd,Nat.reduceSub,jR,jO,jP,jT,jE,jF];gi_wp2_with (first
  |(refine⟨trivial,rfl,?_⟩;gi_at_call 144;refine(AZ.2 c4).m ?_;clear c4;rintro e H ⟨h5,rfl,⟨a3,b0,y,a4,b1,z,rfl,cl,cm,el,bk⟩,ba⟩;obtain⟨d,b8,-,bn,-⟩:=al1 H (pgO g a3 b0 y a4 b1 z);obtain⟨g8,g9,ga,gb,gc,gd,gi,gj⟩:=bO bn;have bv:Fr Bl.none u d:=(AB ba).t (b8▸(AE _ H).alloc _);have cp:=bv.heap co (λh=>h);obtain⟨gr,gs,gt,gu,gv⟩:=cV cp;have cq:=aQ (.cells #[.string m.lo,.string m.hi,.int .i64 0,.slice y g.ents.length z,.n] 242) cp;obtain⟨eo,ep,eq,er,es⟩:=cV cq;have cu:=aQ (.cells #[.string m.lo,.string m.hi,.int .i64 0,.slice y g.ents.length z,.n] 242) bn;obtain⟨e7,e8,e9,ea,eb,ec,ed,ee⟩:=bO cu;have c3:=nT g ⟨m.lo,m.hi⟩ a3 b0 y a4 b1 z (d.alloc (.cells #[.string m.lo,.string m.hi,.int .i64 0,.slice y g.ents.length z,.n] 242)))
  |(refine⟨trivial,rfl,?_⟩;gi_at_call 145;refine(AZ.2 c3).m ?_;clear c3;rintro e M ⟨rfl,bp,b3,aw⟩))
 clear eo ep eq er es e7 e8 e9 ea eb ec ed ee;obtain⟨a0,af,-,cv,ez⟩:=al1 d (.cells #[.string m.lo,.string m.hi,.int .i64 0,.slice y g.ents.length z,.n] 242);rw[af]at bp b3 aw cq cu;have ds:Fr Bl.none u a0:=bv.t (af▸(AE _ d).alloc _);rw[ez]at bp b3;have ar:Fr Bl.none u M:=ds.t (AB aw);have hj:H.heap.size<d.heap.size:=(gL bn);have ey:d.heap.size<a0.heap.size:=(gL cv);have hi:=ba.size;have hk:d.heap.size+1+1<M.heap.size:=(gL b3);have cj:On (New u H) H M:=((b8▸(CN _ H).alloc (λb c=>c.2) _:On (New u H) H d).t (af▸(CN _ d).alloc (λb c=>by have:=c.2;omega) _:On (New u H) d a0)).t (vV aw (λb c=>by have:=c.2;omega));let Rd:Bl:=λb=>b=d.heap.size+1\/b=d.heap.size+1+1\/New u H b;have e4:=nS (d.heap.size+1+1) (d.heap.size+1) ⟨m.lo,m.hi⟩ g.kind g.ver g.root g.next a3 b0 y a4 b1 g.ents.length z g.data g.keys g.kids Rd M b3 bp ((cl.on cj).m (λb c=>.inr (.inr c))) ((cm.on cj).m (λb c=>.inr (.inr c))) (.inr (.inl rfl)) (.inl rfl) cs ct bk.1 bk.2.1;have cf:parts ⟨m.lo,m.hi⟩ g.keys g.kids=(parts ⟨m.lo,m.hi⟩ ks k).map (λR=>((R.1.place:Int),R.2)):=by rw[d3.o,d2.o,nL]
 have b5:Hid (parts ⟨m.lo,m.hi⟩ g.keys g.kids=(parts ⟨m.lo,m.hi⟩ ks k).map (λR=>((R.1.place:Int),R.2))):=cf;clear cf cl cm el bk;have bs:Hid (u.heap.size=w.heap.size+3):=ex;let NB:=d.heap.size;let NO:Value->Obj:=λv=>.cells #[.string m.lo,.string m.hi,.int .i64 0,.slice y g.ents.length z,v] 242;have cw:=(aw.block _ ey).t cv;let I:List (Int×Sp)->Bl->World->Prop:=λt Y W=>∃v,W.heap[NB]?=some (NO v)/\W.ownsRow 0 242 5 v t.length (aM (((parts ⟨m.lo,m.hi⟩ ks k).take t.length).map eE))/\(∀b,v.ownBlock=some b->M.heap.size<=b)/\(∀b,Y b↔b=NB\/v.ownBlock=some b);refine fI (P:=Tryz.prog) (Has:=sA) (Rd:=Rd) rfl (enters_of Tryz.func167 (by kernel_rfl) rfl) e4 (λR bu S W b7=>by rw[b7];rfl) I (λ_ _ _ _=>False) ?_ (λ_ _ _ _ _ h=>h.elim) ?_ (λ_ _ _ _ h=>h.elim) (Bl.one NB) ⟨.n,cw,by simpa[aM] using AL _ _ _ _,by simp[Value.ownBlock],λb=>by simp[Bl.one,Value.ownBlock]⟩ ?_ ?_ ?_ (λ_ _ _ _ _ _ _ _ _ h=>h.elim)
 .rintro t Y A B ⟨v,U,ac,au,V⟩ cb
  exact⟨v,cb.heap U ((V _).2 (.inl rfl)),aS ac cb (λb c=>(V b).2 (.inr c)),au,V⟩
 .rintro t Y A ⟨v,U,ac,au,V⟩ b c
  rcases(V b).1 c with rfl|h
  .exact(gL U)
  .exact aK ac h
 .rintro b (rfl|rfl|c)
  .exact⟨λh=>by simp only[Bl.one,NB]at h;omega,by omega⟩
  .exact⟨λh=>by simp only[Bl.one,NB]at h;omega,by omega⟩
  .exact⟨λh=>by simp only[Bl.one,NB]at h;have:=c.2;omega,by have:=c.2;omega⟩
 .
  rintro l t R gk bu f3 ap W bi ⟨v,ab,Q,ai,a1⟩ b7 fl aa dw fr ft e0 ⟨r,fv⟩;have bc:t.length<k.length:=by
   have:=CI List.length bi;rw[b5.o]at this;simp[cO]at this;omega
  obtain⟨s,c9⟩:=nM (k[t.length]'bc);obtain⟨f,cd⟩:=nM ((⟨lF ⟨m.lo,m.hi⟩ ks t.length,pZ ⟨m.lo,m.hi⟩ ks t.length⟩:Sp));have ay:=fL ⟨m.lo,m.hi⟩ ks k t.length bc;rw[c9,cd]at ay;have e6:R=((s.place:Int),f):=by
   have U:(parts ⟨m.lo,m.hi⟩ g.keys g.kids)[t.length]?=some R:=by rw[bi];simp
   rw[b5.o,BN,ay]at U;simpa using U.symm
  have da:Hid (((parts ⟨m.lo,m.hi⟩ ks k).take (t.length+1)).map eE=((parts ⟨m.lo,m.hi⟩ ks k).take t.length).map eE++[eE (s,f)]):=by
   show _=_
   rw[oD ay,BM];rfl
  obtain⟨G,ax⟩:=nM (((parts ⟨m.lo,m.hi⟩ ks k).take t.length).map eE);have d5:Hid (((parts ⟨m.lo,m.hi⟩ ks k).take t.length).map eE=G):=ax;rw[ax]at Q;have bf:t.length=G.length:=by rw[<-ax,AF,AY,cO];omega
  subst e6;have dx:bu=#[.int .i64 s.place,.agg #[.string f.lo,.string f.hi]]:=b7;subst dx;obtain⟨n,bg⟩:=nM (t.length);have d6:Hid (t.length=n):=bg;rw[bg]at Q bf bc;have f1:M.heap.size<=W.heap.size:=aa.size;have f0:d.heap.size<W.heap.size:=(gL ab);have hm:w.heap.size<=W.heap.size:=by have:=am.size;have:=ar.size;omega
  have d4:Hid (n=G.length):=bf;clear c9 cd ay bi ax bg bf;unfold iY;gi_wp2;refine⟨(AE _ W).alloc _,?_⟩;intro E c5;have dg:Fr Bl.none W (W.alloc (.cells #[.string f.lo,.string f.hi] 154)):=(AE _ W).alloc _;have ak:=c5.heap (aC W (.cells #[.string f.lo,.string f.hi] 154)) (by omega);have bz:Fr (Bl.one l) W E:=(dg.m (λ_ h=>h.elim)).t c5.fr;have hg:=bz.size;have hh:W.heap.size<E.heap.size:=(gL ak);have ck:On ap W E:=bz.on (λb c=>⟨by rcases(a1 b).1 c with rfl|h;exact f0;exact aK Q h,λe=>by simp only[Bl.one]at e;subst e;exact e0 c⟩);have b9:E.heap[NB]?=some (NO v):=ck.heap ab ((a1 _).2 (.inl rfl));have bh:=aS Q ck (λb c=>(a1 b).2 (.inr c));obtain⟨o,q,rfl⟩:=aG bh;obtain⟨dm,dn⟩:=bY ak;obtain⟨ef,eg,eh,ei,ch⟩:=cV b9;have b4:Hid (∀a6 v',a6.heap[NB]?=some (NO v')->a6.ownsRow 0 242 5 v' (n+1) (aM (G++[eE (s,f)]))->Fr (λb=>b=NB\/(Value.slice o n q).ownBlock=some b) E a6->(∀b,v'.ownBlock=some b->(Value.slice o n q).ownBlock=some b\/E.heap.size<=b)->∃bt,I (t++[((s.place:Int),f)]) bt a6/\Fr ap E a6/\aJ E ap bt):=by
   intro a6 v' U ac au V;refine⟨λb=>b=NB\/v'.ownBlock=some b,⟨v',U,?_,λb c=>?_,λb=>FT⟩,au.m (λb c=>.inl ((a1 b).2 c)),?_⟩
   .rw[jK,AM,da.o,d5.o,d6.o];exact ac
   .rcases V b c with h|h
    .exact ai b h
    .omega
   .rintro b (c|c)
    .exact .inl ((a1 b).2 (.inl c))
    .exact(V b c).imp (λh=>(a1 b).2 (.inr h)) id
  gi_wp2;have av:=(show(λX:World=>X.cell? (aD W.heap.size 0)=some (.string f.lo)/\X.cell? (aD W.heap.size 1)=some (.string f.hi)/\X.cell? (aD d.heap.size 4)=some (.slice o n q)) E.drew from ⟨dm,dn,ch⟩);refine kW (S:=λX=>X.cell? (aD W.heap.size 0)=some (.string f.lo)/\X.cell? (aD W.heap.size 1)=some (.string f.hi)/\X.cell? (aD d.heap.size 4)=some (.slice o n q)) 11 (by kernel_rfl) (by kernel_rfl) (λ_ _ h=>h) ?_;refine tks [(0,.pointer (some (aD d.heap.size 4))),(1,.slice o n q),(2,.agg #[.string f.lo,.string f.hi]),(3,.int .i64 s.place),(4,.agg #[.string f.lo,.string f.hi,.int .i64 s.place,.n,.n]),(5,.int .i64 n)] (by assumption) ?_;iterate 6 (refine⟨_,rfl,by kernel_rfl,λ_ _ _ h=>h,.inl ⟨by rfl,λw ad=>by(try dsimp only at ad);go_simp⟩,?_⟩;try simp only[pS])
  refine tke ?_;have ev:=aQ (.cells #[.string ⟨#[]⟩,.string ⟨#[]⟩,.int .i64 0,.n,.n] 242) ak;obtain⟨dq,dr⟩:=bY ev;have ej:=(cV (aQ (.cells #[.string ⟨#[]⟩,.string ⟨#[]⟩,.int .i64 0,.n,.n] 242) b9)).2.2.2.2;refine aR (i:=6) (by kernel_rfl) rfl (λK C=>?_);go_simp;refine C.out _ _ (λ_=>⟨dq,dr,ej⟩) ?_;clear C K;try simp only[pS]
  refine aR (i:=7) (by kernel_rfl) rfl (λK C=>?_);refine iZ E.drew rfl (.tmp 31) (.tmp 36) 239 242 _ 5 88 rfl Tryz.underlying239 iT rfl (by decide) (.slice o n q) n (aM G) (by simp[Act.eval,Act.put]) bh [.string ⟨#[]⟩,.string ⟨#[]⟩,.int .i64 0,.n,.n] (by simp[Act.eval,Act.put]) rfl (by simp[Value.oneCell']) (by omega) (by omega) ?_;intro h4 F al;obtain⟨x,a2,rfl⟩:=al.shape (by decide);have J:fF 242 5 (.slice o n q) n (aM G) [.string ⟨#[]⟩,.string ⟨#[]⟩,.int .i64 0,.n,.n] 1 E (.q x (n+1) a2) F:=⟨al.row,(AE _ E).drew.t al.fr,al.lies⟩;have bo:=J.fr.heap ak (aP bh ak (by decide));obtain⟨c1,c2⟩:=bY bo;have aq:F.heap[d.heap.size]?=some (NO (.slice o n q)):=J.fr.heap b9 (λe=>by have:=ai _ e;omega);obtain⟨ge,gf,gg,gh,cg⟩:=cV aq;have bj:x≠d.heap.size:=λe=>by
   rcases J.lies x rfl with h|h
   .have:=ai _ h;omega
   .omega
  have ek:x≠W.heap.size:=λe=>aP J.row bo (by decide) (by rw[e];rfl);have ff:=aA aq;have c8:(aM G).length=n * 5:=by rw[iQ,<-d4.o]
  have bl:=xC J.row (n * 5) c8 (eE (s,f));have c6:aM (G++[eE (s,f)])=aM G++(eE (s,f)).cells:=by rw[iC];simp[aM]
  have br:Hid (aM (G++[eE (s,f)])=aM G++(eE (s,f)).cells):=c6;have N:∀L,L<(n+1) * 5->(F.cell? (aD x L)).isSome=true/\F.frozen? (aD x L)=false:=λL aj=>eK J.row L aj;have fp:(n:Int)<(n:Int)+1:=by omega
  have av:=(show(λX:World=>X.cell? (aD W.heap.size 0)=some (.string f.lo)/\X.cell? (aD W.heap.size 1)=some (.string f.hi)/\X.cell? (aD d.heap.size 4)=some (.slice o n q)) F from ⟨c1,c2,cg⟩);refine C.out _ _ (λ_=>⟨c1,c2,cg⟩) ?_;clear C K c6;try simp only[pS]
  refine zZ (i:=8) (v:=.pointer (some (aD x (n * 5)))) rfl (by kernel_rfl) (λ_ _ _ h=>h) (.inl ⟨by rfl,λw ad=>by(try dsimp only at ad);go_simp⟩) (by assumption) (λav=>?_);try simp only[pS]
  refine zZ (i:=10) (v:=.pointer (some (aD d.heap.size 4))) rfl (by kernel_rfl) (λ_ _ _ h=>h) (.inl ⟨by rfl,λw ad=>by(try dsimp only at ad);go_simp⟩) (by assumption) (λav=>?_);try simp only[pS]
  obtain⟨gz,fx⟩:=BJ.1 (N (n * 5) (by omega)).1;obtain⟨h0,fy⟩:=BJ.1 (N (n * 5+1) (by omega)).1;obtain⟨h1,fz⟩:=BJ.1 (N (n * 5+2) (by omega)).1;obtain⟨h2,g0⟩:=BJ.1 (N (n * 5+3) (by omega)).1;obtain⟨h3,g1⟩:=BJ.1 (N (n * 5+4) (by omega)).1;have fg:=(N (n * 5) (by omega)).2;have fh:=(N (n * 5+1) (by omega)).2;have fi:=(N (n * 5+2) (by omega)).2;have fj:=(N (n * 5+3) (by omega)).2;have fk:=(N (n * 5+4) (by omega)).2;have bm:=rG F x (n * 5) (eE (s,f));have b6:=bm.heap aq (λe=>bj (by simp only[Bl.one]at e;exact e.symm));obtain⟨f4,f5,f6,f7,dd⟩:=cV b6;obtain⟨de,df⟩:=bY (bm.heap bo (λe=>ek (by simp only[Bl.one]at e;exact e.symm)));have fe:=aA b6;have dh:=aB b6 4 (.q x (n+1) a2);have bw:Fr (Bl.one d.heap.size) (Uk F x (n * 5) (eE (s,f))) ((Uk F x (n * 5) (eE (s,f))).setCell (aD d.heap.size 4) (.q x (n+1) a2)):=(AE (Bl.one d.heap.size) _).s d.heap.size 4;have ci:∀b,(Value.q x (n+1) a2).ownBlock=some b->¬Bl.one d.heap.size b:=λb c e=>by
   simp only[Bl.one]at e;subst e;exact bj (by simpa[Value.ownBlock] using c)
  have em:=eJ bl bw ci;have di:=aB aq 4 (.q x (n+1) a2);have bx:Fr (Bl.one d.heap.size) F (F.setCell (aD d.heap.size 4) (.q x (n+1) a2)):=(AE (Bl.one d.heap.size) F).s d.heap.size 4;have cn:=eJ J.row bx ci;have en:=xC cn (n * 5) c8 (eE (s,f));have cr:=rG (F.setCell (aD d.heap.size 4) (.q x (n+1) a2)) x (n * 5) (eE (s,f));have dj:=cr.heap di (λe=>bj (by simp only[Bl.one]at e;exact e.symm));have O:∀L,L<(n+1) * 5->_:=λL aj=>eK cn L aj;have c0:∀b,Bl.one x b->(b=NB\/(Value.slice o n q).ownBlock=some b)\/E.heap.size<=b:=λb c=>by
   simp only[Bl.one]at c;subst c;exact(J.lies _ rfl).imp (λh=>.inr h) id
  have bq:Fr (λb=>b=NB\/(Value.slice o n q).ownBlock=some b) E F:=J.fr.m (λb c=>.inl (.inr c));have cz:=(bq.grow bm c0).grow bw (λb c=>.inl (.inl c));have d0:=(bq.grow bx (λb c=>.inl (.inl c))).grow cr c0;have d7:=b4.o _ _ (by simpa using dh) (by rw[br.o];exact em) cz J.lies;have d8:=b4.o _ _ (by simpa using dj) (by rw[br.o];exact en) d0 J.lies;clear b4 av;refine mO (i:=9) (j:=11) (by kernel_rfl) rfl rfl (λK C=>?_) (λK C=>?_)
  .go_simp
   refine C.out _ _ (λ_=>⟨de,df,dd⟩) ?_;clear C K;try simp only[pS]
   refine aR (i:=11) (by kernel_rfl) rfl (λK C=>?_);go_simp;refine C.out _ _ (λe=>by cases e) ?_;clear C K;refine dC (by kernel_rfl) ?_ _;gi_wp2;exact d7
  .go_simp
   obtain⟨h6,g2⟩:=BJ.1 (O (n * 5) (by omega)).1;obtain⟨h7,g3⟩:=BJ.1 (O (n * 5+1) (by omega)).1;obtain⟨h8,g4⟩:=BJ.1 (O (n * 5+2) (by omega)).1;obtain⟨h9,g5⟩:=BJ.1 (O (n * 5+3) (by omega)).1;obtain⟨ha,g6⟩:=BJ.1 (O (n * 5+4) (by omega)).1;have hb:=(O (n * 5) (by omega)).2;have hc:=(O (n * 5+1) (by omega)).2;have hd:=(O (n * 5+2) (by omega)).2;have he:=(O (n * 5+3) (by omega)).2;have hf:=(O (n * 5+4) (by omega)).2;refine C.out _ _ (λe=>by cases e) ?_;clear C K;try simp only[pS]
   refine aR (i:=9) (by kernel_rfl) rfl (λK C=>?_);go_simp;refine C.out _ _ (λe=>by cases e) ?_;clear C K;refine dC (by kernel_rfl) ?_ _;gi_wp2;exact d8
 .rintro D ap W du fm ⟨v,ab,Q,ai,a1⟩ aa dw dv
  have ca:(parts ⟨m.lo,m.hi⟩ g.keys g.kids).length=k.length:=by rw[b5.o,AF,cO]
  rw[ca,CQ (by rw[cO];exact jU _)]at Q;have b2:=aa.heap (ar.heap bl (λh=>h)) (λh=>by simp only[Bl.one,NB]at h;have:=bs.o;have:=ba.size;omega);obtain⟨o,q,e5,ce,cc⟩:=qAz Q;subst e5;obtain⟨ef,eg,eh,ei,ch⟩:=cV (show W.heap[d.heap.size]?=some (.cells #[.string m.lo,.string m.hi,.int .i64 0,.slice y g.ents.length z,.slice o k.length q] 242) from ab);obtain⟨f8,f9,fa,fb,fc⟩:=cV b2;have fd:=aA b2;have f1:M.heap.size<=W.heap.size:=aa.size;have hl:u.heap.size<=M.heap.size:=ar.size;have g7:=bs.o;have e2:Marks w.heap.size [mk D] W:=(FQ w.heap.size M).cons (λD' _ h=>aa.heap h (λe=>by simp only[Bl.one,NB]at e;subst e;rw[cw]at h;simp at h)) (by have:=am.size;omega) dv du;have cx:Fr Bl.none w W:=((AB am).t ar).grow aa (λb c=>.inr (by simp only[Bl.one,NB]at c;omega));have d9:Hid (aH W (λb=>(Value.slice o k.length q).ownBlock=some b) o (aM ((parts ⟨m.lo,m.hi⟩ ks k).map eE))):=cc;have db:Hid (k.length<=q):=ce;have ao:Hid (∀b,(Value.slice o k.length q).ownBlock=some b->M.heap.size<=b/\b<W.heap.size):=λb c=>⟨ai b c,aK Q c⟩;have f2:Hid (W.heap[NB]?=some (NO (.slice o k.length q))):=ab;have dp:=aB (aB (aB (aB (aB b2 0 (.string m.lo)) 1 (.string m.hi)) 2 (.int .i64 0)) 3 (.slice y g.ents.length z)) 4 (.slice o k.length q);clear ab Q cc ce ca;gi_wp2;obtain⟨a5,ag⟩:=nM (((((W.setCell (aD (w.heap.size+1+1) 0) (.string m.lo)).setCell (aD (w.heap.size+1+1) 1) (.string m.hi)).setCell (aD (w.heap.size+1+1) 2) (.int .i64 0)).setCell (aD (w.heap.size+1+1) 3) (.slice y g.ents.length z)).setCell (aD (w.heap.size+1+1) 4) (.slice o k.length q));have an:Fr (Bl.one (w.heap.size+1+1)) W a5:=ag▸((((((AE (Bl.one (w.heap.size+1+1)) W).s (w.heap.size+1+1) 0).s (w.heap.size+1+1) 1).s (w.heap.size+1+1) 2).s (w.heap.size+1+1) 3).s (w.heap.size+1+1) 4);have ew:a5.heap[w.heap.size+1+1]?=some (.cells #[.string m.lo,.string m.hi,.int .i64 0,.slice y g.ents.length z,.slice o k.length q] 242):=by rw[<-ag];simpa using dp
  have e3:Marks w.heap.size [mk D] a5:=e2.on (λD' _ h=>an.heap h (λe=>by simp only[Bl.one]at e;subst e;rw[b2]at h;simp at h));have cy:Fr Bl.none w a5:=cx.grow an (λb c=>.inr (by simp only[Bl.one]at c;omega));have dc:=d9.o.on (an.on (Z:=λb=>(Value.slice o k.length q).ownBlock=some b) (λb c=>⟨(ao.o b c).2,λe=>by simp only[Bl.one]at e;have:=(ao.o b c).1;omega⟩));refine qKt (p:=4) rfl (w.heap.size+1+1) _ _ _ rfl (ag▸ew) Tryz.underlying242 rfl (by kernel_rfl) (ag▸e3) ?_;intro w' az;rw[ag]at az;refine⟨y,z,o,q,by rw[<-d1.o],?_,db.o,(cy.took az (jU _)).below0⟩;have fw:=az.size;have fo:=an.size;exact aH.took (dc.m (λb c=>⟨by have:=(ao.o b c).1;omega,by have:=(ao.o b c).2;omega⟩)) az
variable {fs:Fs} {h:Nat} {n:NT}
mutual
def ndT:NT->Nd
 |.kept t s=>.mk s t.place [] []
 |.leaf s es=>.mk s 0 es []
 |.bran s ks=>.mk s 0 [] (qGa ks)
def qGa:List NT->List Nd
 |[]=>[]
 |n :: ns=>ndT n :: qGa ns
end
def Ot:∀(ns:List NT),qGa ns=ns.map ndT
 |[]=>by simp[qGa]
 |n :: ns=>by simp[qGa,Ot ns]
def qI(s ks):ndT (.bran s ks)=.mk s 0 [] (ks.map ndT):=by rw[ndT,Ot]
def tD(t s):ndT (.kept t s)=.mk s t.place [] []:=by rw[ndT]
def Et(s es):ndT (.leaf s es)=.mk s 0 es []:=by rw[ndT]
def tC(n):(ndT n).sp=n.sp:=by
 cases n with
 |kept=>rfl
 |leaf=>rfl
 |bran=>rfl
def Rz{b β}(f)(a:β->Nat):∀(k:Nat) (l:List b),lH a k (l.map f)=(lH (λx=>a (f x)) k l).map (List.map f)
 |0,l=>rfl
 |k+1,l=>by
  have e:tot a (l.map f)=tot (λx=>a (f x)) l:=by simp[tot,JR]
  have d:∀c,shN a c (l.map f) 0=shN (λx=>a (f x)) c l 0:=λc=>(Lh (λx=>a (f x)) a c l (l.map f) 0 (by simp)).symm;simp only[lH,e,d,AF];split
  .grind
  .rw[BH,<-List.map_take,<-List.map_drop,Rz f a k]
def zA(ns):(eH ns).map ndT=(dV vW (ns.map ndT)).map Gz:=by
 have a:(λn=>vW (ndT n))=gF:=by funext n;simp[vW,gF,tC]
 rw[eH,dV,dV,AF,Rz,a,GA,GA];refine EF (λp _=>?_);simp only[Function.comp_apply,Gy,qI,Gz];cases p with
 |nil=>rfl
 |cons n p=>simp[kF,tC,Gg]
def vP(es):(dB es).map ndT=(dB es).map nd0:=by
 refine EF (λn a=>?_);obtain⟨p,_,rfl⟩:=AW.1 a;rfl
def Yp (H:OkH fs 0 n):ndT n=nd0 n:=by
 cases n with
 |kept=>rfl
 |leaf=>rfl
 |bran=>exact H.elim
def qLp(x):3<=esz x:=by unfold esz;split<;>omega
def Ld{b}(a m):∀(l:List b),(∀x∈l,m<=a x)->l.length * m<=tot a l
 |[],_=>by simp
 |x :: l,h=>by
  have e:=h x (by simp);have f:=Ld a m l (λd c=>h d (by simp[c]));rw[cK,jB,JG];omega
def Co (H:OkH fs 0 n):n.ents0.length<=1000:=by
 cases n with
 |kept t s=>cases t with
  |leaf p es =>
   have⟨g,b,_,a,_⟩:=(gU H).1;have:=(gK b).2.2;rw[a,AF]at this;exact this
  |branch=>exact(gU H).1.elim
 |leaf s es =>
  have d:=Ld esz 3 es (λc _=>qLp c);have e:=H.2.2.2.1;show es.length<=1000;omega
 |bran=>exact H.elim
def lS (H:OkH fs h n):Aa n:=by
 rintro a s rfl;have:=fV (gU H).2.2;omega
def qLe (H:OkH fs h n){m S w}(c:gH w S (ndT n) m)(u:lW S w):
  cL 215 #[m.val] w λe w'=>e=.r (.bool (dM n))/\bW w w':=by
 cases n with
 |leaf s es =>
  cases h with
  |succ h=>exact H.elim
  |zero =>
   rw[Et]at c;exact qLf (rH H) (lS H) c u (Co H)
 |kept t s =>
  rw[tD]at c;have⟨_,_,_,_,_,a,B,j,k,l,o,p,g,q,r,f,i⟩:=c;have A:a=[]:=AH f;subst A;apply(mX m [] [] S w l o p g q r u (by simp) (by simp) (by simp) (by simp)).m;rintro e w' ⟨rfl,v⟩;refine⟨?_,v⟩;have J:=lS H t s rfl;have:(m.place==0)=false:=by grind
  rw[this];rfl
 |bran s ks =>
  cases h with
  |zero=>exact H.elim
  |succ h =>
   have⟨L,M,N,O,I,P⟩:=H;rw[qI]at c;have⟨_,_,_,_,_,a,B,j,k,l,o,p,g,q,r,f,i⟩:=c;have C:bH w S (ks.map ndT) a:=⟨f,i⟩;have F:tot ksz a=tot gF ks:=by
    rw[Cj,<-Jj C,GA,Cj];refine CI List.sum (EF (λn _=>?_));simp[vW,gF,tC]
   have y:a.length=ks.length:=by rw[f,AF]
   have K:ks.length<=1000:=by have:=Ld gF 3 ks (λn _=>by unfold gF;omega);omega
   have D:∀z∈a,z.fits:=λz G=>by
    obtain⟨d,E,rfl⟩:=AV G;have x:d<ks.length:=by omega
    show(a[d]).lo.size<=24;rw[(i d (ndT ks[d]) a[d] (by grind) (jQ E)).lo,tC];exact rI (I _ (AA x)).1
   apply(mX m [] a S w l (by rw[o,AF,y]) p (by omega) q r u (by simp) (by omega) (by simp) D).m;rintro e w' ⟨rfl,v⟩;refine⟨?_,v⟩;apply CI (λb=>Ending.returned (.bool b));rw[k,F,FC];simp[dM,La]<;>exact JK
def Qi(w)(l:List (T×Sp)):bH w Bl.none ((l.map (λx=>NT.kept x.1 x.2)).map ndT) (l.map eE):=by
 refine⟨by simp,λc d x a b=>?_⟩;rw[BN,BN]at a;rw[BN]at b;cases hl:l[c]? with
 |none=>grind
 |some y =>
  rw[hl]at a b;simp only[LZ,BB]at a b;subst a b;rw[tD];exact .mk y.2 y.1.place [] [] (eE y) [] rfl rfl rfl rfl rfl (jU _) (jU _) (.inl rfl) (.inl rfl) rfl (λc d x a _=>by simp at a)
def qGf(β sv lv fs)(O:(fs.life==0)=false)(root g j i){h:Nat}{n:NT}(H:OkH fs (h+1) n)(m S w)(N:aF w β sv lv fs)(f:gH w S (ndT n) m)(L:lW S w):
  cL 219 #[.agg #[.p β 0,.i root,.s g j i],.agg #[.t m.lo,.t m.hi,.i m.place,.s m.ea m.en m.ec,.s m.ka m.kn m.kc]] w λe w'=>Xq ndT n.kidsN S w e w':=by
 cases n with
 |leaf=>exact H.elim
 |bran s ks =>
  rw[qI]at f;have⟨_,_,_,_,_,u,k,l,c,z,A,I,q,J,B,v,x⟩:=f;apply(Ey β root g j i m (by simp[c]) w).m;rintro e w' ⟨rfl,d⟩;have o:=vV d L;have K:bH w S (ks.map ndT) u:=⟨v,x⟩;refine⟨m.lo,m.hi,m.ea,m.ec,m.ka,m.kc,u,?_,(B.on o).m (λr a=>.inl a),(K.on o).m (λr a=>.inl a),by rw[AF]at q;exact q,d⟩;rw[c,z,A,AF];rfl
 |kept t s =>
  have⟨E,W,Q⟩:=gU H;cases t with
  |leaf=>simp[aV]at E
  |branch p ks kids =>
   rw[tD]at f;have⟨_,_,_,_,_,u,k,l,c,z,A,I,q,J,B,v,x⟩:=f;have P:=(fV Q).1;have T:aV fs (h+1) (.branch m.place ks kids) ⟨m.lo,m.hi⟩:=by rw[c,k,l];exact E
   apply(Lx β sv lv fs O root g j i m (by grind) h ks kids w T N).m;rintro e w' ⟨F,G,U,V,rfl,D,M,d⟩;have R:(⟨m.lo,m.hi⟩:Sp)=s:=by rw[k,l]
   rw[R]at D;have C:(NT.kept (.branch p ks kids) s).kidsN.length=kids.length:=by simp[NT.kidsN,cO]
   refine⟨m.lo,m.hi,F,G,U,V,(parts s ks kids).map eE,by rw[C],D.m (λr a=>.inr a),(Qi w' (parts s ks kids)).m (λr a=>a.elim),by omega,d⟩
def eD.count {ns}(L:eD fs h ns):ns.length<=(bL h ns).length:=Bg _ _ (λn a=>(kC (L.ok n a)).1)
def qMu(β:Nat)(sv lv:Value)(fs:Fs)(root:Int)(ca:Option Addr)(cn cc:Nat)(h:Nat):Prop:=∀(l n:NT),eD fs h [l,n]->(l.entsH h).length+(n.entsH h).length<=1000000->∀(ma mb:MN) (S:Bl) (w:World),aF w β sv lv fs->gH w S (ndT l) ma->gH w S (ndT n) mb->(∀b,S b->b<w.heap.size)->cL 216 #[.agg #[.pointer (some (aD β 0)),.int .i64 root,.slice ca cn cc],ma.val,mb.val] w λe w' =>
   ∃v ms,e=.returned v/\w'.ownsRow 0 242 5 v ms.length (aM ms)/\bH w' (Or2 S (New w w')) ((pO h l n).map ndT) ms/\bW w w'/\∀k,v.ownBlock=some k->w.heap.size<=k
def Yy(β sv lv fs root d g f){h:Nat}(s:qMu β sv lv fs root d g f h)(ns)(L:eD fs h ns)(D:(bL h ns).length<=1000000)(ms l m S w)(i:aF w β sv lv fs)(r:aH w S l (aM ms))(j:bH w S (ns.map ndT) ms)(c:lW S w)(y:ns.length<=m):
  cL 206 #[.agg #[.p β 0,.i root,.s d g f],.s l ns.length m] w λe w' =>
   ∃v rs,e=.r v/\w'.ownsRow 0 242 5 v rs.length (aM rs)/\bH w' (Apart S w.heap.size v w') ((qP (pO h) ns).map ndT) rs/\bW w w'/\nW v w:=by
 refine qJr β sv lv fs root d g f ndT (pO h) (λM=>eD fs h M/\bL h M=bL h ns) (λp o n B a=>?_) (λM a=>?_) (λM a n x E S w j c=>qLe (a.1.ok n x) j c) (λp o n B a z F S w i t u c=>?_) ns ms l m S w i ⟨L,rfl⟩ r j c y
 .have T:=Le h a.1.two
  have⟨A,C⟩:=a.1.swap T.lst T.ents T.lo;exact⟨⟨A,C.t a.2⟩,T.ne⟩
 .have:=a.1.count
  grind
 .have q:=CI List.length a.2
  rw[eR,kQ,kQ,jK,jK,jK]at q;exact s o n a.1.two (by omega) z F S w i t u c
def Im(β sv lv fs)(s:(fs.life==0)=false)(root j l k):∀h,qMu β sv lv fs root j l k h
 |0=>λe n p B t mb S w g q f m=>by
  have o:=p.ok e (by simp);have on:=p.ok n (by simp);rw[Yp o]at q;rw[Yp on]at f;apply(Zu β sv lv fs s root j l k e n (rH o) (rH on) (lS o) (lS on) t mb S w g q f m (Co o) (Co on)).m;rintro Y w' ⟨v,u,rfl,O,N,f,M⟩;refine⟨v,u,rfl,O,?_,f,M⟩;show bH w' _ ((dB _).map ndT) u;rw[vP];exact N.m (λZ h=>.inr h)
 |h+1=>λe n p B t mb S w g q f m=>by
  have o:=p.ok e (by simp);have on:=p.ok n (by simp);have⟨z,C,R,a0⟩:=uL o;have⟨A,T,a1,U⟩:=uL on;have y:eD fs h (e.kidsN++n.kidsN):=by
   refine⟨λi r=>(AO.1 r).elim (z.ok i) (A.ok i),λi r=>(AO.1 r).elim (z.lo i) (A.lo i),CO.2 ⟨z.sep,A.sep,λa q b f D Q=>?_⟩⟩;have:D∈e.entsH (h+1):=by rw[<-C];exact AX.2 ⟨a,q,Q⟩
   exact cA (((BG.1 p.sep).1 n (by simp)) D this) (U b f)
  have F:(bL h (e.kidsN++n.kidsN)).length<=1000000:=by rw[eR,C,T,jK];exact B
  have L:=y.count;rw[jK]at L;have x:=qGm (c:=⟨#[]⟩) y (λi _=>yY _);have K:=x.lst.count;rw[x.ents]at K;have:=Nn β root j l k ndT e.kidsN n.kidsN (qP (pO h) (e.kidsN++n.kidsN)) t mb S w m
   (λW d=>(qGf β sv lv fs s root j l k o t S W (g.on (vV d g.lies)) (q.on (vV d m)) (λb h=>jY (m b h) d.size)))
   (λW d=>(qGf β sv lv fs s root j l k on mb S W (g.on (vV d g.lies)) (f.on (vV d m)) (λb h=>jY (m b h) d.size)))
   (BQ.2 R) (by omega) (by omega) (λi r=>by rw[tC];exact rI (x.lst.ok i r))
   (λu V X E W d H G I J=>Yy β sv lv fs root j l k (Im β sv lv fs s root j l k h) _ y F u V X E W (g.on (vV d g.lies)) H G I J)
  rw[<-zA]at this;exact this
