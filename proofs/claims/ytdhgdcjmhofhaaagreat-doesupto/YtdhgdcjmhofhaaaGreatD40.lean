import Derived.Test.YtdhgdcjmhofhaaaGreatD36
import Derived.Test.YtdhgdcjmhofhaaaGreatD38
import Derived.Test.YtdhgdcjmhofhaaaGreatD39
set_option linter.all false
set_option maxRecDepth 100000
set_option maxHeartbeats 8000000
namespace Go.Proofs.YtdhgdcjmhofhaaaGreat.Tree
open Go.RowKit Pages
variable {i:Nat} {w:World}
theorem Bf{a:List Tx}(h:a.Pairwise rG){i j}(hi:i<a.length)(c:j<a.length)(g:i≠j):rG a[i] a[j]:=by
 have d:=BB.1 h;rcases Nat.lt_or_gt_of_ne g with b|b
 ·grind
 ·exact λk e f=>d j i c hi b k f e
theorem aO.retx {w w' v D t t'}(h:aO w v D)(hi:i<D.ts.length)(m:D.ts[i]=t)(y:eN w' D.β t')(z:t'.b=t.b)(f:Fr (fpT t) w w')(A:∀k,fpT t' k->fpT t k\/w.heap.size<=k):aO w' v {D with ts:=D.ts.set i t'}:=by
 have r:t∈D.ts:=m▸AB hi;have C:lG (D.ts.set i t')=lG D.ts:=by
  unfold lG;apply EH;grind
 refine⟨f.heap h.box (h.noTx r),h.file.on (f.on (λk e=>⟨h.file.lies k e,λc=>h.txFile (h.each t r) k c e⟩)),?_,?_,?_⟩
 ·show w'.ownsRow 0 _ 1 D.ov (D.ts.set i t').length (lG (D.ts.set i t'))
  rw[CL,C];exact eF h.row f (λk e c=>h.txRow (h.each t r) k c e)
 ·intro F n
  obtain⟨g,d,rfl⟩:=AU n;rw[CL]at d;rw[DP];split
  ·exact y
  ·next c =>
   have n:=h.each D.ts[g] (AB d);exact n.on (f.on (λk e=>⟨n.lies k e,λx=>Bf h.apart d hi (λj=>c j.symm) k e (m▸x)⟩))
 ·refine BB.2 (λa b p q E=>?_)
  rw[CL]at p q;rw[DP,DP];have u:∀g (d:g<D.ts.length),g≠i->∀k,fpT t' k->¬fpT D.ts[g] k:=λg d B k o l=>by
   rcases A k o with s|s
   ·exact Bf h.apart hi d (Ne.symm B) k (m.symm▸s) l
   ·have:=(h.each D.ts[g] (AB d)).lies k l;omega
  split
  ·next e1 =>
   split
   ·omega
   ·next j=>exact u b q (λc=>j c.symm)
  ·next e1 =>
   split
   ·next j=>exact λk o l=>u a p (λc=>e1 c.symm) k l o
   ·exact Bf h.apart p q (by omega)
theorem Eo {D t t'}(hi:i<D.ts.length)(e:D.ts[i]=t)(d:∀k,fpT t' k->fpT t k\/w.heap.size<=k):aJ w (fpD D) (fpD {D with ts:=D.ts.set i t'}):=by
 rintro k (a|a|a|⟨f,b,a⟩)
 ·exact .inl (.inl a)
 ·exact .inl (.inr (.inl a))
 ·exact .inl (.inr (.inr (.inl a)))
 ·rcases EA b with b|rfl
  ·exact .inl (.inr (.inr (.inr ⟨f,b,a⟩)))
  ·exact(d k a).imp (λc=>.inr (.inr (.inr ⟨t,e▸AB hi,c⟩))) id
theorem bL {β a t}(h:w.heap[β]?=some (.cells #[a] t)):w.c β 0=some a:=by simp[World.cell?,h]
theorem qDi(D x i t key a y z n o w)(h:aO w 1 D)(aa:D.ts.length<=1000)(hi:i<D.ts.length)(s:D.ts[i]=t)(P:gF D.ts x=i)(a5:t.wr=true)(O:cJ t.cs)(a2:t.cs.length<=1000000)(a3:1<=key.size)(a4:key.size<=24)(ab:a.size<=400)(F:w.heap[y]?=some (.cells #[.p D.d 0] 29))(G:w.heap[z]?=some (.cells #[.i x] 3))(H:w.heap[n]?=some (.cells #[.string key] 9))(I:w.heap[o]?=some (.cells #[.string a] 9)):
  cL 37 #[.p y 0,.p z 0,.p n 0,.p o 0] w λe w'=>e=.returned (.i 0)/\∃d f,aO w' 1 {D with ts:=D.ts.set i {t with cs:=cW t.cs ⟨key,a,false⟩,ca:=d,cc:=f}}/\Fr (fpD D) w w'/\aJ w (fpD D) (fpD {D with ts:=D.ts.set i {t with cs:=cW t.cs ⟨key,a,false⟩,ca:=d,cc:=f}}):=by
 have Z:=qH D 1 x i t w h (by omega) hi s P a5;have r:t∈D.ts:=s▸AB hi;have m:Hid (∀X,bW w X->aO X 1 D/\X.c y 0=some (.p D.d 0)/\X.c z 0=some (.i x)/\X.heap[n]?=some (.cells #[.string key] 9)/\X.heap[o]?=some (.cells #[.string a] 9)):=by
  intro X g;exact⟨h.on (vV g h.lies),bL ((g.block _ (gL F)).trans F),bL ((g.block _ (gL G)).trans G),(g.block _ (gL H)).trans H,(g.block _ (gL I)).trans I⟩
 obtain⟨_,A,B,b,c⟩:=m.out w (AC _ _);have j:=bL b;have k:=bL c;have V:∀X,cL 39 #[.string key] X λe w'=>e=.returned (.bool true)/\w'=X:=λX=>by
  have:=kE key X;rw[DM (And.intro a3 a4)]at this;exact this
 have S:Hid (∀X,cL 41 #[.string key] X λe w'=>e=.returned (.string key)/\bW X w'):=λX=>qN key (by omega) X;have T:Hid (∀X,cL 41 #[.string a] X λe w'=>e=.returned (.string a)/\bW X w'):=λX=>qN a (by omega) X;have R:Hid (∀X,aO X 1 D->cL 40 #[.p t.b 0,.agg #[.string key,.string a,.bool false]] X λe w'=>e=.returned (.tuple #[])/\∃d f,eN w' D.β {t with cs:=cW t.cs ⟨key,a,false⟩,ca:=d,cc:=f}/\Fr (fpT t) X w'/\∀l,fpT {t with cs:=cW t.cs ⟨key,a,false⟩,ca:=d,cc:=f} l->fpT t l\/X.heap.size<=l):=λX g=>Fh t D.β ⟨key,a,false⟩ X (g.each t r) O a2;have ac:¬(400:Int)<(a.size:Int):=by omega
 have J:Hid (i<D.ts.length):=hi;have K:Hid (D.ts[i]=t):=s;clear F G H I h s P O;go_enter Tryz.func37,Tryz.ntmps37;go_wp2_with (first
  |(go_at_call 38;(with_reducible refine jC Z ?_);rintro e L ⟨rfl,C⟩;obtain⟨a7,A,B,b,c⟩:=m.out L C;have j:=bL b;have k:=bL c;have W:=V L)
  |(go_at_call 39;(with_reducible refine jC W ?_);rintro e U ⟨rfl,a9⟩;subst U))
 go_region_held3 (λX=>X.c n 0=some (.string key)/\X.c o 0=some (.string a))
  ((first|(with_reducible exact⟨j,k⟩)|(simp[j,k])))
  (first
   |(go_at_call 41;(with_reducible refine jC (S.out _) ?_);rintro e M ⟨rfl,a0⟩;have u:bW w M:=C.drew.trans (a0.mono C.size);obtain⟨a8,A,B,b,c⟩:=m.out M u;have j:=bL b;have k:=bL c)
   |(go_at_call 41;(with_reducible refine jC (T.out _) ?_);rintro e X3 ⟨rfl,a1⟩;have v:bW w X3:=u.trans (a1.mono u.size);obtain⟨p,A,B,b,c⟩:=m.out X3 v;have j:=bL b;have k:=bL c)
   |(go_at_call 40;(with_reducible refine jC (R.out _ p) ?_);rintro e a6 ⟨rfl,d,f,Y,q,N⟩;have Q:=p.retx J.out K.out Y rfl q N;have j:=bL (q.heap b (vI (p.each t r) b (by decide) (by decide)));have k:=bL (q.heap c (vI (p.each t r) c (by decide) (by decide)))))
 all_goals go_wp2
 all_goals go_ret
 all_goals
  refine⟨rfl,d,f,Q,(AA v).trans (q.mono (λl E=>.inl (.inr (.inr (.inr ⟨t,r,E⟩))))),λl E=>?_⟩;have:=Eo (w:=X3) J.out K.out N l E;exact this.imp id (λh=>vJ v.size h)
theorem qGx(D x i t key a w)(h:aO w 0 D)(C:D.ts.length<=1000)(hi:i<D.ts.length)(F:D.ts[i]=t)(I:gF D.ts x=i)(H:t.wr=true)(E:cJ t.cs)(z:t.cs.length<=1000000)(A:1<=key.size)(B:key.size<=24)(G:a.size<=400):
  cL 13 #[.p D.d 0,.i x,.string key,.string a] w λe w'=>e=.returned (.i 0)/\∃c d,aO w' 0 {D with ts:=D.ts.set i {t with cs:=cW t.cs ⟨key,a,false⟩,ca:=c,cc:=d}}/\Fr (fpD D) w w'/\aJ w (fpD D) (fpD {D with ts:=D.ts.set i {t with cs:=cW t.cs ⟨key,a,false⟩,ca:=c,cc:=d}}):=by
 obtain⟨b,f,l,q,J,K,L,-⟩:=al4 w (.cells #[.p D.d 0] 29) (.cells #[.i x] 3) (.cells #[.string key] 9) (.cells #[.string a] 9); have N:=(gL h.box);have M:=bL q;have y:=Bs D 37 #[] #[.p w.heap.size 0,.p (w.heap.size+1) 0,.p (w.heap.size+1+1) 0,.p (w.heap.size+1+1+1) 0] (enters_of Tryz.func37 (by kernel_rfl) rfl) b (h.on (vV l h.lies)) (λr D'=>r=0/\∃c d,D' = {D with ts:=D.ts.set i {t with cs:=cW t.cs ⟨key,a,false⟩,ca:=c,cc:=d}}) (by
  intro s v j P;have k:∀g,w.heap.size<=g->¬Bl.one D.d g:=λg p e=>by simp only[Bl.one]at e;omega
  apply(qDi D x i t key a _ _ _ _ s v C hi F I H E z A B G (j.heap q (k _ (by omega))) (j.heap J (k _ (by omega))) (j.heap K (k _ (by omega))) (j.heap L (k _ (by omega)))).mono;grind)
 go_enter Tryz.func13,Tryz.ntmps13;go_wp2_with (go_at_call 32;(with_reducible apply jC y);rintro e X ⟨r,D',rfl,m,O,n,o,rfl,c,d,rfl⟩);go_ret;exact⟨rfl,c,d,m,(AA l).trans n,λg p=>(o g p).imp id (λh=>vJ l.size h)⟩
open Go.Shelf
attribute [local go_sem] CM
theorem pL{P f p q c e}(h:f.results=#[.cell p c,.cell q e])(b:Array Value)(w:World)(g a:Nat)(t t':TypeId)(cs:Array Value)(v:Value)(d:TypeDesc)(n:b.getD p undef=.pointer (some ⟨g,0,none⟩))(r:b.getD q undef=.pointer (some ⟨a,0,none⟩))(l:w.heap[g]?=some (.cells cs t))(m:w.heap[a]?=some (.cells #[v] t'))(u:P.underlying c=some d)(k:(match d with|.struct _|.array _ _=>true|_=>false)=true)(hi:(P.info? c).map (·.size)=some cs.size)(x:∀w,(isAgg e).run P w=.ok false w):
  (results f b).run P w=.ok (.tuple #[.agg cs,v]) w:=by
 have o:b[p]?.getD undef=.p g 0:=by simp_all
 have s:b[q]?.getD undef=.p a 0:=by simp_all
 have i:w.c a 0=some v:=by simp[World.cell?,m]
 have j:(loadVar e ⟨a,0,none⟩).run P w=.ok v w:=by
  simp[loadVar,x,go_sem,i]
 simp[results,h,o,s,asAddr,JC w g t c cs (0,0) d l u k hi,j]
abbrev tY:Obj:=.cells #[.string ⟨#[]⟩,.string ⟨#[]⟩,.int .i64 0,.int .i64 0] 69
abbrev As(b:Bool):Obj:=.cells #[.bool b] 4
theorem Aq{w:World}{β a b c d t}(h:w.heap[β]?=some (.cells #[a,b,c,d] t)):w.c β 0=some a/\w.c β 1=some b/\w.c β 2=some c/\w.c β 3=some d:=by
 simp[World.cell?,h]
theorem qFe(β root g f cs key S w)(B:aD w S g (cs.flatMap Ch.cells))(s:∀b,S b->b<w.heap.size)(aa:cJ cs)(aq:cs.length<=1000000)(a6:cs.length<=f)(T:fnd cs key=true)(i)(hi:cZ cs key=i)(a8:i<cs.length)(c)(R:cs[i]=c):
  cL 47 #[.agg #[.p β 0,.i root,.slice g cs.length f],.string key] w λe w'=>e=.returned (.tuple #[.agg #[.string c.key,.string c.val,.i c.val.size,.i 0],.bool (!c.gone)])/\bW w w':=by
 obtain⟨a,n,r,al,ak,ai,au⟩:=al3 w (.cells #[.p β 0,.i root,.slice g cs.length f] 90) tY (As false); have P:=nI g f cs key S a (B.on (vV r s)) (λb t=>jY (s b t) r.size) aa (by omega) a6;rw[T,hi]at P;have z:Hid (∀X,bW a X->X.c w.heap.size 2=some (.slice g cs.length f)/\X.heap[w.heap.size+1]?=some tY/\X.heap[w.heap.size+1+1]?=some (As false)/\bW w X/\∃b d,g=some ⟨b,d,none⟩/\b<w.heap.size/\X.c b (d+i * 3)=some (.string c.key)/\X.c b (d+i * 3+1)=some (.string c.val)/\X.c b (d+i * 3+2)=some (.bool c.gone)):=by
  intro X h;have t:=r.trans (h.mono r.size);have A:=(h.block _ (by omega)).trans al;obtain⟨b,d,W,Y,K,L,M⟩:=(B.on (vV t s)).ch a8;rw[R]at K L M;exact⟨(eQ A).2.2,(h.block _ (by omega)).trans ak,(h.block _ (by omega)).trans ai,t,b,d,W,s b Y,K,L,M⟩
 obtain⟨o,_,_,_,b,d,a7,ao,_⟩:=z.out a (AC _ _);subst a7;have H:Hid (∀X,bW a X->X.c w.heap.size 2=some (.slice (some ⟨b,d,none⟩) cs.length f)/\X.heap[w.heap.size+1]?=some tY/\X.heap[w.heap.size+1+1]?=some (As false)/\bW w X/\X.c b (d+i * 3)=some (.string c.key)/\X.c b (d+i * 3+1)=some (.string c.val)/\X.c b (d+i * 3+2)=some (.bool c.gone)):=by
  intro X h;obtain⟨A,Z,a0,a1,am,ar,O,an,a2⟩:=z.out X h;simp only[AX,CA,DA]at O;obtain⟨rfl,rfl⟩:=O;exact⟨A,Z,a0,a1,a2⟩
 have a3:=λX=>Jb c X;have ap:(i:Int)<(cs.length:Int):=by omega
 clear z B hi R T;go_enter Tryz.func47,Tryz.ntmps47;go_wp2_with (go_at_call 96;(with_reducible refine jC P ?_);rintro e V ⟨rfl,C⟩;obtain⟨o,l,j,D,u,x,y⟩:=H.out V C);obtain⟨ad,ae,af,ag⟩:=Aq l;have ah:=aB l;have ab:=bL j;have ac:=aB j;go_region_held3 (λX=>X.c w.heap.size 2=some (.slice (some ⟨b,d,none⟩) cs.length f)/\X.c b (d+i * 3)=some (.string c.key)/\X.c b (d+i * 3+1)=some (.string c.val)/\X.c b (d+i * 3+2)=some (.bool c.gone))
  ((first|(with_reducible exact⟨o,u,x,y⟩)|(refine⟨?_,?_,?_,?_⟩<;>(repeat (with_reducible refine cD (by omega) ?_))<;>(first|(with_reducible exact o)|(with_reducible exact u)|(with_reducible exact x)|(with_reducible exact y)))|(simp[o,u,x,y])))
  (first
   |(go_at_call 97;(with_reducible refine jC (a3 _) ?_);rintro e m ⟨rfl,a4⟩;have U:bW a m:=C.drew.trans (a4.mono C.size);obtain⟨o,l,j,D,u,x,y⟩:=H.out m U;obtain⟨ad,ae,af,ag⟩:=Aq l;have ah:=aB l;have ab:=bL j;have ac:=aB j))
 all_goals
  have F:=aC (aC (aC (aC l 0 (.string c.key)) 1 (.string c.val)) 2 (.i c.val.size)) 3 (.i 0);obtain⟨X3,Q⟩:=nM ((((m.setCell ⟨w.heap.size+1,0,none⟩ (.string c.key)).setCell ⟨w.heap.size+1,1,none⟩ (.string c.val)).setCell ⟨w.heap.size+1,2,none⟩ (.i c.val.size)).setCell ⟨w.heap.size+1,3,none⟩ (.i 0));rw[Q]at F⊢;have N:Fr (Bl.one (w.heap.size+1)) m X3:=Q▸((((AF (Bl.one (w.heap.size+1)) m).setCell (p:=⟨w.heap.size+1,0,none⟩) (.inl rfl) _).setCell (p:=⟨w.heap.size+1,1,none⟩) (.inl rfl) _).setCell (p:=⟨w.heap.size+1,2,none⟩) (.inl rfl) _).setCell (p:=⟨w.heap.size+1,3,none⟩) (.inl rfl) _;have aj:=N.heap j (oN (by omega));have E:bW w (X3.setCell ⟨w.heap.size+1+1,0,none⟩ (.bool (!c.gone))):=(D.trans (N.below D.size (oK (by omega)))).setCell (p:=⟨w.heap.size+1+1,0,none⟩) (by show w.heap.size<=w.heap.size+1+1;omega) _;have I:=aC aj 0 (.bool (!c.gone));have G:(X3.setCell ⟨w.heap.size+1+1,0,none⟩ (.bool (!c.gone))).heap[w.heap.size+1]?=some (.cells #[.string c.key,.string c.val,.i c.val.size,.i 0] 69):=((AF (Bl.one (w.heap.size+1+1)) X3).setCell (p:=⟨w.heap.size+1+1,0,none⟩) (.inl rfl) _).heap (by simpa using F) (oN (by omega));obtain⟨J,a5⟩:=nM (X3.setCell ⟨w.heap.size+1+1,0,none⟩ (.bool (!c.gone)));rw[a5]at I G E⊢;go_wp2;refine BI (v:=.tuple #[.agg #[.string c.key,.string c.val,.i c.val.size,.i 0],.bool (!c.gone)]) ?_ rfl ⟨rfl,E⟩;exact pL (p:=4) (q:=5) rfl _ _ (w.heap.size+1) (w.heap.size+1+1) _ _ _ _ _ rfl rfl G (by simpa using I) Tryz.underlying69 rfl (by kernel_rfl) (λw=>by kernel_rfl)
theorem qFf{P n i a R B f w}{p q:Nat}{e j}(u:i.results=#[.cell p e,.cell q j])(g b t t' cs v d)(r:a.getD p undef=.pointer (some ⟨g,0,none⟩))(s:a.getD q undef=.pointer (some ⟨b,0,none⟩))(l:w.heap[g]?=some (.cells cs t))(m:w.heap[b]?=some (.cells #[v] t'))(x:P.underlying e=some d)(k:(match d with|.struct _|.array _ _=>true|_=>false)=true)(hi:(P.info? e).map (·.size)=some cs.size)(y:∀w,(isAgg j).run P w=.ok false w)(o:Marks B f w)(h:∀w',mF B w w'->R (.returned (.tuple #[.agg cs,v])) w'):
  LeavesInM Fence.wide n P i a R f .returning w :=
 lZ (by simp) o (λw' c=>⟨_,pL u a w' g b t t' cs v d r s (c.cells _ _ _ _ l) (c.cells _ _ _ _ m) x k hi y,h w' c⟩)
abbrev qHy(x:En):Obj:=.cells #[.string x.e.key,.string x.e.val,.int .i64 x.e.size,.int .i64 x.e.over] 69
def nT(key:ByteArray):Sp:=⟨key,key++⟨#[0]⟩⟩
theorem qAv(β sv lv fs)(b8:(fs.life==0)=false)(root s t cs key o)(bb:bJ fs root o)(S w)(a7:aH w β sv lv fs)(b1:aD w S s (cs.flatMap Ch.cells))(ag:∀b,S b->b<w.heap.size)(al:cJ cs)(bu:cs.length<=1000000)(Q:cs.length<=t)(b6:fnd cs key=false)(f:key.size<=1000):
  cL 47 #[.agg #[.p β 0,.i root,.slice s cs.length t],.string key] w λe w'=>∃E:Ent,e=.returned (.tuple #[.agg #[.string E.key,.string E.val,.i E.size,.i E.over],.bool (!(cV (nT key) o).isEmpty)])/\(∀x xs,cV (nT key) o=x :: xs->E=x.e)/\bW w w':=by
 obtain⟨j,K,M,av,bn,bk,c3⟩:=al3 w (.cells #[.p β 0,.i root,.slice s cs.length t] 90) tY (As false); have a5:=nI s t cs key S j (b1.on (vV M ag)) (λb b4=>jY (ag b b4) M.size) al (by omega) Q;rw[b6]at a5;obtain⟨C,b7⟩:=nM (cZ cs key);rw[b7]at a5;obtain⟨ap,aq,ar⟩:=eQ av;have ay:Hid (cV (nT key) o=cV ⟨key,key++⟨#[0]⟩⟩ o):=rfl;have b2:=λX=>yV root β s cs.length t ⟨key,key++⟨#[0]⟩⟩ X;refine(BK (n:=0)).1 (CN Tryz.func47 rfl trivial ?_ rfl);simp only[Tryz.ntmps47,jA,jB,jN,Nat.reduceAdd,Nat.reduceSub,jR,jO,jP,jT,jE,jF];gi_wp2_with (first
  |(refine⟨trivial,rfl,?_⟩;gi_at_call 96;refine(BK.2 a5).mono ?_;rintro e H ⟨rfl,a6⟩;have bp:=(a6.block _ (show w.heap.size<j.heap.size by omega)).trans av;obtain⟨ap,aq,ar⟩:=eQ bp;have ah:=b2 H)
  |(refine⟨trivial,rfl,?_⟩;gi_at_call 98;refine(BK.2 ah).mono ?_;clear ah;rintro e F ⟨rfl,ax,aw,aj⟩))
 have br:=a6.size;have c4:=aj.size;have U:bW j F:=a6.trans (aj.mono br);have V:bW w F:=M.trans (U.mono M.size);have bo:=(U.block _ (show w.heap.size+1<j.heap.size by omega)).trans bn;have bl:=(U.block _ (show w.heap.size+1+1<j.heap.size by omega)).trans bk;have b5:aH F β sv lv fs:=a7.on (vV V a7.lies);have bw:=(gL ax);have bx:=(gL aw);let Rd:Bl:=λa=>a=H.heap.size\/a=H.heap.size+1\/fpF β sv lv a;have an:=yU β sv lv fs b8 root s cs.length t ⟨key,key++⟨#[0]⟩⟩ o bb H.heap.size (H.heap.size+1) Rd F ax aw b5 (.inl rfl) (.inr (.inl rfl)) (λa f=>.inr (.inr f));obtain⟨xs,ao⟩:=nM (cV ⟨key,key++⟨#[0]⟩⟩ o);have N:Hid (cV (nT key) o=xs):=ay.out.trans ao;rw[ao]at an;let N1:=w.heap.size+1;let N2:=w.heap.size+1+1;let I:List En->Bl->World->Prop:=λu A W=>u=[]/\W.heap[N1]?=some tY/\W.heap[N2]?=some (As false)/\(∀a,A a↔a=N1\/a=N2);let Ix:Code->List En->Bl->World->Prop:=λc u A W=>c=.ret/\∃x,u=[x]/\W.heap[N1]?=some (qHy x)/\W.heap[N2]?=some (As true)/\(∀a,A a↔a=N1\/a=N2);refine fF (P:=Tryz.prog) (Has:=qF) (Rd:=Rd) rfl (enters_of Tryz.func134 (by kernel_rfl) rfl) an (λx Z S W a4=>by rw[show Z=_ from a4];rfl) I Ix ?_ ?_ ?_ ?_ (λa=>a=N1\/a=N2) ⟨rfl,bo,bl,λa=>EP⟩ ?_ ?_ ?_ ?_
 ·rintro u A R B ⟨J,h,i,g⟩ L
  exact⟨J,L.heap h ((g _).2 (.inl rfl)),L.heap i ((g _).2 (.inr rfl)),g⟩
 ·rintro c u A R B ⟨Q,x,J,h,i,g⟩ L
  exact⟨Q,x,J,L.heap h ((g _).2 (.inl rfl)),L.heap i ((g _).2 (.inr rfl)),g⟩
 ·rintro u A R ⟨J,h,i,g⟩ a f
  rcases(g a).1 f with rfl|rfl
  ·exact(gL h)
  ·exact(gL i)
 ·rintro c u A R ⟨Q,x,J,h,i,g⟩ a f
  rcases(g a).1 f with rfl|rfl
  ·exact(gL h)
  ·exact(gL i)
 ·rintro a (rfl|rfl|f)
  ·exact⟨λd=>by simp only[N1,N2]at d;omega,by omega⟩
  ·exact⟨λd=>by simp only[N1,N2]at d;omega,by omega⟩
  ·have:=a7.lies a f
   exact⟨λd=>by simp only[N1,N2]at d;omega,by omega⟩
 ·rintro l u x bm Z S Y W bc ⟨rfl,h,i,g⟩ a4 bs G af bt b9 ak ⟨r,al⟩
  have b0:Z=#[.agg #[.string x.e.key,.string x.e.val,.i x.e.size,.i x.e.over]]:=a4;subst b0;clear bc;unfold iN;gi_wp2;refine⟨(AF _ W).alloc _,?_⟩;intro z ai;have bq:=ai.heap (k:=W.heap.size) (aA W (qHy x)) (DK b9);obtain⟨ap,aq,ar,bz⟩:=iM bq;have az:Fr Bl.none W (W.alloc (qHy x)):=(AF _ W).alloc _;have ae:Fr (Bl.one l) W z:=(az.mono (λ_ d=>d.elim)).trans ai.fr;have k:z.heap[w.heap.size+1]?=some tY:=ae.heap h (λd=>by simp only[Bl.one]at d;exact ak ((g _).2 (.inl d.symm)));have m:z.heap[w.heap.size+1+1]?=some (As false):=ae.heap i (λd=>by simp only[Bl.one]at d;exact ak ((g _).2 (.inr d.symm)));obtain⟨bf,bg,bh,bi⟩:=Aq k;have bd:=bL m;have bj:=aB k;have be:=aB m;have c0:w.heap.size+1<W.heap.size:=(gL h);have c1:w.heap.size+1+1<W.heap.size:=(gL i);have aa:=aC (aC (aC (aC k 0 (.string x.e.key)) 1 (.string x.e.val)) 2 (.i x.e.size)) 3 (.i x.e.over);obtain⟨X3,O⟩:=nM ((((z.setCell ⟨w.heap.size+1,0,none⟩ (.string x.e.key)).setCell ⟨w.heap.size+1,1,none⟩ (.string x.e.val)).setCell ⟨w.heap.size+1,2,none⟩ (.i x.e.size)).setCell ⟨w.heap.size+1,3,none⟩ (.i x.e.over));have a0:Fr (Bl.one (w.heap.size+1)) z X3:=O▸((((AF (Bl.one (w.heap.size+1)) z).setCell (p:=⟨w.heap.size+1,0,none⟩) (.inl rfl) _).setCell (p:=⟨w.heap.size+1,1,none⟩) (.inl rfl) _).setCell (p:=⟨w.heap.size+1,2,none⟩) (.inl rfl) _).setCell (p:=⟨w.heap.size+1,3,none⟩) (.inl rfl) _;have au:=a0.heap m (oN (by omega));have ad:=aC au 0 (.bool true);have a1:Fr (Bl.one (w.heap.size+1+1)) X3 (X3.setCell ⟨w.heap.size+1+1,0,none⟩ (.bool true)):=(AF (Bl.one (w.heap.size+1+1)) X3).setCell (p:=⟨w.heap.size+1+1,0,none⟩) (.inl rfl) _;have ab:(X3.setCell ⟨w.heap.size+1+1,0,none⟩ (.bool true)).heap[w.heap.size+1]?=some (qHy x):=a1.heap (by rw[<-O];simpa using aa) (oN (by omega));have ac:Hid (qIr I Ix ([]++[x]) Y z .ret {tmps:=#[],defers:=[]} (X3.setCell ⟨w.heap.size+1+1,0,none⟩ (.bool true))):=by
   refine⟨λa=>a=N1\/a=N2,⟨rfl,x,rfl,ab,by simpa using ad,λa=>EP⟩,?_,?_⟩
   ·refine(a0.mono (λa f=>.inl ((g a).2 (.inl (by simp only[Bl.one]at f;exact f))))).trans (a1.mono (λa f=>.inl ((g a).2 (.inr (by simp only[Bl.one]at f;exact f)))))
   ·rintro a (rfl|rfl)
    ·exact .inl ((g _).2 (.inl rfl))
    ·exact .inl ((g _).2 (.inr rfl))
  rw[<-O]at ac;clear aa ad ab a0 a1 au O;gi_wp2;exact ac.out
 ·rintro D Y W a2 b3 ⟨rfl,h,i,g⟩ G af a3
  have k:W.heap[w.heap.size+1]?=some tY:=h;have m:W.heap[w.heap.size+1+1]?=some (As false):=i;obtain⟨bf,bg,bh,bi⟩:=Aq k;have bd:=bL m;have bj:=aB k;have be:=aB m;have a8:Marks w.heap.size [mk D] W:=(FJ w.heap.size F).cons (λD' _ d=>G.heap d (λe=>by rcases e with rfl|rfl<;>simp_all[N1,N2])) (by omega) a3 a2;gi_wp2;rw[eD k (i:=0) (v:=.string ⟨#[]⟩) rfl,eD k (i:=1) (v:=.string ⟨#[]⟩) rfl,eD k (i:=2) (v:=.i 0) rfl,eD k (i:=3) (v:=.i 0) rfl,eD m (i:=0) (v:=.bool false) rfl];refine qFf (p:=4) (q:=5) rfl (w.heap.size+1) (w.heap.size+1+1) _ _ _ _ _ rfl rfl k m Tryz.underlying69 rfl (by kernel_rfl) (λw=>by kernel_rfl) a8 ?_;intro w' a9;refine⟨⟨⟨#[]⟩,⟨#[]⟩,0,0⟩,by rw[N.out];rfl,λx xs d=>(by rw[N.out]at d;cases d),?_⟩;exact(((AA V).trans (G.mono (λa f=>.inl f))).took a9 (jU _)).below (jU _) (λa f=>by rcases f with rfl|rfl<;>simp only[N1,N2]<;>omega)
 ·rintro D c u Y W a2 b3 ba bv ⟨rfl,x,rfl,h,i,g⟩ G af a3
  have k:=h;have m:=i;have a8:Marks w.heap.size [mk D] W:=(FJ w.heap.size F).cons (λD' _ d=>G.heap d (λe=>by rcases e with rfl|rfl<;>simp_all[N1,N2])) (by omega) a3 a2;obtain⟨bm,am⟩:=ba;gi_wp2;refine qFf (p:=4) (q:=5) rfl (w.heap.size+1) (w.heap.size+1+1) _ _ _ _ _ rfl rfl k m Tryz.underlying69 rfl (by kernel_rfl) (λw=>by kernel_rfl) a8 ?_;intro w' a9;refine⟨x.e,by rw[N.out,<-am];rfl,λy c2 d=>(by rw[N.out,<-am]at d;simp at d;rw[d.1]),?_⟩;exact(((AA V).trans (G.mono (λa f=>.inl f))).took a9 (jU _)).below (jU _) (λa f=>by rcases f with rfl|rfl<;>simp only[N1,N2]<;>omega)
def kX(o:Option (Nat×T))(cs:List Ch)(key:ByteArray):Bool:=if fnd cs key=true then (match cs[cZ cs key]? with|some c=>!c.gone|none=>false) else !(cV (nT key) o).isEmpty
theorem Pr(β sv lv fs)(t:(fs.life==0)=false)(root f g cs key o)(u:bJ fs root o)(S w)(q:aH w β sv lv fs)(l:aD w S f (cs.flatMap Ch.cells))(m:∀b,S b->b<w.heap.size)(k:cJ cs)(n:cs.length<=1000000)(d:cs.length<=g)(s:key.size<=1000):
  cL 47 #[.agg #[.p β 0,.i root,.slice f cs.length g],.string key] w λe w'=>∃a:Ent,e=.returned (.tuple #[.agg #[.string a.key,.string a.val,.i a.size,.i a.over],.bool (kX o cs key)])/\(fnd cs key=true->∀c,cs[cZ cs key]?=some c->a=(chE c).e)/\(fnd cs key=false->∀x xs,cV (nT key) o=x :: xs->a=x.e)/\bW w w':=by
 by_cases hf':fnd cs key=true
 ·have⟨i,_⟩:=uZ hf' k
  apply(qFe β root f g cs key S w l m k n d hf' _ rfl i _ rfl).mono;rintro e w' ⟨rfl,j⟩;refine⟨(chE cs[cZ cs key]).e,?_,λ_ c d=>?_,(λh=>by grind),j⟩
  ·unfold kX
   rw[AW hf',jQ i];rfl
  grind
 ·have r:fnd cs key=false:=by grind
  apply(qAv β sv lv fs t root f g cs key o u S w q l m k n d r s).mono;rintro e w' ⟨a,rfl,p,j⟩;refine⟨a,?_,λh=>absurd h hf',λ_=>p,j⟩;unfold kX;rw[AQ hf']
variable {fs:Fs}
theorem qAg(key k):(nT key).has k=true↔k=key:=by
 have d:(key++(⟨#[0]⟩:ByteArray)).toList=key.toList++[0]:=by
  rw[ByteArray.toList_eq,ByteArray.toList_eq];simp
 have f:(key++(⟨#[0]⟩:ByteArray))≠⟨#[]⟩:=λe=>by
  simp_all
 constructor
 ·intro b
  simp only[nT,Sp.has,AN,fW]at b;rcases b.2 with a|a
  ·grind
  ·unfold lt at a
   rw[d]at a;rcases Ya _ _ a with c|c
   ·have:=Di.2 b.1
    rw[show lt k key=true from c]at this;cases this
   ·exact iB c
 ·rintro rfl
  simp only[nT,Sp.has,AN,fW];refine⟨bI _,.inr ?_⟩;unfold lt;rw[d];exact Xz _
theorem gD {root o}(b:bJ fs root o)(d:oV o):∀x∈aX o,x.good fs:=λx a=>by
 cases o with
 |none=>cases a
 |some p =>
  have⟨c,e⟩:=p;exact(nB b.2.2).2 x a
theorem Bn {x:En}(h:x.good fs):x.ok fs/\(x.e.over≠0->x.e.size≠0):=by
 obtain⟨_,_,⟨a,b,d,c⟩|⟨_,_,g,e,a,b,d,c,f⟩⟩:=h
 ·exact⟨⟨x.e.val.size,0,d,a,c,.inl ⟨rfl,b⟩⟩,λh=>absurd a h⟩
 ·refine⟨⟨g,e,a,b,c,?_⟩,λ_=>by rw[a];omega⟩
  rcases JE e with rfl|h
  ·rename_i hp
   rw[b]at hp;simp[bH]at hp
  grind
def rK(o:Option (Nat×T))(cs:List Ch)(key:ByteArray):Option (List UInt8):=valOf (bD (aX o) cs) key
theorem Iy {root o cs key f}(h:bJ fs root o)(u:oV o)(d:cJ cs)(s:∀c∈cs,c.good)(p:fnd cs key=true->∀c,cs[cZ cs key]?=some c->f=(chE c).e)(q:fnd cs key=false->∀x xs,cV (nT key) o=x :: xs->f=x.e):
  (kX o cs key=false/\rK o cs key=none)\/∃X:En,X.good fs/\f=X.e/\kX o cs key=true/\rK o cs key=some X.value:=by
 unfold rK;rw[qDr (eI h) d];cases hfd:fnd cs key with
 |true =>
  have⟨a,g⟩:=uZ hfd d;have v:cs.find? (λc=>decide (c.key=key))=some (cs[cZ cs key]):=by
   cases hq:cs.find? (λc=>decide (c.key=key)) with
   |none=>grind
   |some c =>
    have j:c.key=key:=by grind
    obtain⟨i,l,rfl⟩:=AU (FU hq);rcases GH i (cZ cs key) with b|b|b
    ·have:=BB.1 d i _ l a b
     rw[j,g,cF]at this;cases this
    ·subst b;rfl
    ·have:=BB.1 d _ i a l b
     rw[j,g,cF]at this;cases this
  rw[v];simp only;unfold kX;rw[AW hfd,jQ a];cases hgo:(cs[cZ cs key]).gone with
  |true=>grind
  |false=>right;exact⟨chE _,Ri (s _ (AB a)),p hfd _ (jQ a),by simp[hgo],by rfl⟩
 |false =>
  have z:cs.find? (λc=>decide (c.key=key))=none:=by
   refine KR.2 λc t=>?_;simp only[BQ];intro n;have:=(Bo d key).2 ⟨c,t,n⟩;grind
  rw[z];simp only;unfold kX;rw[AQ (by grind)];have e:=uP h (nT key);have w:(aX o).filter (λx=>(nT key).has x.e.key)=(aX o).filter (λx=>decide (x.e.key=key)):=List.filter_congr (λx _=>by
   rw[EU,qAg];simp)
  rw[w]at e;unfold valOf;cases hl:cV (nT key) o with
  |nil =>
   simp_all
  |cons x xs =>
   right;have k:(aX o).find? (λx=>decide (x.e.key=key))=some x:=by
    rw[<-List.head?_filter,<-e,hl];rfl
   exact⟨x,gD h u x (FU k),q hfd x xs hl,rfl,by rw[k];rfl⟩
def qJt(D:Db)(i:Nat)(t:Tx)(o:Option (Nat×T))(key:ByteArray)(z:Int)(D':Db):Prop :=
  (kX o t.cs key=true/\z=0/\∃ca' cc',D' = {D with ts:=D.ts.set i {t with cs:=cW t.cs ⟨key,⟨#[]⟩,true⟩,ca:=ca',cc:=cc'}})\/(kX o t.cs key=false/\z=5/\D'=D)
theorem qFn(D x i t o key b0 b1 b2 w)(h:aO w 1 D)(hal:(D.fs.life==0)=false)(hro:bJ D.fs t.root o)(hn:D.ts.length≤1000)(hi:i<D.ts.length)(ht:D.ts[i]=t)(hx:gF D.ts x=i)(hw:t.wr=true)(hr:cJ t.cs)(hcs:t.cs.length≤1000000)(hk1:1≤key.size)(hk2:key.size≤24)(x0:w.heap[b0]?=some (.cells #[.p D.d 0] 29))(x1:w.heap[b1]?=some (.cells #[.i x] 3))(x2:w.heap[b2]?=some (.cells #[.string key] 9)):
    cL 107 #[.p b0 0,.p b1 0,.p b2 0] w λe w'=>∃ z D',e=.returned (.i z)∧aO w' 1 D'∧D'.d=D.d∧Fr (fpD D) w w'∧aJ w (fpD D) (fpD D')∧qJt D i t o key z D':=by
  have hWr:=qH D 1 x i t w h (by omega) hi ht hx hw;have hm:t∈D.ts:=ht▸AB hi;have HK:Hid (∀ X,bW w X→aO X 1 D∧X.c b0 0=some (.p D.d 0)∧X.c b1 0=some (.i x)∧X.heap[b2]?=some (.cells #[.string key] 9)∧X.c t.b 2=some (.p D.β 0)∧X.c t.b 3=some (.i t.root)∧X.c t.b 4=some (.slice t.ca t.cs.length t.cc)):=by
    intro X hX;have hD:=h.on (vV hX h.lies);obtain⟨q0,q1,q2,q3,q4,q5⟩:=rF (hD.each t hm).box;exact⟨hD,bL ((hX.block _ (gL x0)).trans x0),bL ((hX.block _ (gL x1)).trans x1),(hX.block _ (gL x2)).trans x2,q2,q3,q4⟩
  obtain⟨_,c0,c1,y2,q2,q3,q4⟩:=HK.out w (AC _ _);have c2:=bL y2;have hKy:∀ X,cL 39 #[.string key] X λe w'=>e=.returned (.bool true)∧w'=X:=λX=>by
    have:=kE key X;rw [DM (And.intro hk1 hk2)] at this;exact this
  obtain⟨fb,hfb⟩:=nM (kX o t.cs key);have HFi:Hid (∀ X,aO X 1 D→cL 47 #[.agg #[.p D.β 0,.i t.root,.slice t.ca t.cs.length t.cc],.string key] X λe w'=>∃ E:Ent,e=.returned (.tuple #[.agg #[.string E.key,.string E.val,.i E.size,.i E.over],.bool fb])∧bW X w'):=λX hX=>by
    obtain⟨a0,cc0,he,hcc,hrow⟩:=bR (hX.each t hm).row;simp only [Tx.cv,AP,CT] at he;obtain⟨e1,e2⟩:=he;subst e1 e2;refine(Pr D.β D.sv D.lv D.fs hal t.root t.ca t.cc t.cs key o hro (λk=>t.cv.ownBlock=some k) X hX.file hrow (λk hk=>aM (hX.each t hm).row hk) hr hcs hcc (by omega)).mono ?_;rintro e w' ⟨E,rfl,_,_,hb⟩;exact⟨E,by rw [hfb],hb⟩
  have HCk:Hid (∀ X,cL 41 #[.string key] X λe w'=>e=.returned (.string key)∧bW X w'):=λX=>qN key (by omega) X;have HCh:Hid (∀ X,aO X 1 D→cL 40 #[.p t.b 0,.agg #[.string key,.string ⟨#[]⟩,.bool true]] X λe w'=>e=.returned (.tuple #[])∧∃ ca' cc',eN w' D.β { t with cs:=cW t.cs ⟨key,⟨#[]⟩,true⟩,ca:=ca',cc:=cc' }∧Fr (fpT t) X w'∧∀ k,fpT { t with cs:=cW t.cs ⟨key,⟨#[]⟩,true⟩,ca:=ca',cc:=cc' } k→fpT t k∨X.heap.size≤k):=λX hX=>Fh t D.β ⟨key,⟨#[]⟩,true⟩ X (hX.each t hm) hr hcs;have HHI:Hid (i<D.ts.length):=hi;have HTI:Hid (D.ts[i]=t):=ht;have HFB:Hid (kX o t.cs key=fb):=hfb;go_enter Tryz.func107,Tryz.ntmps107;go_wp2_with (first
    | (go_at_call 38;(with_reducible refine jC hWr ?_);rintro e X1 ⟨rfl,hX1⟩;obtain⟨hD1,c0,c1,y2,q2,q3,q4⟩:=HK.out X1 hX1;have c2:=bL y2;have hKy1:=hKy X1)
    | (go_at_call 39;(with_reducible refine jC hKy1 ?_);rintro e X1' ⟨rfl,hX1'⟩;subst X1'))
  have HS:Hid (∀ X,bW w X→X.c b2 0=some (.string key)∧X.c t.b 2=some (.p D.β 0)∧X.c t.b 3=some (.i t.root)∧X.c t.b 4=some (.slice t.ca t.cs.length t.cc)):=λX hX=>by
    obtain⟨_,_,_,y2,q2,q3,q4⟩:=HK.out X hX;exact⟨bL y2,q2,q3,q4⟩
  have zX1:=hX1.size;go_region_held3 (λX=>X.c b2 0=some (.string key)∧X.c t.b 2=some (.p D.β 0)∧X.c t.b 3=some (.i t.root)∧X.c t.b 4=some (.slice t.ca t.cs.length t.cc))
    ((refine HS.out _ ?_;(repeat (first|exact hX1|exact B2|(refine GU ?_)|(refine KN ?_ (by first|omega|(simp;omega)) _)|(refine JI ?_ (by first|omega|(simp;omega)|(show w.heap.size≤X2.heap.size;omega)|(show w.heap.size≤X1.heap.size;omega)) _)))))
    (first
      | (go_at_call 47;(with_reducible refine jC (HFi.out _ (HK.out _ ?_).1) ?_);(first|exact hX1.drew|exact hX1|exact(hX1.alloc zX1 _).drew|exact hX1.drew.alloc zX1 _);rintro e X2 ⟨E,rfl,hX2⟩;have B2:bW w X2:=(by first|exact hX1.drew.trans (hX2.mono zX1)|exact(hX1.alloc zX1 _).drew.trans (hX2.mono (by simp;omega)));have zX2:=B2.size;have xE:=aA X2 tY;obtain⟨g0,g1,g2,g3⟩:=Aq xE;have gfr:=aB xE;try (have xF:X2.heap[X1.heap.size]?=some tY:=(hX2.block _ (by simp)).trans (by first|exact aA X1 tY|exact aA X1.drew tY);obtain⟨g0,g1,g2,g3⟩:=Aq xF;have gfr:=aB xF)))
  all_goals
    clear hKy1 hWr;first
      | (obtain⟨X3,hX3⟩:=nM (X2.alloc (.cells #[.string E.key,.string E.val,.i E.size,.i E.over] 69))
         rw [hX3];have B3:bW w X3:=hX3▸B2.alloc zX2 _;clear hX3)
      | (obtain⟨X3,hX3⟩:=nM ((((X2.setCell ⟨X1.heap.size,0,none⟩ (.string E.key)).setCell ⟨X1.heap.size,1,none⟩ (.string E.val)).setCell ⟨X1.heap.size,2,none⟩ (.i E.size)).setCell ⟨X1.heap.size,3,none⟩ (.i E.over))
         rw [hX3];have B3:bW w X3:=hX3▸((((B2.setCell (p:=⟨X1.heap.size,0,none⟩) zX1 _).setCell (p:=⟨X1.heap.size,1,none⟩) zX1 _).setCell (p:=⟨X1.heap.size,2,none⟩) zX1 _).setCell (p:=⟨X1.heap.size,3,none⟩) zX1 _);clear hX3)
    clear g0 g1 g2 g3 gfr xE;obtain⟨hD3,c0,c1,y2,q2,q3,q4⟩:=HK.out X3 B3;have c2:=bL y2;have hCl:=HCk.out X3;cases fb with
    | false =>
      go_wp2;go_ret;exact⟨5,D,rfl,hD3,rfl,AA B3,CQ _ _,.inr ⟨HFB.out,rfl,rfl⟩⟩
    | true =>
      go_wp2_with (first
        | (go_at_call 41;(with_reducible refine jC hCl ?_);rintro e X4 ⟨rfl,hX4⟩;have B4:bW w X4:=B3.trans (hX4.mono B3.size);obtain⟨hD4,c0,c1,y2,q2,q3,q4⟩:=HK.out X4 B4;have hCg:=HCh.out X4 hD4)
        | (go_at_call 40;(with_reducible refine jC hCg ?_);rintro e X5 ⟨rfl,ca',cc',hT5,hF5,hG5⟩))
      go_ret;refine⟨0,_,rfl,hD4.retx HHI.out HTI.out hT5 rfl hF5 hG5,rfl,(AA B4).trans (hF5.mono (λk hk=>.inl (.inr (.inr (.inr ⟨t,hm,hk⟩))))),λk hk=>?_,.inl ⟨HFB.out,rfl,ca',cc',rfl⟩⟩;have:=Eo (w:=X4) HHI.out HTI.out hG5 k hk;exact this.imp id (λh=>vJ B4.size h)
theorem Ve(D x i t o key w)(h:aO w 0 D)(v:(D.fs.life==0)=false)(G:bJ D.fs t.root o)(E:D.ts.length<=1000)(hi:i<D.ts.length)(H:D.ts[i]=t)(J:gF D.ts x=i)(I:t.wr=true)(F:cJ t.cs)(y:t.cs.length<=1000000)(B:1<=key.size)(C:key.size<=24):
    cL 71 #[.p D.d 0,.i x,.string key] w λe w'=>∃z D',e=.returned (.i z)/\aO w' 0 D'/\D'.d=D.d/\Fr (fpD D) w w'/\aJ w (fpD D) (fpD D')/\qJt D i t o key z D':=by
  obtain⟨a,c,d,k,K,L,-⟩:=al3 w (.cells #[.p D.d 0] 29) (.cells #[.i x] 3) (.cells #[.string key] 9);  have N:=(gL h.box);have M:=bL k;have r:=Bs D 107 #[] #[.p w.heap.size 0,.p (w.heap.size+1) 0,.p (w.heap.size+1+1) 0] (enters_of Tryz.func107 (by kernel_rfl) rfl) a (h.on (vV d h.lies)) (qJt D i t o key) (by
    intro l p f O;have g:∀b,w.heap.size<=b->¬Bl.one D.d b:=λb j e=>by simp only[Bl.one]at e;omega
    exact qFn D x i t o key _ _ _ l p v G E hi H J I F y B C (f.heap k (g _ (by omega))) (f.heap K (g _ (by omega))) (f.heap L (g _ (by omega))))
  go_enter Tryz.func71,Tryz.ntmps71;go_wp2_with (go_at_call 32;(with_reducible apply jC r);rintro e X ⟨z,D',rfl,n,A,q,s,u⟩);go_ret;exact⟨z,D',rfl,n,A,(AA d).trans q,λb j=>(s b j).imp id (λh=>vJ d.size h),u⟩
abbrev Db.drop(D:Db)(i g c:Nat):Db:={D with ov:=.slice (some ⟨g,0,none⟩) (D.ts.length-1) c,ts:=D.ts.eraseIdx i}
theorem Ep{D i g c}(d:D.ov=.q g D.ts.length c):∀k,fpD (D.drop i g c) k->fpD D k:=by
 rintro k (a|a|a|⟨f,e,a⟩)
 ·exact .inl a
 ·exact .inr (.inl a)
 ·exact .inr (.inr (.inl (by rw[d];exact a)))
 ·exact .inr (.inr (.inr ⟨f,List.mem_of_mem_eraseIdx e,a⟩))
theorem qKf(D x i t m n w)(h:aO w 1 D)(u:D.ts.length<=1000)(hi:i<D.ts.length)(y:D.ts[i]=t)(s:gF D.ts x=i)(R:Int->Db->Prop)(q:∀X g c,D.ov=.q g D.ts.length c->aO X 1 (D.drop i g c)->eN X D.β t->cL 44 #[.p D.d 0,.p t.b 0] X λe w'=>∃z D',e=.returned (.i z)/\aO w' 1 D'/\D'.d=D.d/\Fr (fpD (D.drop i g c)) X w'/\aJ X (fpD (D.drop i g c)) (fpD D')/\R z D')(f:w.heap[m]?=some (.cells #[.p D.d 0] 29))(A:w.heap[n]?=some (.cells #[.i x] 3)):
  cL 42 #[.p m 0,.p n 0] w λe w'=>∃z D',e=.returned (.i z)/\aO w' 1 D'/\D'.d=D.d/\Fr (fpD D) w w'/\aJ w (fpD D) (fpD D')/\R z D':=by
 have L:=La D 1 x i t w h (by omega) hi y s;have C:Hid (∀X g c,D.ov=.q g D.ts.length c->aO X 1 (D.drop i g c)->eN X D.β t->cL 44 #[.p D.d 0,.p t.b 0] X λe w'=>∃z D',e=.returned (.i z)/\aO w' 1 D'/\D'.d=D.d/\Fr (fpD (D.drop i g c)) X w'/\aJ X (fpD (D.drop i g c)) (fpD D')/\R z D'):=q;have B:Hid (∀X,Fr (λa=>a=D.d\/D.ov.ownBlock=some a) w X->X.c m 0=some (.p D.d 0)):=λX P=>bL (P.heap f (λe=>by
  rcases e with e|e
  ·have:=h.box;rw[<-e,f]at this;simp at this
  ·exact aQ h.row f (by decide) e))
 have Q:=bL f;have T:=bL A;clear h f A s q y hi;go_enter Tryz.func42,Tryz.ntmps42;go_wp2_with (first
  |(go_at_call 43;(with_reducible refine jC L ?_);rintro e l ⟨rfl,g,c,j,K,O,d⟩;have k:Fr (λa=>a=D.d\/D.ov.ownBlock=some a) w l:=⟨d.os,d.tape,d.output,d.size,λa b u=>d.block a b (λe=>u (e.imp id (λh=>by rw[j,h];rfl)))⟩;have S:=B.out l k;have J:=C.out l g c j K O;have G:Hid (D.ov=.q g D.ts.length c):=j;clear j)
  |(go_at_call 44;(with_reducible refine jC J ?_);rintro e I ⟨z,D',rfl,o,r,M,N,p⟩;have E:Hid (aO I 1 D'):=o;have H:Hid (R z D'):=p;have F:Hid (D'.d=D.d):=r;clear o p r))
 go_ret;have v:=Ep (i:=i) G.out;refine⟨z,D',rfl,E.out,F.out,?_,λa b=>?_,H.out⟩
 ·exact(k.mono (λa b=>.inl (by rcases b with b|b;exact .inl b;exact .inr (.inr (.inl b))))).trans (M.mono (λa b=>.inl (v a b)))
 ·exact(N a b).imp (v a) (λh=>vJ k.size h)
theorem qKg(D x i t w)(h:aO w 0 D)(G:D.ts.length<=1000)(hi:i<D.ts.length)(H:D.ts[i]=t)(F:gF D.ts x=i)(R:Int->Db->Prop)(E:∀X g c,D.ov=.q g D.ts.length c->aO X 1 (D.drop i g c)->eN X D.β t->cL 44 #[.p D.d 0,.p t.b 0] X λe w'=>∃z D',e=.returned (.i z)/\aO w' 1 D'/\D'.d=D.d/\Fr (fpD (D.drop i g c)) X w'/\aJ X (fpD (D.drop i g c)) (fpD D')/\R z D'):
  cL 14 #[.p D.d 0,.i x] w λe w'=>∃z D',e=.returned (.i z)/\aO w' 0 D'/\D'.d=D.d/\Fr (fpD D) w w'/\aJ w (fpD D) (fpD D')/\R z D':=by
 obtain⟨a,f,d,p,I,-⟩:=al2 w (.cells #[.p D.d 0] 29) (.cells #[.i x] 3); have K:=(gL h.box);have J:=bL p;have B:=Bs D 42 #[] #[.p w.heap.size 0,.p (w.heap.size+1) 0] (enters_of Tryz.func42 (by kernel_rfl) rfl) a (h.on (vV d h.lies)) R (by
  intro u y k L;have o:∀b,w.heap.size<=b->¬Bl.one D.d b:=λb n e=>by simp only[Bl.one]at e;omega
  exact qKf D x i t _ _ u y G hi H F R E (k.heap p (o _ (by omega))) (k.heap I (o _ (by omega))))
 go_enter Tryz.func14,Tryz.ntmps14;go_wp2_with (go_at_call 32;(with_reducible apply jC B);rintro e X ⟨z,D',rfl,j,m,A,C,l⟩;have q:Hid (aO X 0 D'):=j;have s:Hid (R z D'):=l;have r:Hid (D'.d=D.d):=m;clear j l m);go_ret;exact⟨z,D',rfl,q,r,(AA d).trans A,λb n=>(C b n).imp id (λh=>vJ d.size h),s⟩
