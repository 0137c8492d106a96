import Derived.Test.YtdhgdcjmhofhaaaGreatD17
set_option linter.all false
set_option maxRecDepth 100000
set_option maxHeartbeats 8000000
namespace Go.Proofs.YtdhgdcjmhofhaaaGreat.Tree
open Go.RowKit Pages
structure Ch where
 key:ByteArray
 val:ByteArray
 gone:Bool
def Ch.cells(c:Ch):List Value:=[.string c.key,.string c.val,.bool c.gone]
def cF(cs:List Ch):Prop:=cs.Pairwise (λa b=>lt a.key b.key=true)
def dH:List Ch->ByteArray->Nat
 |[],_=>0
 |c :: cs,k=>if lt c.key k=true then dH cs k+1 else 0
def fnd(cs:List Ch)(k:ByteArray):Bool:=match cs[dH cs k]? with|some c=>!lt k c.key|none=>false
def uB:∀(cs:List Ch) (k:ByteArray),dH cs k<=cs.length
 |[],_=>jU _
 |c :: cs,k=>by
  have:=uB cs k;simp only[dH,jB];split<;>omega
def uA:∀{cs:List Ch}{k:ByteArray}{i:Nat},i<dH cs k->∃h:i<cs.length,lt cs[i].key k=true
 |[],_,i,hi=>by simp[dH]at hi
 |c :: cs,k,i,hi=>by
  simp only[dH]at hi;split at hi
  .rename_i hc
   cases i with
   |zero=>grind
   |succ i =>
    have⟨h,a⟩:=uA (cs:=cs) (k:=k) (i:=i) (by omega);grind
  .omega
def rA:∀{cs:List Ch}{k:ByteArray},cF cs->∀{i:Nat},dH cs k<=i->∀(a:i<cs.length),lt cs[i].key k=false
 |[],_,_,i,_,a=>by simp at a
 |c :: cs,k,hr,i,hi,a=>by
  have⟨d,e⟩:=BG.1 hr;simp only[dH]at hi;split at hi
  .cases i with
   |zero=>omega
   |succ i=>exact rA e (by omega) (by simpa using a)
  .rename_i hc
   have b:lt c.key k=false:=by grind
   cases i with
   |zero=>exact b
   |succ i =>
    cases hx:lt (cs[i]'(by simpa using a)).key k
    .exact hx
    .have:=eY (d (cs[i]'(by simpa using a)) (AA _)) hx;grind
def qIu{cs k}(f:cF cs){i}(hi:i<=cs.length)(c:∀j (h:j<cs.length),j<i->lt cs[j].key k=true)(d:∀j (h:j<cs.length),i<=j->lt cs[j].key k=false):dH cs k=i:=by
 have g:=uB cs k;by_cases h:dH cs k<i
 .have b:=rA f (jU _) (by omega:dH cs k<cs.length);rw[c (dH cs k) (by omega) h]at b;cases b
 .by_cases h':i<dH cs k
  .have⟨e,a⟩:=uA h'
   grind
  .omega
def Sn{l:List Ch}{j}(a:j<l.length):(l.flatMap Ch.cells)[j * 3]?=some (.t (l[j]).key)/\(l.flatMap Ch.cells)[j * 3+1]?=some (.t (l[j]).val)/\(l.flatMap Ch.cells)[j * 3+2]?=some (.bool (l[j]).gone):=by
 induction l generalizing j with
 |nil=>simp at a
 |cons x l ih =>
  cases j with
  |zero=>simp[Ch.cells]
  |succ j =>
   have:=ih (j:=j) (by simpa using a);have b:(j+1) * 3=j * 3+3:=by omega
   have c:(j+1) * 3+1=j * 3+1+3:=by omega
   have d:(j+1) * 3+2=j * 3+2+3:=by omega
   rw[c,d,b];simpa[Ch.cells] using this
def aH.ch{w S a}{l:List Ch}{j}(h:aH w S a (l.flatMap Ch.cells))(m:j<l.length):∃b c,a=some (aD b c)/\S b/\w.c b (c+j * 3)=some (.t (l[j]).key)/\w.c b (c+j * 3+1)=some (.t (l[j]).val)/\w.c b (c+j * 3+2)=some (.bool (l[j]).gone):=by
 have⟨d,f,g⟩:=Sn m;rcases h with h|⟨b,c,i,k,e⟩
 .grind
 grind
def zJ(s w):cL 160 #[.t s] w λe w'=>e=.r (.bool false)/\w'=w:=by
 have a:(s.toList==s.toList)=true:=by simp
 go_enter Tryz.func160,Tryz.ntmps160;go_wp2;go_ret;simp
def yC(a b:ByteArray):Int:=if lt a b then -1 else if lt b a then 1 else 0
def wQ{k a b}(h:a=b):Ending.returned (.int k a)=.r (.int k b):=by rw[h]
def Sd(a b w):cL 133 #[.t a,.t b] w λe w'=>e=.r (.i (yC a b))/\w'=w:=by
 cases h1:Op.bytesLess a.toList b.toList
 .by_cases h2:a=b
  .have f:(a.toList==b.toList)=true:=Jp h2
   have c:Hid (yC a b=0):=by show _=_;subst h2;simp[yC,cI]
   clear h2;go_enter Tryz.func133,Tryz.ntmps133;go_wp2_with (go_at_call 160;apply(zJ _ _).m;rintro e w' ⟨rfl,d⟩;subst w');go_ret;exact⟨wQ c.symm,rfl⟩
  .have f:=xM h2
   have g:lt b a=true:=by
    cases h:lt b a
    .exact absurd (lE h1 h) h2
    .rfl
   have c:Hid (yC a b=1):=by show _=_;unfold yC;rw[show lt a b=false from h1,g];rfl
   go_enter Tryz.func133,Tryz.ntmps133;go_wp2_with (go_at_call 160;apply(zJ _ _).m;rintro e w' ⟨rfl,d⟩;subst w');go_ret;exact⟨wQ c.symm,rfl⟩
 .have c:Hid (yC a b = -1):=by show _=_;simp[yC,lt,h1]
  go_enter Tryz.func133,Tryz.ntmps133;go_wp2_with (go_at_call 160;apply(zJ _ _).m;rintro e w' ⟨rfl,d⟩;subst w');go_ret;exact⟨wQ c.symm,rfl⟩
def Ai(c:Ch)(k w):cL 132 #[.agg #[.t c.key,.t c.val,.bool c.gone],.t k] w λe w'=>e=.r (.i (yC c.key k))/\bW w w':=by
 have a:bW w (w.alloc (.cells #[.t c.key,.t c.val,.bool c.gone] 101)):=bA _ _;go_enter Tryz.func132,Tryz.ntmps132;go_wp2_with (go_at_call 133;apply(Sd _ _ _).m;rintro e w' ⟨rfl,b⟩;subst w');go_ret;simp_all
def Sk{a b}:(yC a b<0)↔lt a b=true:=by
 unfold yC;grind
def qDa{a b}(h:lt a b=false):(yC a b==0) = !lt b a:=by
 unfold yC;rw[h];cases lt b a<;>rfl
def qEu{a a':Nat}{b c}(d:a=a')(e:b=c):Ending.returned (.tuple #[.i a,.bool b])=.r (.tuple #[.i a',.bool c]):=by rw[d,e]
def Su(ca cc cs k S w)(hR:aH w S ca (cs.flatMap Ch.cells))(hS:lW S w)(hr:cF cs)(hn:cs.length<=1000000)(hc:cs.length<=cc):
  cL 131 #[.s ca cs.length cc,.t k,.func (.func 132) #[] #[]] w λe w'=>e=.r (.tuple #[.i (dH cs k),.bool (fnd cs k)])/\bW w w':=by
 go_enter Tryz.func131,Tryz.ntmps131;go_wp2;go_loopw [9,10] (λa b wr=>∃i j:Nat,a=.i i/\b=.i j/\i<=j/\j<=cs.length/\bW w wr/\Hid ((∀m (h:m<cs.length),m<i->lt cs[m].key k=true)/\(∀m (h:m<cs.length),j<=m->lt cs[m].key k=false))) (λa b _=>(intOf b-intOf a).toNat)
 case atStart=>exact⟨0,cs.length,rfl,rfl,AG _,jU _,AC _ _,λm h U=>by omega,λm h U=>by omega⟩
 case round =>
  obtain⟨i,j,rfl,rfl,Q,A,o,y⟩:=hrel;by_cases hlt:i<j
  .have H:i<=(i+j) / 2:=by omega
   have O:(i+j) / 2<j:=by omega
   have q:(i+j) / 2<cs.length:=by omega
   have⟨W,T,u,F,M,N,J⟩:=(hR.on (vV o hS)).ch q;subst u;have⟨c,x⟩:=nM (cs[(i+j) / 2]);rw[x]at M N J;have L:(i:Int)<(j:Int):=by omega
   have I:=Ai c k wr;have p:((i:Int)+(j:Int)) / 2=(((i+j) / 2:Nat):Int):=by omega
   have V:Hid (((i:Int)+(j:Int)) / 2=(((i+j) / 2:Nat):Int)):=p;have D:Hid (cs[(i+j) / 2]=c):=x;clear p x hR;cases v:lt c.key k
   .have C:¬yC c.key k<0:=by rw[Sk,v];simp
    go_wp2_with (go_at_call 132;apply I.m;rintro e K ⟨rfl,n⟩);go_roundw
    case rel =>
     refine⟨i,(i+j) / 2,rfl,by rw[V.o],H,by omega,o.t (n.m o.size),y.1,λm h R=>?_⟩;by_cases he:m=(i+j) / 2
     .subst he;rw[D.o];exact v
     .have B:=BD.1 hr ((i+j) / 2) m q h (by omega)
      rw[D.o]at B;cases hx:lt cs[m].key k
      .rfl
      .have:=eY B hx;grind
    case measure=>simp[intOf];omega
   .have C:yC c.key k<0:=Sk.2 v
    go_wp2_with (go_at_call 132;apply I.m;rintro e K ⟨rfl,n⟩);go_roundw
    case rel =>
     refine⟨(i+j) / 2+1,j,by rfl,rfl,by omega,A,o.t (n.m o.size),λm h R=>?_,y.2⟩;by_cases he:m=(i+j) / 2
     .subst he;rw[D.o];exact v
     .have B:=BD.1 hr m ((i+j) / 2) h q (by omega)
      rw[D.o]at B;exact eY B v
    case measure=>simp[intOf];omega
  .obtain rfl:i=j:=by omega
   have E:Hid (dH cs k=i):=qIu hr A y.1 y.2;by_cases hin:i<cs.length
   .have⟨W,T,u,F,M,N,J⟩:=(hR.on (vV o hS)).ch hin
    subst u;have v:lt cs[i].key k=false:=y.2 i hin (jU _);have G:Hid (fnd cs k = !lt k cs[i].key):=by show _=_;unfold fnd;rw[E.o];simp[hin]
    have z:(i:Int)<(cs.length:Int):=by omega
    have X:=qDa v;clear hR;go_wp2_with (go_at_call 132;apply (Ai cs[i] k wr).m;rintro e K ⟨rfl,n⟩);go_ret2;exact⟨qEu E.symm G.symm,o.t (n.m o.size)⟩
   .have G:Hid (fnd cs k=false):=by show _=_;unfold fnd;rw[E.o,CE (by omega)]
    have z:¬(i:Int)<(cs.length:Int):=by omega
    clear hR;go_wp2;go_ret2;exact⟨qEu E.symm G.symm,o⟩
def lQ(a c cs k S w)(f:aH w S a (cs.flatMap Ch.cells))(g:lW S w)(l:cF cs)(j:cs.length<=1000000)(i:cs.length<=c):
  cL 96 #[.s a cs.length c,.t k] w λe w'=>e=.r (.tuple #[.i (dH cs k),.bool (fnd cs k)])/\bW w w':=by
 go_enter Tryz.func96,Tryz.ntmps96;go_wp2_with (go_at_call 131;apply (Su a c cs k S w f g l j i).m;rintro e m ⟨rfl,h⟩);go_ret2;simp_all
def Fs.calm(fs:Fs):Fs:={fs with wait:=-1,life:=-1}
def Gn(β sv lv fs r t s w)(h:aF w β sv lv fs)(c:fs.late=[]):
  cL 16 #[.p β 0,.s r t s] w λe w'=>(∃v,e=.r v)/\aF w' β sv .n fs.calm/\Fr (Bl.one β) w w':=by
 obtain⟨l,m,rfl⟩:=aG h.safe;obtain⟨D,E,rfl⟩:=aG h.late;have a:=h.box;have q:fs.late.length=0:=by rw[c];rfl
 rw[q]at a;have⟨x,y,z,A,B⟩:=cV a;have C:=aA a;have f:=aB a 1 .n;have g:=aB f 2 (.i (-1));have i:=aB g 3 (.i (-1));have F:Fr (Bl.one β) w (((w.setCell (aD β 1) .n).setCell (aD β 2) (.i (-1))).setCell (aD β 3) (.i (-1))):=(((AE (Bl.one β) w).s β 1).s β 2).s β 3;have j:(Value.slice l fs.safe.length m).ownBlock≠some β:=aP h.safe h.box (by decide);have n:Hid (aF (((w.setCell (aD β 1) .n).setCell (aD β 2) (.i (-1))).setCell (aD β 3) (.i (-1))) β (.s l fs.safe.length m) .n fs.calm):=by
  exact⟨by simpa[Fs.calm] using i,aS h.safe (F.on (Z:=λd=>Value.ownBlock _=some d) (λd b=>⟨aK h.safe b,λe=>by cases e;exact j b⟩)) (λd b=>b),(by simp only[Fs.calm,c];exact AL _ _ _ _),h.small,h.few⟩
 have o:Hid (Fr (Bl.one β) w (((w.setCell (aD β 1) .n).setCell (aD β 2) (.i (-1))).setCell (aD β 3) (.i (-1)))):=F;clear f g i F j h c;go_enter Tryz.func16,Tryz.ntmps16;go_wp2;go_loopw [4] (λk u=>k=.i 0/\u=w) (λk _=>0)
 case atStart=>simp
 case round =>
  obtain⟨rfl,rfl⟩:=hrel;go_wp2;go_end0;exact⟨⟨_,rfl⟩,n,o⟩
def qHd(β:Nat)(sv lv:Value)(fs:Fs)(n:Int)(w:World)(h:aF w β sv lv fs):
  cL 54 #[.p β 0,.i n] w λe w'=>(∃v,e=.r v)/\(∃z,(0<=z/\(z=0\/z=n))/\aF w' β sv lv {fs with wait:=z})/\Fr (Bl.one β) w w':=by
 have a:=h.box;have⟨d,f,g,i,j⟩:=cV a;have k:=aA a;have c:Hid (∀z,aF (w.setCell (aD β 2) (.int .i64 z)) β sv lv {fs with wait:=z}/\Fr (Bl.one β) w (w.setCell (aD β 2) (.int .i64 z))):=λz=>by
  have b:Fr (Bl.one β) w (w.setCell (aD β 2) (.int .i64 z)):=(AE (Bl.one β) w).setCell (p:=(aD β 2)) (.inl rfl) _;exact⟨h.rebox b rfl rfl (by simpa using aB a 2 (.int .i64 z)),b⟩
 go_enter Tryz.func54,Tryz.ntmps54;go_wp2
 all_goals go_end0
 all_goals exact⟨⟨_,rfl⟩,⟨_,by omega,(c _).1⟩,(c _).2⟩
def qKd(β:Nat)(sv lv:Value)(fs:Fs)(n:Int)(w:World)(h:aF w β sv lv fs):
  cL 55 #[.p β 0,.i n] w λe w'=>(∃v,e=.r v)/\(∃z,(0<=z/\(z=0\/z=n))/\aF w' β sv lv {fs with life:=z})/\Fr (Bl.one β) w w':=by
 have a:=h.box;have⟨d,f,g,i,j⟩:=cV a;have k:=aA a;have c:Hid (∀z,aF (w.setCell (aD β 3) (.int .i64 z)) β sv lv {fs with life:=z}/\Fr (Bl.one β) w (w.setCell (aD β 3) (.int .i64 z))):=λz=>by
  have b:Fr (Bl.one β) w (w.setCell (aD β 3) (.int .i64 z)):=(AE (Bl.one β) w).setCell (p:=(aD β 3)) (.inl rfl) _;exact⟨h.rebox b rfl rfl (by simpa using aB a 3 (.int .i64 z)),b⟩
 go_enter Tryz.func55,Tryz.ntmps55;go_wp2
 all_goals go_end0
 all_goals exact⟨⟨_,rfl⟩,⟨_,by omega,(c _).1⟩,(c _).2⟩
