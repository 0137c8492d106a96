import Derived.Test.YtdhgdcjmhofhaaaGreatD17
set_option linter.all false
set_option maxRecDepth 100000
set_option maxHeartbeats 8000000
namespace Go.Proofs.YtdhgdcjmhofhaaaGreat.Tree
open Go.RowKit Pages Tryz
structure Ch where
 key:ByteArray
 val:ByteArray
 gone:Bool
def Ch.cells(c:Ch):List Value:=[.string c.key,.string c.val,.bool c.gone]
def cJ(cs:List Ch):Prop:=cs.Pairwise (λa b=>lt a.key b.key=true)
def dK:List Ch->ByteArray->Nat
 |[],_=>0
 |c :: cs,k=>if lt c.key k=true then dK cs k+1 else 0
def fnd(cs:List Ch)(k:ByteArray):Bool:=match cs[dK cs k]? with|some c=>!lt k c.key|none=>false
theorem vP:∀(cs:List Ch) (k:ByteArray),dK cs k<=cs
 |[],_=>jU _
 |c :: cs,k=>by
  have:=vP cs k;simp only[dK,jB];split<;>omega
theorem vO:∀{cs:List Ch}{k:ByteArray}{i:Nat},i<dK cs k->∃h:i<cs,lt cs[i].key k=true
 |[],_,i,hi=>by simp[dK]at hi
 |c :: cs,k,i,hi=>by
  simp only[dK]at hi;split at hi
  .rename_i hc
   cases i with
   |zero=>grind
   |succ i =>
    have⟨h,a⟩:=vO (cs:=cs) (k:=k) (i:=i) ω;grind
  .omega
theorem sD:∀{cs:List Ch}{k:ByteArray},cJ cs->∀{i:Nat},dK cs k<=i->∀(a:i<cs),lt cs[i].key k=false
 |[],_,_,i,_,a=>by simp at a
 |c :: cs,k,hr,i,hi,a=>by
  have⟨d,e⟩:=BD.1 hr;simp only[dK]at hi;split at hi
  .cases i with
   |zero=>omega
   |succ i=>exact sD e ω (by simpa using a)
  .rename_i hc;have b:lt c.key k=false:=ζ
   cases i with
   |zero=>exact b
   |succ i =>
    cases hx:lt (cs[i]'(by simpa using a)).key k
    .exact hx
    .have:=fG (d (cs[i]'(by simpa using a)) (AA _)) hx;grind
theorem qNj{cs k}(f:cJ cs){i}(hi:i<=cs.length)(c:∀j (h:j<cs.length),j<i->lt cs[j].key k=true)(d:∀j (h:j<cs.length),i<=j->lt cs[j].key k=false):dK cs k=i:=by
 have g:=vP cs k;by_cases h:dK cs k<i
 .have b:=sD f (jU _) (by omega:dK cs k<cs.length);rw[c (dK cs k) ω h]at b;cases b
 .by_cases h':i<dK cs k
  .have⟨e,a⟩:=vO h';grind
  .omega
theorem Vw{l:List Ch}{j:Nat}(a:j<l):(l.flatMap Ch.cells)[j * 3]?=some (.t (l[j]).key)/\(l.flatMap Ch.cells)[j * 3+1]?=some (.t (l[j]).val)/\(l.flatMap Ch.cells)[j * 3+2]?=some (.bool (l[j]).gone):=by
 induction l generalizing j with
 |nil=>simp at a
 |cons x l ih =>
  cases j with
  |zero=>simp[Ch.cells]
  |succ j =>
   have:=ih (j:=j) (by simpa using a);have b:(j+1) * 3=j * 3+3:=ω;have c:(j+1) * 3+1=j * 3+1+3:=ω;have d:(j+1) * 3+2=j * 3+2+3:=ω;rw[c,d,b];simpa[Ch.cells] using this
theorem aH.ch{w:World}{S:Bl}{a:Option Addr}{l:List Ch}{j:Nat}(h:aH w S a (l.flatMap Ch.cells))(m:j<l):∃b c,a=some (aD b c)/\S b/\w.c b (c+j * 3)=some (.t (l[j]).key)/\w.c b (c+j * 3+1)=some (.t (l[j]).val)/\w.c b (c+j * 3+2)=some (.bool (l[j]).gone):=by
 have⟨d,f,g⟩:=Vw m;rcases h with h|⟨b,c,i,k,e⟩
 .grind
 grind
theorem Bp(s w):cL 160 #[.t s] w λe w'=>e=.r (.bool false)/\w'=w:=by
 go_enter func160,ntmps160;go_wp2;go_ret;simp
def Ca(a b:ByteArray):Int:=if lt a b then -1 else if lt b a then 1 else 0
theorem yT{k a b}(h:a=b):Ending.returned (.int k a)=.r (.int k b):=by rw[h]
theorem Vo(a b w):cL 133 #[.t a,.t b] w λe w'=>e=.r (.i (Ca a b))/\w'=w:=by
 cases h1:Op.bytesLess a.toList b.toList
 .by_cases h2:a=b
  .have f:=Mc h2
   have c:Hid (Ca a b=0):=by show _=_;subst h2;simp[Ca,cP]
   clear h2;go_enter func133,ntmps133;go_wp2_with (go_at_call 160;apply(Bp _ _).m;rintro e w' ⟨rfl,d⟩;subst w');go_ret;exact⟨yT c.symm,rfl⟩
  .have f:=zL h2
   have g:lt b a=true:=by
    cases h:lt b a
    .exact absurd (lQ h1 h) h2
    .rfl
   have c:Hid (Ca a b=1):=by show _=_;unfold Ca;rw[show lt a b=false from h1,g];rfl
   go_enter func133,ntmps133;go_wp2_with (go_at_call 160;apply(Bp _ _).m;rintro e w' ⟨rfl,d⟩;subst w');go_ret;exact⟨yT c.symm,rfl⟩
 .have c:Hid (Ca a b = -1):=by show _=_;simp[Ca,lt,h1]
  go_enter func133,ntmps133;go_wp2_with (go_at_call 160;apply(Bp _ _).m;rintro e w' ⟨rfl,d⟩;subst w');go_ret;exact⟨yT c.symm,rfl⟩
theorem Co(c:Ch)(k w):cL 132 #[.agg #[.t c.key,.t c.val,.bool c.gone],.t k] w λe w'=>e=.r (.i (Ca c.key k))/\bW w w':=by
 have a:bW w (w.alloc (.cells #[.t c.key,.t c.val,.bool c.gone] 101)):=bA _ _;go_enter func132,ntmps132;go_wp2_with (go_at_call 133;apply(Vo _ _ _).m;rintro e w' ⟨rfl,b⟩;subst w');go_ret;simp_all
theorem Vt{a b}:(Ca a b<0)↔lt a b=true:=by
 unfold Ca;grind
theorem qHe{a b}(h:lt a b=false):(Ca a b==0) = !lt b a:=by
 unfold Ca;rw[h];cases lt b a<;>rfl
theorem qIz{a a':Nat}{b c}(d:a=a')(e:b=c):Ending.returned (.tuple #[.i a,.bool b])=.r (.tuple #[.i a',.bool c]):=by rw[d,e]
theorem Wh(ca cc cs k S w)(hR:aH w S ca (cs.flatMap Ch.cells))(hS:lW S w)(hr:cJ cs)(hn:cs.length<=1000000)(hc:cs.length<=cc):
  cL 131 #[.s ca cs cc,.t k,.func (.func 132) #[] #[]] w λe w'=>e=.r (.tuple #[.i (dK cs k),.bool (fnd cs k)])/\bW w w':=by
 go_enter func131,ntmps131;go_wp2;go_loopw [9,10] (λa b wr=>∃i j:Nat,a=.i i/\b=.i j/\i<=j/\j<=cs.length/\bW w wr/\Hid ((∀m (h:m<cs.length),m<i->lt cs[m].key k=true)/\(∀m (h:m<cs.length),j<=m->lt cs[m].key k=false))) (λa b _=>(intOf b-intOf a).toNat)
 case atStart=>exact⟨0,cs,rfl,rfl,AG _,jU _,AC _ _,λm h U=>ω,λm h U=>ω⟩
 case round =>
  obtain⟨i,j,rfl,rfl,Q,A,o,y⟩:=hrel;by_cases hlt:i<j
  .have H:i<=(i+j) / 2:=ω
   have O:(i+j) / 2<j:=ω
   have q:(i+j) / 2<cs.length:=ω
   have⟨W,T,u,F,M,N,J⟩:=(hR.on (vV o hS)).ch q;subst u;have⟨c,x⟩:=nM (cs[(i+j) / 2]);rw[x]at M N J;have L:(i:Int)<(j:Int):=ω
   have I:=Co c k wr;have p:((i:Int)+(j:Int)) / 2=(((i+j) / 2:Nat):Int):=ω
   have V:Hid (((i:Int)+(j:Int)) / 2=(((i+j) / 2:Nat):Int)):=p;have D:Hid (cs[(i+j) / 2]=c):=x;clear p x hR;cases v:lt c.key k
   .have C:¬Ca c.key k<0:=by rw[Vt,v];simp
    go_wp2_with (apply I.m;rintro e K ⟨rfl,n⟩);go_roundw
    case rel =>
     refine⟨i,(i+j) / 2,rfl,by rw[V.o],H,ω,o.t (n.m o.size),y.1,λm h R=>?_⟩;by_cases he:m=(i+j) / 2
     .subst he;rw[D.o];exact v
     .have B:=BC.1 hr ((i+j) / 2) m q h ω;rw[D.o]at B;cases hx:lt cs[m].key k
      .rfl
      .have:=fG B hx;grind
    case measure=>simp[intOf];omega
   .have C:=Vt.2 v;go_wp2_with (apply I.m;rintro e K ⟨rfl,n⟩);go_roundw
    case rel =>
     refine⟨(i+j) / 2+1,j,by rfl,rfl,ω,A,o.t (n.m o.size),λm h R=>?_,y.2⟩;by_cases he:m=(i+j) / 2
     .subst he;rw[D.o];exact v
     .have B:=BC.1 hr m ((i+j) / 2) h q ω;rw[D.o]at B;exact fG B v
    case measure=>simp[intOf];omega
  .obtain rfl:i=j:=ω
   have E:Hid (dK cs k=i):=qNj hr A y.1 y.2;by_cases hin:i<cs.length
   .have⟨W,T,u,F,M,N,J⟩:=(hR.on (vV o hS)).ch hin;subst u;have v:=y.2 i hin (jU _);have G:Hid (fnd cs k = !lt k cs[i].key):=by show _=_;unfold fnd;rw[E.o];simp[hin]
    have z:(i:Int)<(cs.length:Int):=ω
    have X:=qHe v;clear hR;go_wp2_with (apply (Co cs[i] k wr).m;rintro e K ⟨rfl,n⟩);go_ret2;exact⟨qIz E.symm G.symm,o.t (n.m o.size)⟩
   .have G:Hid (fnd cs k=false):=by show _=_;unfold fnd;rw[E.o,CL ω]
    have z:¬(i:Int)<(cs.length:Int):=ω
    clear hR;go_wp2;go_ret2;exact⟨qIz E.symm G.symm,o⟩
theorem mG(a c cs k S w)(f:aH w S a (cs.flatMap Ch.cells))(g:lW S w)(l:cJ cs)(j:cs.length<=1000000)(i:cs.length<=c):
  cL 96 #[.s a cs c,.t k] w λe w'=>e=.r (.tuple #[.i (dK cs k),.bool (fnd cs k)])/\bW w w':=by
 go_enter func96,ntmps96;go_wp2_with (apply (Wh a c cs k S w f g l j i).m;rintro e m ⟨rfl,h⟩);go_ret2;simp_all
def Fs.calm(fs:Fs):Fs:={fs with wait:=-1,life:=-1}
theorem It(β sv lv fs r t s w)(h:aA w β sv lv fs)(c:fs.late=[]):
  cL 16 #[.p β 0,.s r t s] w λe w'=>(∃v,e=.r v)/\aA w' β sv .n fs.calm/\Fr (Bl.one β) w w':=by
 obtain⟨l,m,rfl⟩:=aG h.safe;obtain⟨D,E,rfl⟩:=aG h.late;have a:=h.box;have q:fs.late.length=0:=by rw[c];rfl
 rw[q]at a;have⟨x,y,z,A,B⟩:=cS a;have C:=aF a;have f:=aC a 1 .n;have g:=aC f 2 (.i (-1));have i:=aC g 3 (.i (-1));have F:Fr (Bl.one β) w (((w.setCell (aD β 1) .n).setCell (aD β 2) (.i (-1))).setCell (aD β 3) (.i (-1))):=(((AE (Bl.one β) w).s β 1).s β 2).s β 3;have j:=aQ h.safe h.box δ;have n:Hid (aA (((w.setCell (aD β 1) .n).setCell (aD β 2) (.i (-1))).setCell (aD β 3) (.i (-1))) β (.s l fs.safe m) .n fs.calm):=by
  exact⟨by simpa[Fs.calm] using i,aS h.safe (F.on (Z:=λd=>Value.ownBlock _=some d) (λd b=>⟨aL h.safe b,λe=>by cases e;exact j b⟩)) (λd b=>b),(by simp only[Fs.calm,c];exact AO _ _ _ _),h.small,h.few⟩
 have o:Hid _:=F;clear f g i F j h c;go_enter func16,ntmps16;go_wp2;go_loopw [4] (λk u=>k=.i 0/\u=w) (λk _=>0)
 case atStart=>simp
 case round =>
  obtain⟨rfl,rfl⟩:=hrel;go_wp2;go_end0;exact⟨⟨_,rfl⟩,n,o⟩
theorem qLm(β:Nat)(sv lv:Value)(fs:Fs)(n:Int)(w:World)(h:aA w β sv lv fs):
  cL 54 #[.p β 0,.i n] w λe w'=>(∃v,e=.r v)/\(∃z,(0<=z/\(z=0\/z=n))/\aA w' β sv lv {fs with wait:=z})/\Fr (Bl.one β) w w':=by
 have a:=h.box;have⟨d,f,g,i,j⟩:=cS a;have k:=aF a;have c:Hid (∀z,aA (w.setCell (aD β 2) (.i z)) β sv lv {fs with wait:=z}/\Fr (Bl.one β) w (w.setCell (aD β 2) (.i z))):=λz=>by
  have b:Fr (Bl.one β) w (w.setCell (aD β 2) (.i z)):=(AE (Bl.one β) w).setCell (p:=(aD β 2)) (.inl rfl) _;exact⟨h.rebox b rfl rfl (by simpa using aC a 2 (.i z)),b⟩
 go_enter func54,ntmps54;go_wp2;all_goals go_end0
 all_goals exact⟨⟨_,rfl⟩,⟨_,ω,(c _).1⟩,(c _).2⟩
theorem qOy(β:Nat)(sv lv:Value)(fs:Fs)(n:Int)(w:World)(h:aA w β sv lv fs):
  cL 55 #[.p β 0,.i n] w λe w'=>(∃v,e=.r v)/\(∃z,(0<=z/\(z=0\/z=n))/\aA w' β sv lv {fs with life:=z})/\Fr (Bl.one β) w w':=by
 have a:=h.box;have⟨d,f,g,i,j⟩:=cS a;have k:=aF a;have c:Hid (∀z,aA (w.setCell (aD β 3) (.i z)) β sv lv {fs with life:=z}/\Fr (Bl.one β) w (w.setCell (aD β 3) (.i z))):=λz=>by
  have b:Fr (Bl.one β) w (w.setCell (aD β 3) (.i z)):=(AE (Bl.one β) w).setCell (p:=(aD β 3)) (.inl rfl) _;exact⟨h.rebox b rfl rfl (by simpa using aC a 3 (.i z)),b⟩
 go_enter func55,ntmps55;go_wp2;all_goals go_end0
 all_goals exact⟨⟨_,rfl⟩,⟨_,ω,(c _).1⟩,(c _).2⟩
