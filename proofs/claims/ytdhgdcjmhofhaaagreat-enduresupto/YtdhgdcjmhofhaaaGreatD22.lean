import Derived.Shelf.RegionOpen
import Derived.LoopNIn
import Derived.LoopIn
import Derived.Test.YtdhgdcjmhofhaaaGreatD18
import Derived.Test.YtdhgdcjmhofhaaaGreatD19
import Derived.Test.YtdhgdcjmhofhaaaGreatD20
set_option linter.all false
set_option maxRecDepth 100000
set_option maxHeartbeats 8000000
namespace Go.Proofs.YtdhgdcjmhofhaaaGreat.Tree
open Go.RowKit Go.Shelf Pages
attribute [local go_sem] CM
def sA(x:Int×Sp)(args:Array Value)(S:Bl)(w:World):Prop:=args=#[.int .i64 x.1,spV x.2]
def nS(bw bp s kind ver root next ka ia ea kc ic en ec data keys kids Rd w)(hw:cW w bw #[.t s.lo,.t s.hi] 154)(hp:cW w bp #[.i kind,.i ver,.i root,.i next,.s ka keys.length kc,.s ia kids.length ic,.s ea en ec,.t data] 80)(hK:aH w Rd ka (keys.map .string))(hI:aH w Rd ia (kids.map (.int .i64)))(rw_:Rd bw)(rp:Rd bp)(hkn:keys.length<=1000)(hin:kids.length<=1000)(hkc:keys.length<=kc)(hic:kids.length<=ic):
  nH Tryz.prog 167 #[.p bw 0,.p bp 0] sA (parts s keys kids) Rd w:=by
 intro l J Jx Y W z o X lJ ae ac hY h0;refine KB Tryz.func167 rfl trivial ?_ rfl;simp only[Tryz.ntmps167,jA,jB,jN,Nat.reduceAdd,Nat.reduceSub,jR,jO,jP,jT,jE,jF];have M:=z.heap hw rw_;have A:=z.heap hp rp;have⟨a0,a1⟩:=bY M;have⟨e0,e1,e2,e3,e4,e5,e6,e7⟩:=bO A;have lw:=(o bw rw_).2;have lp:=(o bp rp).2;have L:∀Z v,Fr Z W (W.alloc (.cells v 154)):=λZ v=>(AE Z W).alloc _;have K:=aC W (.cells #[.t s.lo,.t s.hi] 154);have lY:=lJ [] Y W h0;have HA:Hid (∀j (hj:j<kids.length),(parts s keys kids)[j]?=some (kids[j],⟨lF s keys j,pZ s keys j⟩)):=λj hj=>fL s keys kids j hj;have HL:Hid ((parts s keys kids).length=kids.length):=cO s keys kids;gi_wp2;gi_loopw [11] (λi wr=>∃(j:Nat) (y:Bl) (hi:ByteArray),j<=kids.length/\i=.i j/\J ((parts s keys kids).take j) y wr/\Fr Y W wr/\aJ W Y y/\¬y W.heap.size /\
   cW wr W.heap.size #[.t (lF s keys j),.t hi] 154) (λi _=>kids.length-(intOf i).toNat)
 case atStart =>
  exact⟨0,Y,s.hi,AG _,rfl,by simpa using X _ _ _ _ h0 ((CN Y W).alloc lY _),L _ _,CR _ _,λh=>Nat.lt_irrefl _ (lY _ h),K⟩
 case round =>
  obtain⟨j,y,hi,hj,rfl,u,N,r,H,a⟩:=hrel;have I:On Rd W wr:=N.on (λk g=>⟨(o k g).2,(o k g).1⟩);have⟨b0,b1⟩:=bY (I.heap M rw_);have⟨f0,q,f2,f3,f4,f5,f6,f7⟩:=bO (I.heap A rp);have⟨d0,d1⟩:=bY a;have B:=aA a;have aa:=N.size;clear a0 a1 e0 e1 e2 e3 e4 e5 e6 e7 K L;by_cases hlt:j<kids.length
  .have⟨ib,io,a3,a5,a8⟩:=((hI.on z).on I).at hlt
   subst a3;have ad:W.heap.size≠bw:=by omega
   have V:W.heap.size≠bp:=by omega
   have ab:W.heap.size≠ib:=by have:=(o ib a5).2;omega
   by_cases g:j<keys.length
   .have⟨kb,ko,a2,a6,a7⟩:=((hK.on z).on I).at g
    subst a2;have a9:W.heap.size≠kb:=by have:=(o kb a6).2;omega
    have⟨w1,f⟩:=nM ((wr.setCell (aD W.heap.size 1) (.t s.hi)).setCell (aD W.heap.size 1) (.t keys[j]));have m:pZ s keys j=keys[j]:=by simp[pZ,g]
    have D:cW w1 W.heap.size #[.t (lF s keys j),.t (keys[j])] 154:=by
     rw[<-f];have:=aB (aB a 1 (.t s.hi)) 1 (.t keys[j]);simpa using this
    have b:Fr (Bl.one W.heap.size) wr w1:=by rw[<-f];exact((AE (Bl.one W.heap.size) wr).s W.heap.size 1).s W.heap.size 1
    have q:Fr Y W w1:=N.grow b (λk g=>.inr (by cases g;omega));have o1:On y wr w1:=b.on (λk g=>⟨lJ _ _ _ u k g,λh=>by cases h;exact H g⟩);have G:=HA j hlt;have⟨fn,R,C,T,hy,hR⟩:=hY _ _ _ #[.i kids[j],.agg #[.t (lF s keys j),.t (keys[j])]] Bl.none y w1 (sM G) (X _ _ _ _ u o1) (by simp[sA,spV,m]) (λ_ h=>h.elim) q r;have⟨m0,m1⟩:=bY D;have⟨p0,p1,p2,p3,p4,p5,p6,p7⟩:=bO (b.heap (I.heap A rp) (λh=>V h.symm));gi_wp2;clear hy;refine⟨rfl,(eT hR).m ?_⟩;have Q:=oD G;have HT:Hid ((parts s keys kids).take (j+1)=(parts s keys kids).take j++[(kids[j],⟨lF s keys j,pZ s keys j⟩)]):=Q;have F:Hid (pZ s keys j=keys[j]):=m;clear Q m G;rintro e W3 (⟨rfl,Y3,n,c,d⟩|⟨rfl,Y3,n,c,d⟩)
    .have E:=c.heap D H
     have⟨g0,g1⟩:=bY E;have a4:=aA E;have O:¬Y3 W.heap.size:=λh=>by
      rcases d _ h with U|U
      .exact H U
      .have:=(gL D);omega
     have F3:Fr Y W W3:=q.grow c r;have G3:aJ W Y Y3:=r.t q.size d;have y3:=aB E 0 (.t (keys[j]));clear d0 d1 B b0 b1 f0 b f2 f3 f4 f5 f6 f7 a u hI hK;gi_wp2;go_roundw
     case rel =>
      refine⟨j+1,Y3,keys[j],by omega,by go_num,?_,F3.setCell (.inr (jU _)) _,G3,O,?_⟩
      .rw[HT.o]
       exact X _ _ _ _ n ((CN _ _).setCell O _)
      .rw[Jo,F.o]
       simpa using y3
     case measure=>simp[intOf];omega
    .clear d0 d1 B b0 b1 f0 b f2 f3 f4 f5 f6 f7 a u hI hK
     gi_wp2;apply BI (EN rfl _ _ _) rfl;exact⟨⟨_,rfl⟩,Y3,q.grow c r,r.t q.size d,.inr ⟨_,by rw[<-HT.o];exact JU _ _,by simp,n⟩⟩
   .skip
    have⟨w1,f⟩:=nM (wr.setCell (aD W.heap.size 1) (.t s.hi));have m:pZ s keys j=s.hi:=by simp[pZ,g]
    have D:cW w1 W.heap.size #[.t (lF s keys j),.t (s.hi)] 154:=by
     rw[<-f];have:=aB a 1 (.t s.hi);simpa using this
    have b:Fr (Bl.one W.heap.size) wr w1:=by rw[<-f];exact(AE (Bl.one W.heap.size) wr).s W.heap.size 1
    have q:Fr Y W w1:=N.grow b (λk g=>.inr (by cases g;omega));have o1:On y wr w1:=b.on (λk g=>⟨lJ _ _ _ u k g,λh=>by cases h;exact H g⟩);have G:=HA j hlt;have⟨fn,R,C,T,hy,hR⟩:=hY _ _ _ #[.i kids[j],.agg #[.t (lF s keys j),.t (s.hi)]] Bl.none y w1 (sM G) (X _ _ _ _ u o1) (by simp[sA,spV,m]) (λ_ h=>h.elim) q r;have⟨m0,m1⟩:=bY D;have⟨p0,p1,p2,p3,p4,p5,p6,p7⟩:=bO (b.heap (I.heap A rp) (λh=>V h.symm));gi_wp2;clear hy;refine⟨rfl,(eT hR).m ?_⟩;have Q:=oD G;have HT:Hid ((parts s keys kids).take (j+1)=(parts s keys kids).take j++[(kids[j],⟨lF s keys j,pZ s keys j⟩)]):=Q;have F:Hid (pZ s keys j=s.hi):=m;clear Q m G;rintro e W3 (⟨rfl,Y3,n,c,d⟩|⟨rfl,Y3,n,c,d⟩)
    .have E:=c.heap D H
     have⟨g0,g1⟩:=bY E;have a4:=aA E;have O:¬Y3 W.heap.size:=λh=>by
      rcases d _ h with U|U
      .exact H U
      .have:=(gL D);omega
     have F3:Fr Y W W3:=q.grow c r;have G3:aJ W Y Y3:=r.t q.size d;have y3:=aB E 0 (.t (s.hi));clear d0 d1 B b0 b1 f0 b f2 f3 f4 f5 f6 f7 a u hI hK;gi_wp2;go_roundw
     case rel =>
      refine⟨j+1,Y3,s.hi,by omega,by go_num,?_,F3.setCell (.inr (jU _)) _,G3,O,?_⟩
      .rw[HT.o]
       exact X _ _ _ _ n ((CN _ _).setCell O _)
      .rw[Jo,F.o]
       simpa using y3
     case measure=>simp[intOf];omega
    .clear d0 d1 B b0 b1 f0 b f2 f3 f4 f5 f6 f7 a u hI hK
     gi_wp2;apply BI (EN rfl _ _ _) rfl;exact⟨⟨_,rfl⟩,Y3,q.grow c r,r.t q.size d,.inr ⟨_,by rw[<-HT.o];exact JU _ _,by simp,n⟩⟩
  .obtain rfl:j=kids.length:=by omega
   have HJ:Hid (J (parts s keys kids) y wr):=by
    have e:(parts s keys kids).take kids.length=parts s keys kids:=by rw[<-HL.o];exact BK
    rw[e]at u;exact u
   clear u;gi_wp2;go_end0;exact⟨⟨_,rfl⟩,y,N,r,.inl HJ⟩
attribute [local go_sem] CM
def fD(fs:Fs):Nat->Nat->List (Nat×Pg)->Prop
 |_,rest,[]=>rest=0
 |place,rest,x :: l=>x.1=place/\0<rest/\fs.has place x.2/\x.2.kind=4/\x.2.data.size=min rest 240/\∃nx:Nat,x.2.next=nx/\(nx=0↔rest-x.2.data.size=0)/\fD fs nx (rest-x.2.data.size) l
def qIn(x:Nat×Pg)(args:Array Value)(S:Bl)(w:World):Prop:=∃v,args=#[.int .i64 x.1,v]/\qDj w S x.2 v
def eC{w:World}{β a b c t}(h:cW w β #[a,b,c] t):w.c β 0=some a/\w.c β 1=some b/\w.c β 2=some c:=by
 simp[World.cell?,h]
def Gs(be bt β sv lv fs root ca cn cc k v size over xs Rd w)(he:w.heap[be]?=some (.cells #[.string k,.string v,.i size,.i over] 69))(ht:w.heap[bt]?=some (.cells (tA β root ca cn cc) 90))(hf:aF w β sv lv fs)(hl:(fs.life==0)=false)(re:Rd be)(rt:Rd bt)(rf:∀k,fpF β sv lv k->Rd k)(hsz:size<=1000000)(ho:(over=0/\xs=[])\/(0<over/\fD fs over size xs)):
  nH Tryz.prog 137 #[.p be 0,.p bt 0] qIn xs Rd w:=by
 intro l J Jx Y W D y sJ X am aj hY h0;refine KB Tryz.func137 rfl trivial ?_ rfl;simp only[Tryz.ntmps137,jA,jB,jN,Nat.reduceAdd,Nat.reduceSub,jR,jO,jP,jT,jE,jF];have⟨a0,a1,a2,a3⟩:=kA (D.heap he re);have al:=(y be re).2;have an:=(y bt rt).2;have lY:=X [] Y W h0;rcases ho with⟨rfl,rfl⟩|⟨ak,n⟩
 .gi_wp2
  apply BI (EN rfl _ _ _) rfl;exact⟨⟨_,rfl⟩,Y,AE _ _,CR _ _,.inl h0⟩
 .have ad:((over:Int)==0)=false:=by simp;omega
  have HC:Hid (fD fs over size xs):=n;clear n;gi_wp2;gi_loopw [4,5] (λpl rs wr=>∃(q r:Nat) (j d:List (Nat×Pg)) (B:Bl),pl=.i q/\rs=.i r/\r<=1000000/\xs=j++d/\fD fs q r d/\J j B wr/\Fr Y W wr/\aJ W Y B) (λ_ rs _=>(intOf rs).toNat)
  case atStart=>exact⟨over,size,[],xs,Y,rfl,rfl,hsz,rfl,HC,h0,AE _ _,CR _ _⟩
  case round =>
   obtain⟨q,r,j,d,B,rfl,rfl,hr,hx,n,V,hF,K⟩:=hrel;have oR:=hF.on (λk u=>⟨(y k u).2,(y k u).1⟩);have ac:=oR.heap (D.heap ht rt) rt;have aa:=(hf.on (D.m rf)).on (oR.m rf);have⟨b0,b1,b2⟩:=eC ac;cases d with
   |nil =>
    obtain rfl:r=0:=n;have T:Hid (J xs B wr):=by show J xs B wr;grind
    gi_wp2;go_end0;exact⟨⟨_,rfl⟩,B,hF,K,.inl T⟩
   |cons x d =>
    obtain⟨rfl,ai,A,G,a9,nx,L,C,f⟩:=n;have⟨q,g⟩:=x;dsimp only at *;have ah:(0:Int)<(r:Int):=by omega
    have k4:(g.kind==4)=true:=by simp[G]
    have⟨m,hm⟩:∃m,m=r-g.data.size:=⟨_,rfl⟩;rw[<-hm]at f C;have⟨U,a5⟩:∃U,U=decide (m=0):=⟨_,rfl⟩;have e1:(g.next==0)=U:=by
     grind
    have e2:((m:Int)==0)=U:=by
     grind
    have af:(r:Int)-(g.data.size:Int)=(m:Int):=by omega
    have HM:Hid (m<r/\m<=1000000):=by show _/\_;omega
    have a8:Hid (g.next=(nx:Int)):=L;have T:Hid (xs=j++(q,g):: d):=hx;have F:Hid (fD fs nx m d):=f;have Q:=Ez β sv lv fs root ca cn cc q g wr aa hl A;have o:(r<=240/\((g.data.size:Int) != (r:Int))=false)\/(240<r/\((g.data.size:Int) != 240)=false):=by
     grind
    have HK:Hid (g.kind=4):=G;clear G a9 L hx f C hm a5 A;rcases o with⟨ab,a7⟩|⟨ab,a7⟩
    all_goals
     gi_wp2_with (refine⟨trivial,rfl,?_⟩;gi_at_call 138;apply(AZ.2 Q).m;rintro e I ⟨vv,rfl,⟨ka,ia,ea,kc,ic,ec,rfl,q1,q2,q3,qq⟩,O⟩;obtain⟨W3,R,-,x3,-⟩:=al1 I (pgO g ka ia ea kc ic ec);have⟨m0,m1,m2,m3,m4,m5,m6,m7⟩:=bO x3;have f3:Fr Bl.none wr W3:=(AB O).t (R▸(AE _ I).alloc _);have N:Fr Y W W3:=hF.t (f3.m (λ_ h=>h.elim));have a6:=sJ _ _ _ _ V (f3.on (λk u=>⟨X _ _ _ V k u,λh=>h⟩));have Z:On (New wr I) I W3:=R▸(CN _ I).alloc (λk u=>u.2) _;have l3:∀k,New wr I k->¬B k/\k<W3.heap.size:=(λk u=>⟨λM=>by have:=X _ _ _ V k M;have:=u.1;omega,jY u.2 Z.size⟩);obtain⟨fn,ae,a4,ag,M,hR⟩:=hY j (q,g) d #[.i q,.agg #[.i 4,.i g.ver,.i g.root,.i g.next,.s ka g.keys.length kc,.s ia g.kids.length ic,.s ea g.ents.length ec,.t g.data]] (New wr I) B W3 T a6 ⟨_,rfl,ka,ia,ea,kc,ic,ec,by rw[HK.o],q1.on Z,q2.on Z,q3.on Z,qq⟩ l3 N K);refine⟨rfl,(eT hR).m ?_⟩;clear M hR Q;rintro e W4 (⟨rfl,Y4,E,z,H⟩|⟨rfl,Y4,E,z,H⟩)
     .have⟨n0,n1,n2,n3,n4,n5,n6,n7⟩:=bO (z.heap x3 (λM=>by have:=X _ _ _ V _ M;have:=O.size;omega));gi_wp2;go_roundw
      case rel=>exact⟨nx,m,j++[(q,g)],d,Y4,by rw[a8.o],rfl,HM.2,by rw[T.o];simp,F,E,N.grow z K,K.t N.size H⟩
      case measure=>have:=HM.1;simp[intOf];omega
     .clear m0 m1 m2 m3 m4 m5 m6 m7 b0 b1 b2 x3
      gi_wp2;apply BI (EN rfl _ _ _) rfl;exact⟨⟨_,rfl⟩,Y4,N.grow z K,K.t N.size H,.inr ⟨_,⟨d,by rw[T.o];simp⟩,by simp,E⟩⟩
variable {fs:Fs} {g:Pg} {h p:Nat} {ks:List ByteArray} {s:Sp} {u:List Bool}
structure En where
 e:Ent
 ch:List (Nat×Pg)
inductive T where
 |leaf (place:Nat) (es:List En)
 |branch (place:Nat) (ks:List ByteArray) (kids:List T)
def T.place:T->Nat
 |.leaf p _=>p
 |.branch p _ _=>p
def En.ok(fs:Fs)(x:En):Prop:=∃size over:Nat,x.e.size=size/\x.e.over=over/\size<=400/\((over=0/\x.ch=[])\/(0<over/\fD fs over size x.ch))
def En.pages(x:En):List Nat:=x.ch.map (·.1)
def aV(fs:Fs):Nat->T->Sp->Prop
 |0,.leaf p es,s=>∃g,fs.has p g/\g.kind=3/\g.ents=es.map (·.e)/\es≠[]/\(∀x∈es,s.has x.e.key=true)/\∀x∈es,x.ok fs
 |h+1,.branch p ks kids,s=>∃g,fs.has p g/\g.kind=2/\g.keys=ks/\g.kids=kids.map (λt=>(t.place:Int))/\kids.length=ks.length+1 /\
   (∃h0:0<ks.length,lt s.lo ks[0]=true/\s.has (ks[ks.length-1])=true)/\∀x∈parts s ks kids,aV fs h x.1 x.2
 |_,_,_=>False
def T.pages:Nat->T->List Nat
 |_,.leaf p es=>p :: es.flatMap En.pages
 |0,.branch p _ _=>[p]
 |h+1,.branch p _ kids=>p :: kids.flatMap (T.pages h)
def T.subs:Nat->T->List (Nat×T)
 |0,t=>[(0,t)]
 |h+1,.leaf p es=>[(h+1,.leaf p es)]
 |h+1,.branch p ks kids=>(h+1,.branch p ks kids):: kids.flatMap (T.subs h)
variable {t:T}
def qGo{s g a}(h:Ig s g)(b:Ig s a):g=a:=h.2.2.2.t b.2.2.2.symm
def uO {g a}(h:fs.has p g)(b:fs.has p a):g=a:=qGo h.2 b.2
def Kr:∀{l a:List (Nat×Pg)}{p r:Nat},fD fs p r l->fD fs p r a->l=a
 |[],[],_,_,_,_=>rfl
 |[],x :: a,_,r,h,h'=>by
  have⟨_,o,_⟩:=h';have:r=0:=h;omega
 |x :: l,[],_,r,h,h'=>by
  have⟨_,o,_⟩:=h;have:r=0:=h';omega
 |x :: l,x' :: a,p,r,h,h'=>by
  have⟨d,t,e,u,v,q,f,w,g⟩:=h;have⟨i,y,j,z,A,s,k,B,c⟩:=h';have b:=uO e j;have m:q=s:=by grind
  subst m;rw[<-b]at c;have n:x=x':=Prod.ext (d.t i.symm) b;rw[n,Kr g c]
def wK (a:aV fs h t s):∃g,fs.has t.place g/\((h=0/\g.kind=3)\/(0<h/\g.kind=2)):=by
 cases h with
 |zero =>
  cases t with
  |leaf p es=>have⟨g,b,c,_⟩:=a;exact⟨g,b,.inl ⟨rfl,c⟩⟩
  |branch p ks kids=>exact a.elim
 |succ h =>
  cases t with
  |leaf p es=>exact a.elim
  |branch p ks kids=>have⟨g,b,c,_⟩:=a;exact⟨g,b,.inr ⟨by omega,c⟩⟩
def qHj:∀{l a:List En},(∀x∈l,x.ok fs)->(∀x∈a,x.ok fs)->l.map (·.e)=a.map (·.e)->l=a
 |[],[],_,_,_=>rfl
 |[],x :: a,_,_,h=>by simp at h
 |x :: l,[],_,_,h=>by simp at h
 |x :: l,x' :: a,h,h',e=>by
  simp only[BH,GM]at e;have⟨b,q⟩:=e;have⟨A,y,k,m,_,n⟩:=h x (by simp);have⟨B,z,o,p,_,i⟩:=h' x' (by simp);have t:A=B:=by grind
  have s:y=z:=by grind
  subst t s;have j:x.ch=x'.ch:=by
   rcases n with⟨v,c⟩|⟨v,c⟩
   .grind
   .rcases i with⟨w,_⟩|⟨_,d⟩
    .omega
    .exact Kr c d
  have u:x=x':=by
   cases x;cases x';simp only at b j;rw[b,j]
  rw[u,qHj (λg f=>h g (by simp[f])) (λg f=>h' g (by simp[f])) q]
def Do:∀{h b:Nat}{t t':T}{s n:Sp},aV fs h t s->aV fs b t' n->t.place=t'.place->h=b/\t=t':=by
 intro h;induction h with
 |zero =>
  intro b t t' s n m c l;cases t with
  |branch p ks kids=>exact m.elim
  |leaf p es =>
   have⟨g,i,q,C,P,_,J⟩:=m;cases b with
   |zero =>
    cases t' with
    |branch p' ks' kids'=>exact c.elim
    |leaf p' es' =>
     have⟨o,e,r,D,Q,_,K⟩:=c;have f:p=p':=l;subst f;refine⟨rfl,?_⟩;rw[qHj J K (by rw[<-C,<-D,uO i e])]
   |succ b =>
    cases t' with
    |leaf p' es'=>exact c.elim
    |branch p' ks' kids' =>
     have⟨o,e,r,_⟩:=c;have f:p=p':=l;subst f;have d:=uO i e;grind
 |succ h ih =>
  intro b t t' s n m c l;cases t with
  |leaf p es=>exact m.elim
  |branch p ks kids =>
   have⟨g,i,q,G,E,N,_,A⟩:=m;cases b with
   |zero =>
    cases t' with
    |branch p' ks' kids'=>exact c.elim
    |leaf p' es' =>
     have⟨o,e,r,_⟩:=c;have f:p=p':=l;subst f;have d:=uO i e;grind
   |succ b =>
    cases t' with
    |leaf p' es'=>exact c.elim
    |branch p' ks' kids' =>
     have⟨o,e,r,H,F,O,_,B⟩:=c;have f:p=p':=l;subst f;have d:=uO i e;subst d;have y:ks=ks':=G.symm.t H;subst y;have I:kids.length=kids'.length:=by omega
     have v:∀a (j:a<kids.length) (k:a<kids'.length),h=b/\kids[a]=kids'[a]:=λa j k=>by
      have w:=BL (fL s ks kids a j);have x:=BL (fL n ks kids' a k);have M:((kids[a]).place:Int)=((kids'[a]).place:Int):=by
       have:=CI (λL=>L[a]?) (E.symm.t F);grind
      grind
     have z:0<kids.length:=by omega
     refine⟨by rw[(v 0 z (by omega)).1],?_⟩;rw[GB I (λa j k=>(v a j k).2)]
def uZ{a k}(h:gX a k=true):lt a k=true/\k.size<=24:=by
 unfold gX at h;simpa[lt] using h
def wO:∀{ks:List ByteArray}{e:ByteArray},fZ e ks=true->ks.Pairwise (λa b=>lt a b=true)/\∀k∈ks,lt e k=true/\k.size<=24
 |[],_,_=>⟨.nil,by simp⟩
 |k :: r,e,h=>by
  simp only[fZ,AP]at h;have⟨g,i⟩:=uZ h.1;have⟨j,f⟩:=wO h.2;refine⟨BG.2 ⟨λd c=>(f d c).1,j⟩,λd c=>?_⟩;rcases AS.1 c with rfl|c
  .grind
  .exact⟨eY g (f d c).1,(f d c).2⟩
def Fa:∀{es:List Ent}{f:ByteArray},gC f es=true->es.Pairwise (λa b=>lt a.key b.key=true)/\∀e∈es,lt f e.key=true/\e.key.size<=24/\qB e.val e.size e.over=true
 |[],_,_=>⟨.nil,by simp⟩
 |e :: r,f,h=>by
  simp only[gC,AP]at h;have⟨i,j⟩:=uZ h.1.1;have⟨k,g⟩:=Fa h.2;refine⟨BG.2 ⟨λd c=>(g d c).1,k⟩,λd c=>?_⟩;rcases AS.1 c with rfl|c
  .grind
  .exact⟨eY i (g d c).1,(g d c).2⟩
def uN (h:fs.has p g):eF g.kind g.ver g.root g.next g.keys g.kids g.ents g.data=true:=by
 obtain⟨_,_,a,_,rfl⟩:=h;unfold Pg.encE dL at a;grind
def Vx (h:fs.has p g)(d:g.kind=2):g.keys.Pairwise (λa b=>lt a b=true)/\∀k∈g.keys,lt ⟨#[]⟩ k=true/\k.size<=24:=by
 have c:=uN h;unfold eF at c;rw[d]at c;simp only[show ¬((2:Int)=1) by decide,KS,MA,AP,gY]at c;exact wO c.2.2
def Qr (h:fs.has p g)(d:g.kind=3):g.ents.Pairwise (λa b=>lt a.key b.key=true)/\∀e∈g.ents,lt ⟨#[]⟩ e.key=true/\e.key.size<=24/\qB e.val e.size e.over=true:=by
 have c:=uN h;unfold eF at c;rw[d]at c;simp only[show ¬((3:Int)=1) by decide,show ¬((3:Int)=2) by decide,KS,MA,AP]at c;exact Fa c.2.2
def on(u:List Bool)(p:Nat):Prop:=u[p]?=some true
def marks(u:List Bool)(ps:List Nat):List Bool:=ps.foldl (λu p=>u.set p true) u
def uJ(u):marks u []=u:=rfl
def vR(u p ps):marks u (p :: ps)=marks (u.set p true) ps:=rfl
def jI(u ps qs):marks u (ps++qs)=marks (marks u ps) qs:=by simp[marks]
def gP:∀(ps:List Nat) (u:List Bool),(marks u ps).length=u.length
 |[],_=>rfl
 |p :: ps,u=>by rw[vR,gP ps];simp
def qFt {p q}:on (u.set p true) q↔on u q\/(q=p/\p<u.length):=by
 unfold on;grind
def xH:∀{ps:List Nat}{u:List Bool}{q:Nat},on (marks u ps) q↔on u q\/(q∈ps/\q<u.length)
 |[],u,q=>by simp[uJ]
 |p :: ps,u,q=>by
  rw[vR,xH,qFt];grind
def qLg (h:on u p):u.set p true=u:=by
 have⟨d,a⟩:=AD.1 h;apply GB (by simp);grind
def xL:∀{ps:List Nat}{u:List Bool},(∀p∈ps,on u p)->marks u ps=u
 |[],_,_=>rfl
 |p :: ps,u,h=>by
  rw[vR,qLg (h p (by simp))];exact xL (λq a=>h q (by simp[a]))
def Ks:∀{l:List (Nat×Pg)}{p r:Nat},fD fs p r l->∀x∈l,∃g,fs.has x.1 g/\g.kind=4
 |[],_,_,_,x,a=>by simp at a
 |y :: l,p,r,h,x,a=>by
  have⟨b,f,c,d,i,m,j,k,e⟩:=h;rcases AS.1 a with rfl|a
  .grind
  .exact Ks e x a
def xX {x:En}(h:x.ok fs):∀p∈x.pages,∃g,fs.has p g/\g.kind=4:=by
 intro p c;have⟨f,e,_,_,_,h⟩:=h;simp only[En.pages,AW]at c;obtain⟨d,b,rfl⟩:=c;rcases h with⟨_,a⟩|⟨_,a⟩
 .grind
 .exact Ks a d b
def mJ {a}(h:t∈a):∃d,(t,d)∈parts s ks a:=by
 obtain⟨c,b,rfl⟩:=AV h;exact⟨_,BL (fL s ks a c b)⟩
def pB:∀{h:Nat}{t:T}{s:Sp},aV fs h t s->∀x∈T.subs h t,∃c,aV fs x.1 x.2 c/\x.1<=h:=by
 intro h;induction h with
 |zero =>
  intro t s b x a;simp only[T.subs,AJ]at a;grind
 |succ h ih =>
  intro t s b x a;cases t with
  |leaf p es=>exact b.elim
  |branch p ks kids =>
   simp only[T.subs,AS,AX]at a;rcases a with rfl|⟨l,f,a⟩
   .grind
   .have⟨g,_,_,_,_,_,_,e⟩:=b
    have⟨c,i⟩:=mJ (s:=s) (ks:=ks) f;grind
def Ef:∀{h:Nat}{t:T}{s:Sp},aV fs h t s->∀p∈T.pages h t,(∃x∈T.subs h t,x.2.place=p)\/∃g,fs.has p g/\g.kind=4:=by
 intro h;induction h with
 |zero =>
  intro t s b p a;cases t with
  |branch q ks kids=>exact b.elim
  |leaf q es =>
   have⟨g,_,_,_,_,_,j⟩:=b;simp only[T.pages,AS,AX]at a;rcases a with rfl|⟨x,c,a⟩
   .exact .inl ⟨(0,.leaf p es),by simp[T.subs],rfl⟩
   .exact .inr (xX (j x c) p a)
 |succ h ih =>
  intro t s b p a;cases t with
  |leaf q es=>exact b.elim
  |branch q ks kids =>
   have⟨g,_,_,_,_,_,_,f⟩:=b;simp only[T.pages,AS,AX]at a;rcases a with rfl|⟨l,d,a⟩
   .exact .inl ⟨(h+1,.branch p ks kids),by simp[T.subs],rfl⟩
   .have⟨m,k⟩:=mJ (s:=s) (ks:=ks) d
    rcases ih (f _ k) p a with⟨x,c,i⟩|e
    .exact .inl ⟨x,by simp only[T.subs,AS,AX];grind,i⟩
    grind
def Ol (b:aV fs h t s):∀p∈T.pages h t,p<fs.safe.length:=by
 intro p c;rcases Ef b p c with⟨f,e,rfl⟩|⟨g,a,_⟩
 .have⟨i,d,_⟩:=pB b f e
  have⟨g,a,_⟩:=wK d;exact a.1
 .exact a.1
def Shut(u:List Bool)(h:Nat)(t:T):Prop:=∀x∈T.subs h t,on u x.2.place->∀p∈T.pages x.1 x.2,on u p
def Zy:∀x∈T.subs h t,∀p∈T.pages x.1 x.2,p∈T.pages h t:=by
 induction h generalizing t with
 |zero=>intro x a p b;simp only[T.subs,AJ]at a;grind
 |succ h ih =>
  intro x a p b;cases t with
  |leaf q es=>simp only[T.subs,AJ]at a;grind
  |branch q ks kids =>
   simp only[T.subs,AS,AX]at a;rcases a with rfl|⟨d,c,a⟩
   .exact b
   .simp only[T.pages,AS,AX]
    grind
def Shut.after {h c t t' s B}(z:aV fs h t s)(i:aV fs c t' B)(A:fs.safe.length<=u.length)(x:Shut u h t):Shut (marks u (T.pages c t')) h t:=by
 intro f j a p d;rw[xH]at a⊢;rcases a with a|⟨w,_⟩
 .exact .inl (x f j a p d)
 .have⟨F,e,_⟩:=pB z f j
  have v:∃b∈T.subs c t',b.2.place=f.2.place:=by
   rcases Ef i _ w with n|⟨g,q,D⟩
   .exact n
   .have⟨C,r,E⟩:=wK e
    have:=uO q r;grind
  have⟨b,k,o⟩:=v;have⟨G,y,_⟩:=pB i b k;have⟨l,m⟩:=Do e y o.symm;refine .inr ⟨Zy b k p (by grind),jY (Ol e p d) A⟩
def Shut.kid {a}(c:Shut u (h+1) (.branch p ks a)){k}(b:k∈a):Shut u h k:=by
 intro e d;exact c e (by simp only[T.subs,AS,AX];grind)
def Shut.down {b}(d:aV fs (h+1) (.branch p ks b) s)(n:Shut u (h+1) (.branch p ks b)){k}(c:k∈b):Shut (u.set p true) h k:=by
 intro f e a q m;rw[qFt]at a⊢;rcases a with a|⟨j,_⟩
 .exact .inl (n.kid c f e a q m)
 .have⟨g,_,_,_,_,_,_,i⟩:=d;have⟨w,o⟩:=mJ (s:=s) (ks:=ks) c;have⟨x,r,v⟩:=pB (i _ o) f e;have⟨t,_⟩:=Do r d j;omega
variable {B a p:Nat} {Y:Bl} {fs:Fs} {g:Pg} {u:List Bool} {w w':World}
def nT(g)(s:Sp)(f c a h d b w):
  cL 145 #[.agg #[.i g.kind,.i g.ver,.i g.root,.i g.next,.s f g.keys.length h,.s c g.kids.length d,.s a g.ents.length b,.t g.data],.agg #[.t s.lo,.t s.hi]] w λe w' =>
   e=.r (.func (.func 167) #[] #[.p (w.heap.size+1) 0,.p w.heap.size 0]) /\
   w'.heap[w.heap.size]?=some (pgO g f c a h d b)/\w'.heap[w.heap.size+1]?=some (.cells #[.t s.lo,.t s.hi] 154)/\bW w w':=by
 have B:bW w ((w.alloc (pgO g f c a h d b)).alloc (.cells #[.t s.lo,.t s.hi] 154)):=(bA _ _).alloc (by simp) _;have i:((w.alloc (pgO g f c a h d b)).alloc (.cells #[.t s.lo,.t s.hi] 154)).heap[w.heap.size]?=some (pgO g f c a h d b):=aQ _ (aC w _);have j:((w.alloc (pgO g f c a h d b)).alloc (.cells #[.t s.lo,.t s.hi] 154)).heap[w.heap.size+1]?=some (.cells #[.t s.lo,.t s.hi] 154):=by
  have:=aC (w.alloc (pgO g f c a h d b)) (.cells #[.t s.lo,.t s.hi] 154);simpa using this
 go_enter Tryz.func145,Tryz.ntmps145;go_wp2;go_ret;simp_all
def Gt(root β a c b k v size d w):
  cL 99 #[.agg #[.p β 0,.i root,.s a c b],.agg #[.t k,.t v,.i size,.i d]] w λe w' =>
   e=.r (.func (.func 137) #[] #[.p (w.heap.size+1) 0,.p w.heap.size 0]) /\
   w'.heap[w.heap.size]?=some (.cells #[.p β 0,.i root,.s a c b] 90)/\w'.heap[w.heap.size+1]?=some (.cells #[.t k,.t v,.i size,.i d] 69)/\bW w w':=by
 have B:bW w ((w.alloc (.cells #[.p β 0,.i root,.s a c b] 90)).alloc (.cells #[.t k,.t v,.i size,.i d] 69)):=(bA _ _).alloc (by simp) _;have f:((w.alloc (.cells #[.p β 0,.i root,.s a c b] 90)).alloc (.cells #[.t k,.t v,.i size,.i d] 69)).heap[w.heap.size]?=some (.cells #[.p β 0,.i root,.s a c b] 90):=aQ _ (aC w _);have g:((w.alloc (.cells #[.p β 0,.i root,.s a c b] 90)).alloc (.cells #[.t k,.t v,.i size,.i d] 69)).heap[w.heap.size+1]?=some (.cells #[.t k,.t v,.i size,.i d] 69):=by
  have:=aC (w.alloc (.cells #[.p β 0,.i root,.s a c b] 90)) (.cells #[.t k,.t v,.i size,.i d] 69);simpa using this
 go_enter Tryz.func99,Tryz.ntmps99;go_wp2;go_ret;simp_all
attribute [local go_sem] CM
def bB(w:World)(ub:Nat)(u:List Bool):Prop:=w.ownsRow 0 4 1 (.slice (some (aD ub 0)) 4096 4096) 4096 (u.map .bool)
def bB.cell (h:bB w a u)(b:p<4096)(c:u.length=4096):w.cell? (aD a p)=some (.bool (u[p]'(by omega))):=by
 have:=World.ownsRow.cellAt (w:=w) h p (by omega);rw[this];simp[c,b]
def bB.free (h:bB w a u)(p):w.frozen? (aD a p)=false:=KP (w:=w) h p
def bB.set (h:bB w a u)(p):bB (w.setCell (aD a p) (.bool true)) a (u.set p true):=by
 have:=(World.ownsRow.stored (w:=w) h p (.bool true)).1;unfold bB;rw[List.map_set];exact this
def bB.on (h:bB w a u)(c:On Y w w')(d:Y a):bB w' a u:=aS h c (λe b=>by simp[Value.ownBlock]at b;subst b;exact d)
def bB.lt (h:bB w a u):a<w.heap.size:=aK h (k:=a) rfl
def bB.fr (h:bB w a u)(f:Fr Y w w')(c:¬Y a):bB w' a u:=h.on (f.on (Z:=Bl.one a) (λd b=>by cases b;exact⟨h.lt,c⟩)) rfl
def bB.apart {e β sv lv}(h:bB w e u)(a:aF w β sv lv fs):¬fpF β sv lv e:=by
 have⟨_,i⟩:=id h;rcases i with⟨f,_⟩|⟨g,j,k,d,_,b,_⟩
 .simp at f
 .simp only[AQ,BB,CC,DD,CV]at d
  obtain⟨rfl,_⟩:=d;rintro(rfl|c|c)
  .have:=a.box;rw[b]at this;simp at this
  .exact aP a.safe b (by decide) c
  .exact aP a.late b (by decide) c
def bB.nodef {c}(h:bB w c u)(d:w.heap[c]?=some (.deferred (some []))):False:=by
 have⟨_,a⟩:=h;rcases a with⟨a,_⟩|⟨g,e,f,a,_,b,_⟩
 .simp at a
 .simp at a
  obtain⟨rfl,_⟩:=a;rw[d]at b;simp at b
def sW {e z v n xs C}(h:w.ownsRow B e z v n xs)(j:mP C w w'):w'.ownsRow B e z v n xs:=by
 have⟨d,a⟩:=h;refine⟨d,?_⟩;rcases a with a|⟨g,b,c,rfl,f,i,r⟩
 .exact .inl a
 .exact .inr ⟨g,b,c,rfl,f,j.cells _ _ _ _ i,r⟩
def bB.took (h:bB w a u)(b:mP B w w'):bB w' a u:=sW h b
def Fr.took {a w w'}(h:Fr Y a w)(b:mP B w w')(f:a.heap.size<=B):Fr Y a w' :=
 ⟨b.os.t h.os,b.tape.t h.tape,b.output.t h.output,by rw[b.size];exact h.size,λc d e=>(b.low c (by omega)).t (h.block c d e)⟩
def sR (h:fs.has p g)(a:g.kind=3):g.keys=[]/\g.kids=[]:=by
 obtain⟨_,_,_,_,rfl⟩:=h;revert a;unfold dN mI;split
 .intro h;simp at h
 .split
  .intro h;simp at h
  .split
   .intro _;exact⟨rfl,rfl⟩
   .split
    .intro h;simp at h
    .rename_i h3 _
     intro h;simp only at h;omega
def qG (h:fs.has p g)(a:g.kind=2):g.ents=[]:=by
 obtain⟨_,_,_,_,rfl⟩:=h;revert a;unfold dN mI;split
 .intro h;simp at h
 .split
  .intro _;rfl
  .split
   .intro h;simp at h
   .split
    .intro h;simp at h
    .intro _;rfl
def gK (h:fs.has p g):g.keys.length<=1000/\g.kids.length<=1000/\g.ents.length<=1000:=by
 obtain⟨_,_,_,_,rfl⟩:=h;have a:=((fs.at p).data.toList.getD (aZ (fs.at p).data.toList 0 1) 0).toNat_lt;unfold dN mI;split
 .simp
 .split
  .exact⟨(by simp only[Jz];omega),(by simp only[Jy];omega),by simp⟩
  .split
   .refine⟨by simp,by simp,?_⟩
    simp only[Kj];omega
   .split<;>simp
def Shut.afters {h t s}:∀{l:List T}{u:List Bool},(∀k∈l,∃a,aV fs h k a)->aV fs h t s->fs.safe.length<=u.length->Shut u h t->Shut (marks u (l.flatMap (T.pages h))) h t
 |[],u,_,_,_,hs=>hs
 |k :: l,u,hl,ht,hu,hs=>by
  have⟨a,c⟩:=hl k (by simp);rw[AK,jI];exact Shut.afters (λk b=>hl k (by simp[b])) ht (by rw[gP];exact hu) (hs.after ht c hu)
def Oy(β sv lv fs)(hl:(fs.life==0)=false)(root ca cn cc ub h)(ih:∀(t:T) (s:Sp) (u:List Bool) (w:World),aV fs h t s->Shut u h t->u.length=4096->aF w β sv lv fs->bB w ub u ->
   cL 114 #[.agg #[.p β 0,.i root,.s ca cn cc],.i t.place,.agg #[.t s.lo,.t s.hi],.q ub 4096 4096] w λe w' =>
    (∃v,e=.r v)/\bB w' ub (marks u (T.pages h t))/\Fr (Bl.one ub) w w')(p ks kids s u w)(ht:aV fs (h+1) (.branch p ks kids) s)(hs:Shut u (h+1) (.branch p ks kids))(hu:u.length=4096)(hf:aF w β sv lv fs)(hU:bB w ub u)(hnot:¬on u p):
  cL 114 #[.agg #[.p β 0,.i root,.s ca cn cc],.i p,.agg #[.t s.lo,.t s.hi],.q ub 4096 4096] w λe w' =>
    (∃v,e=.r v)/\bB w' ub (marks u (T.pages (h+1) (.branch p ks kids)))/\Fr (Bl.one ub) w w':=by
 have⟨g,hg,hk2,hks,hkd,hlen,⟨h0,c1,c2⟩,hall⟩:=ht;have hp:p<4096:=jY hg.1 hf.small;have hpi:(p:Int)<4096:=by omega
 have⟨W1,hW1,B1,t1,s1,b1,z1⟩:=al3 w (.cells #[.p β 0,.i root,.s ca cn cc] 90) (.cells #[.t s.lo,.t s.hi] 154) (.cells #[.q ub 4096 4096] 139); have hU1:bB W1 ub u:=hU.on (vV B1 (Y:=Bl.one ub) (λk hk=>by simp only[Bl.one]at hk;subst hk;exact hU.lt)) rfl;have hcu:=hU1.cell hp hu;have hval:u[p]'(by omega)=false:=by
  cases hv:u[p]'(by omega) with
  |false=>rfl
  |true=>exact absurd (AD.2 ⟨by omega,hv⟩) hnot
 rw[hval]at hcu;have hfz:=hU1.free;have⟨W2,hW2⟩:=nM (W1.setCell (aD ub p) (.bool true));have lub:=hU.lt;have f2:Fr (Bl.one ub) W1 W2:=hW2▸(AE (Bl.one ub) W1).s ub p;have hU2:bB W2 ub (u.set p true):=hW2▸hU1.set p;have t2:=f2.heap t1 (oN (by omega));have s2:=f2.heap s1 (oN (by omega));have b2:=f2.heap b1 (oN (by omega));have⟨tc0,tc1,tc2⟩:=eC t2;have⟨sc0,sc1⟩:=bY s2;have bc0:W2.c (w.heap.size+1+1) 0=some (.q ub 4096 4096):=by simp[World.cell?,b2]
 have bc1:W1.c (w.heap.size+1+1) 0=some (.q ub 4096 4096):=by simp[World.cell?,b1]
 have hf1:aF W1 β sv lv fs:=hf.on (vV B1 hf.lies);have hf2:aF W2 β sv lv fs:=hf1.on (f2.on (λk hk=>⟨hf1.lies k hk,λh=>by simp only[Bl.one]at h;subst h;exact hU1.apart hf1 hk⟩));have⟨sm1,sm2,sm3⟩:=gK hg;have hNd:=pF β sv lv fs root ca cn cc p s g W2 hf2 hl hg (by simp[hk2]) (by rw[hks];exact h0) (by simp only[hks];exact c1) (by simp only[hks];exact c2) sm1 sm3;have HK2:Hid (g.kind=2):=hk2;have HKS:Hid (g.keys=ks):=hks;have HKD:Hid (g.kids=kids.map (λt=>(t.place:Int))):=hkd;have HLN:Hid (kids.length=ks.length+1):=hlen;have HU:Hid (u.length=4096):=hu;clear hk2 hks hkd hlen hu hval z1;refine(AZ (n:=0)).1 (BX Tryz.func114 rfl trivial ?_ rfl);simp only[Tryz.ntmps114,jA,jB,jN,Nat.reduceAdd,Nat.reduceSub,jR,jO,jP,jT,jE,jF];gi_wp2_with (first
  |(refine⟨trivial,rfl,?_⟩;gi_at_call 144;apply(AZ.2 hNd).m;clear hNd;rintro e W3 ⟨vv,rfl,⟨ka,ia,ea,kc,ic,ec,rfl,q1,q2,q3,qq⟩,hb3⟩;obtain⟨W4,hW4,-,x4,-⟩:=al1 W3 (pgO g ka ia ea kc ic ec);have⟨m0,m1,m2,m3,m4,m5,m6,m7⟩:=bO x4;have f4:Fr Bl.none W2 W4:=(AB hb3).t (hW4▸(AE _ W3).alloc _);have⟨sd0,sd1⟩:=bY (f4.heap s2 (λh=>h));have hKc:=nT g s ka ia ea kc ic ec W4)
  |(refine⟨trivial,rfl,?_⟩;gi_at_call 145;apply(AZ.2 hKc).m;clear hKc;rintro e W5 ⟨rfl,y1,y2,hb5⟩))
 have f5:Fr Bl.none W2 W5:=f4.t (AB hb5);have z4:W3.heap.size<W4.heap.size:=(gL x4);have z3:=hb3.size;have hU5:bB W5 ub (u.set p true):=hU2.fr f5 (λh=>h);have hf5:aF W5 β sv lv fs:=hf2.on (f5.on (λk hk=>⟨hf2.lies k hk,λh=>h⟩));have z5:W4.heap.size+1<W5.heap.size:=(gL y2);have zW2:w.heap.size+1+1<W2.heap.size:=(gL b2);have o35:On (New W2 W3) W3 W5:=(hW4▸(CN _ W3).alloc (λk hk=>hk.2) _:On (New W2 W3) W3 W4).t (vV hb5 (λk hk=>by have:=hk.2;omega));let Rd:Bl:=λk=>k=W4.heap.size\/k=W4.heap.size+1\/New W2 W3 k;have hxs:parts s g.keys g.kids=(parts s ks kids).map (λx=>((x.1.place:Int),x.2)):=by rw[HKS.o,HKD.o,nL]
 let I:List (Int×Sp)->Bl->World->Prop:=λpre Y W=>bB W ub (marks (u.set p true) ((kids.take pre.length).flatMap (T.pages h)))/\Y=Bl.one ub;refine fI (P:=Tryz.prog) (Has:=sA) (Rd:=Rd) rfl (enters_of Tryz.func167 (by kernel_rfl) rfl) (nS (W4.heap.size+1) W4.heap.size s g.kind g.ver g.root g.next ka ia ea kc ic g.ents.length ec g.data g.keys g.kids Rd W5 y2 y1 ((q1.on o35).m (λk hk=>.inr (.inr hk))) ((q2.on o35).m (λk hk=>.inr (.inr hk))) (.inr (.inl rfl)) (.inl rfl) sm1 sm2 qq.1 qq.2.1) (λx args S W hH=>by rw[hH];rfl) I (λ_ _ _ _=>False) ?_ (λ_ _ _ _ _ h=>h.elim) ?_ (λ_ _ _ _ h=>h.elim) (Bl.one ub) ⟨by simpa[uJ] using hU5,rfl⟩ ?_ ?_ ?_ (λ_ _ _ _ _ _ _ _ _ h=>h.elim)
 .rintro pre Y W W' ⟨h1,rfl⟩ ho
  exact⟨h1.on ho rfl,rfl⟩
 .rintro pre Y W ⟨h1,rfl⟩ k hk
  simp only[Bl.one]at hk;subst hk;exact h1.lt
 .rintro k (rfl|rfl|hk)
  .exact⟨oN (by omega),by omega⟩
  .exact⟨oN (by omega),by omega⟩
  .exact⟨λh=>by simp only[Bl.one]at h;have:=hk.1;omega,by have:=hk.2;omega⟩
 .
  rintro l pre x rest args S Y' W hx ⟨hUp,rfl⟩ hH hS hFW hGW hl0 hl1 hl2 ⟨r,hr⟩;have hjl:pre.length<kids.length:=by
   have:=CI List.length hx;rw[hxs]at this;simp[cO]at this;omega
  have⟨kid,hkid⟩:=nM (kids[pre.length]'hjl);have⟨sp,hsp⟩:=nM ((⟨lF s ks pre.length,pZ s ks pre.length⟩:Sp));have hpa:=fL s ks kids pre.length hjl;rw[hkid,hsp]at hpa;have hxe:x=((kid.place:Int),sp):=by
   have h1:(parts s g.keys g.kids)[pre.length]?=some x:=by rw[hx];simp
   rw[hxs,BN,hpa]at h1;simpa using h1.symm
  have hst:aV fs h kid sp:=hall _ (BL hpa);have hkm:kid∈kids:=hkid▸AA hjl;subst hxe;have hH':args=#[.i kid.place,.agg #[.t sp.lo,.t sp.hi]]:=hH;subst hH';have zW:W5.heap.size<=W.heap.size:=hFW.size;have⟨um,hum⟩:=nM (marks (u.set p true) ((kids.take pre.length).flatMap (T.pages h)));rw[hum]at hUp;have hlm:um.length=4096:=by rw[<-hum,gP];simpa using HU.o
  have hsh:Shut um h kid:=by
   rw[<-hum];exact Shut.afters (fs:=fs) (λk hk=>by have⟨s',hs'⟩:=mJ (s:=s) (ks:=ks) (DC hk);exact⟨s',hall _ hs'⟩) hst (by simp[HU.o];exact hf.small) (hs.down ht hkm)
  have tW:=hFW.heap (f5.heap t2 (λh=>h)) (oN (by omega));have bW:=hFW.heap (f5.heap b2 (λh=>h)) (oN (by omega));have hfW:aF W β sv lv fs:=hf5.on (hFW.on (λk hk=>⟨hf5.lies k hk,λh=>by simp only[Bl.one]at h;subst h;exact hU5.apart hf5 hk⟩));have HM:Hid (marks um (T.pages h kid)=marks (u.set p true) ((kids.take (pre.length+1)).flatMap (T.pages h))):=by
   show _=_
   rw[<-hum,<-jI,AN hjl,BV,hkid];simp
  have ihk:=λW' hf' hU'=>ih kid sp um W' hst hsh hlm hf' hU';clear hum hlm hkid hsp hpa hxs hx hsh;unfold iY;gi_wp2;refine⟨(AE _ W).alloc _,?_⟩;intro W₂ hT;have aW:Fr Bl.none W (W.alloc (.cells #[.t sp.lo,.t sp.hi] 154)):=(AE _ W).alloc _;have bX:=hT.heap (aW.heap bW (λh=>h)) (by omega);have fX:Fr (Bl.one l) W W₂:=(aW.m (λ_ h=>h.elim)).t hT.fr;have hUX:bB W₂ ub um:=hUp.fr fX (oN (by omega));have hfX:aF W₂ β sv lv fs:=hfW.on (fX.on (λk hk=>⟨hfW.lies k hk,λh=>by simp only[Bl.one]at h;have:=hf5.lies k hk;omega⟩));have⟨d0,d1,d2⟩:=eC (hT.heap (aW.heap tW (λh=>h)) (by omega));have⟨e0,e1⟩:=bY (hT.heap (aC W (.cells #[.t sp.lo,.t sp.hi] 154)) (by omega));have c0:W₂.c (w.heap.size+1+1) 0=some (.q ub 4096 4096):=by simp[World.cell?,bX]
  have hC:=ihk W₂ hfX hUX;clear ihk;gi_wp2_with (refine⟨trivial,rfl,?_⟩;gi_at_call 114;refine(EA l (AZ.2 hC)).m ?_;rintro e W₃ ⟨⟨v,rfl⟩,hU3,f3⟩);refine⟨Bl.one ub,⟨?_,rfl⟩,f3,CR _ _⟩;rw[jK,AM,<-HM.o];exact hU3
 .rintro D Y' W hD hYD ⟨hUp,rfl⟩ hFW hGW hDW;have xW:=hFW.heap ((hb5.block _ z4).t x4) (oN (by omega));have⟨n0,n1,n2,n3,n4,n5,n6,n7⟩:=bO xW;have he0:g.ents.length=0:=by rw[qG hg HK2.o];rfl
  have hm:Marks w.heap.size [mk D] W:=(FQ w.heap.size W5).cons (λD' _ h=>hFW.heap h (λe=>by simp only[Bl.one]at e;subst e;exact hU5.nodef h)) (by have:=B1.size;omega) hDW hD;have F0:Fr (Bl.one ub) w W:=((AB B1).t f2).t ((f5.m (λ_ h=>h.elim)).t hFW);have HX:Hid (marks (u.set p true) ((kids.take (parts s g.keys g.kids).length).flatMap (T.pages h))=marks u (T.pages (h+1) (.branch p ks kids))):=by
   show _=_
   rw[cO,show g.kids.length=kids.length by rw[HKD.o];simp,BK];rfl
  have HU':Hid (bB W ub (marks u (T.pages (h+1) (.branch p ks kids)))):=by rw[<-HX.o];exact hUp
  clear hUp HX hxs;gi_wp2;gi_loopw [38] (λi wr=>i=.i 0/\wr=W) (λ_ _=>0)
  case atStart=>exact⟨rfl,rfl⟩
  case round =>
   obtain⟨rfl,hwr⟩:=hrel;subst wr;gi_wp2;apply qHf rfl hm;intro w' ht';exact⟨⟨_,rfl⟩,HU'.took ht',F0.took ht' (jU _)⟩
attribute [local go_sem] CM
def qBr(β sv lv fs)(bs:(fs.life==0)=false)(root x z y d p es s u w)(bv:aV fs 0 (.leaf p es) s)(fa:Shut u 0 (.leaf p es))(aw:u.length=4096)(a8:aF w β sv lv fs)(ai:bB w d u)(dl:¬on u p):
  cL 114 #[.agg #[.p β 0,.i root,.s x z y],.i p,.agg #[.t s.lo,.t s.hi],.q d 4096 4096] w λe w' =>
    (∃v,e=.r v)/\bB w' d (marks u (T.pages 0 (.leaf p es)))/\Fr (Bl.one d) w w':=by
 have fb:=bv;obtain⟨g,a9,aa,a4,dk,dd,dm⟩:=bv;have dn:p<4096:=jY a9.1 a8.small;have f7:(p:Int)<4096:=by omega
 obtain⟨r,a3,V,e3,dz,b3,eb⟩:=al3 w (.cells #[.p β 0,.i root,.s x z y] 90) (.cells #[.t s.lo,.t s.hi] 154) (.cells #[.q d 4096 4096] 139); have a6:bB r d u:=ai.on (vV V (Y:=Bl.one d) (λf c=>by simp only[Bl.one]at c;subst c;exact ai.lt)) rfl;have d9:=a6.cell dn aw;have bx:u[p]'(by omega)=false:=by
  cases hv:u[p]'(by omega) with
  |false=>rfl
  |true=>exact absurd (AD.2 ⟨by omega,hv⟩) dl
 rw[bx]at d9;have f2:=a6.free;obtain⟨k,bj⟩:=nM (r.setCell (aD d p) (.bool true));have fg:=ai.lt;have Z:Fr (Bl.one d) r k:=bj▸(AE (Bl.one d) r).s d p;have d6:bB k d (u.set p true):=bj▸a6.set p;have c8:=Z.heap e3 (oN (by omega));have c5:=Z.heap dz (oN (by omega));have ag:=Z.heap b3 (oN (by omega));obtain⟨g3,g4,g5⟩:=eC c8;obtain⟨fz,g0⟩:=bY c5;have ed:k.c (w.heap.size+1+1) 0=some (.q d 4096 4096):=by simp[World.cell?,ag]
 have ee:r.c (w.heap.size+1+1) 0=some (.q d 4096 4096):=by simp[World.cell?,b3]
 have ao:aF r β sv lv fs:=a8.on (vV V a8.lies);have ap:aF k β sv lv fs:=ao.on (Z.on (λf c=>⟨ao.lies f c,λb=>by simp only[Bl.one]at b;subst b;exact a6.apart ao c⟩));obtain⟨c7,e1,e2⟩:=gK a9;have da:0<g.ents.length:=by rw[a4,AF];exact BQ.2 dk
 have bo:g.ents.length=es.length:=by rw[a4,AF]
 have bq:∀e∈g.ents,s.has e.key=true:=λe bn=>by rw[a4,AW]at bn;obtain⟨L,N,rfl⟩:=bn;exact dd L N
 have be:=uG β sv lv fs root x z y p s g k ap bs a9 (by simp[aa]) (by simp[aa]) da (bq _ (AA _)) (bq _ (AA _)) c7 e2;obtain⟨dr,c0⟩:=sR a9 aa;have co:Hid (g.kids=[]):=c0;have cm:Hid (g.ents=es.map (·.e)):=a4;have b2:Hid (g.ents.length=es.length):=bo;have cq:Hid (u.length=4096):=aw;clear aa a4 dr c0 bo aw bx eb;refine(AZ (n:=0)).1 (BX Tryz.func114 rfl trivial ?_ rfl);simp only[Tryz.ntmps114,jA,jB,jN,Nat.reduceAdd,Nat.reduceSub,jR,jO,jP,jT,jE,jF];gi_wp2_with (first
  |(refine⟨trivial,rfl,?_⟩;gi_at_call 144;refine(AZ.2 be).m ?_;clear be;rintro e m ⟨g6,rfl,⟨R,O,E,U,Q,G,rfl,c2,c3,c4,ay⟩,bl⟩;obtain⟨o,am,-,b0,-⟩:=al1 m (pgO g R O E U Q G);obtain⟨fh,fi,fj,fk,fl,fm,fn,fo⟩:=bO b0;have b5:Fr Bl.none k o:=(AB bl).t (am▸(AE _ m).alloc _);have e0:=b5.heap c5 (λb=>b);obtain⟨g1,g2⟩:=bY e0;have bc:=nT g s R O E U Q G o)
  |(refine⟨trivial,rfl,?_⟩;gi_at_call 145;refine(AZ.2 bc).m ?_;clear bc;rintro e B ⟨rfl,ea,cj,an⟩))
 have a0:Fr Bl.none k B:=b5.t (AB an);have ec:m.heap.size<o.heap.size:=(gL b0);have g7:=bl.size;have aj:bB B d (u.set p true):=d6.fr a0 (λb=>b);have aq:aF B β sv lv fs:=ap.on (a0.on (λf c=>⟨ap.lies f c,λb=>b⟩));have g8:o.heap.size+1<B.heap.size:=(gL cj);have gb:w.heap.size+1+1<k.heap.size:=(gL ag);have ax:On (New k m) m B:=(am▸(CN _ m).alloc (λf c=>c.2) _:On (New k m) m o).t (vV an (λf c=>by have:=c.2;omega));let Rd:Bl:=λf=>f=o.heap.size\/f=o.heap.size+1\/New k m f;have dq:=nS (o.heap.size+1) o.heap.size s g.kind g.ver g.root g.next R O E U Q g.ents.length G g.data g.keys g.kids Rd B cj ea ((c2.on ax).m (λf c=>.inr (.inr c))) ((c3.on ax).m (λf c=>.inr (.inr c))) (.inr (.inl rfl)) (.inl rfl) c7 e1 ay.1 ay.2.1;have bz:parts s g.keys g.kids=[]:=by rw[co.o];cases g.keys<;>rfl
 have ct:Hid (parts s g.keys g.kids=[]):=bz;clear bz;let I:List (Int×Sp)->Bl->World->Prop:=λA C W=>bB W d (u.set p true)/\C=Bl.one d;have e4:=a0.heap c8 (λb=>b);have cv:=a0.heap ag (λb=>b);have e8:=(an.block _ ec).t b0;refine fI (P:=Tryz.prog) (Has:=sA) (Rd:=Rd) rfl (enters_of Tryz.func167 (by kernel_rfl) rfl) dq (λL af S W a2=>by rw[a2];rfl) I (λ_ _ _ _=>False) ?_ (λ_ _ _ _ _ b=>b.elim) ?_ (λ_ _ _ _ b=>b.elim) (Bl.one d) ⟨aj,rfl⟩ ?_ ?_ ?_ (λ_ _ _ _ _ _ _ _ _ b=>b.elim)
 .rintro A C W ac ⟨H,rfl⟩ av
  exact⟨H.on av rfl,rfl⟩
 .rintro A C W ⟨H,rfl⟩ f c
  simp only[Bl.one]at c;subst c;exact H.lt
 .rintro f (rfl|rfl|c)
  .exact⟨oN (by omega),by omega⟩
  .exact⟨oN (by omega),by omega⟩
  .exact⟨λb=>by simp only[Bl.one]at b;have:=c.1;omega,by have:=c.2;omega⟩
 .intro l A L dy af S ae W N
  rw[ct.o]at N;simp at N
 .rintro D ae W d0 ey ⟨bh,rfl⟩ F eu d2;have e9:=F.heap e8 (oN (by omega));obtain⟨fp,fq,fr,ft,fu,fv,fw,fx⟩:=bO e9;have di:Marks w.heap.size [mk D] W:=(FQ w.heap.size B).cons (λD' _ b=>F.heap b (λe=>by simp only[Bl.one]at e;subst e;exact aj.nodef b)) (by have:=V.size;omega) d2 d0;have b1:Fr (Bl.one d) w W:=((AB V).t Z).t ((a0.m (λ_ b=>b.elim)).t F);have e6:=F.heap e4 (oN (by omega));have cy:=F.heap cv (oN (by omega));have au:aF W β sv lv fs:=aq.on (F.on (λf c=>⟨aq.lies f c,λb=>by simp only[Bl.one]at b;subst b;exact aj.apart aq c⟩));have ga:B.heap.size<=W.heap.size:=F.size;have dt:aH W (New k m) E (g.ents.flatMap Ent.cells):=(c4.on ax).on (F.on (λf c=>⟨by have:=c.2;omega,λb=>by simp only[Bl.one]at b;have:=c.1;omega⟩));have f1:=ay.2.2;clear c2 c3 c4;gi_wp2;refine wpIn_loop (λa j=>∃(h:Nat) (Y:List Deferred) (ca cb cc cd ce cf cg ch:Value),h<=g.ents.length/\a = {tmps:=#[.agg #[.p β 0,.i root,.s x z y],.i p,.agg #[.t s.lo,.t s.hi],.q d 4096 4096,.p w.heap.size 0,undef,.p (w.heap.size+1) 0,.p (w.heap.size+1+1) 0,.p m.heap.size 0,undef,undef,undef,ca,undef,.q d 4096 4096,.i p,.p d p,.bool false,.q d 4096 4096,.i p,.p d p,.agg #[.p β 0,.i root,.s x z y],.i p,.agg #[.t s.lo,.t s.hi],.agg #[.i g.kind,.i g.ver,.i g.root,.i g.next,.s R g.keys.length U,.s O g.kids.length Q,.s E g.ents.length G,.t g.data],.agg #[.i g.kind,.i g.ver,.i g.root,.i g.next,.s R g.keys.length U,.s O g.kids.length Q,.s E g.ents.length G,.t g.data],.agg #[.t s.lo,.t s.hi],.func (.func 167) #[] #[.p (o.heap.size+1) 0,.p o.heap.size 0],undef,undef,undef,undef,undef,undef,undef,.p m.heap.size 6,.s E g.ents.length G,.i g.ents.length,.i h,cb,cc,cd,ce,cf,cg,undef,undef,undef,undef,undef,ch],defers:=Y} /\
    bB j d (marks (u.set p true) ((es.take h).flatMap En.pages))/\Fr (Bl.one d) W j/\Marks w.heap.size Y j) (λa _=>g.ents.length-(intOf (a.tmps.getD 38 undef)).toNat) ?_ ?_
  .exact⟨0,_,undef,undef,undef,undef,undef,undef,undef,undef,AG _,rfl,by simpa[uJ] using bh,AE _ _,di⟩
  .rintro a j ⟨h,Y,ca,cb,cc,cd,ce,cf,cg,ch,f3,rfl,K,J,bd⟩
   have c9:=J.heap e6 (oN (by omega));have b4:=J.heap cy (oN (by omega));have bp:aF j β sv lv fs:=au.on (J.on (λf c=>⟨au.lies f c,λb=>by simp only[Bl.one]at b;subst b;exact bh.apart au c⟩));have g9:W.heap.size<=j.heap.size:=J.size;have ds:=dt.on (J.on (λf c=>⟨by have:=c.2;omega,λb=>by simp only[Bl.one]at b;have:=c.1;omega⟩));by_cases hlt:h<g.ents.length
   .have br:h<es.length:=by rw[<-b2.o];exact hlt
    obtain⟨i,ah⟩:=nM (g.ents[h]);obtain⟨X,a7⟩:=nM (es[h]);have b9:i=X.e:=by rw[<-ah,<-a7];simp only[cm.o];simp
    have d7:X.ok fs:=dm X (a7▸AA br);obtain⟨em,en,db,f0,du,dv,dw,dx⟩:=ds.ent hlt;rw[ah]at du dv dw dx;subst db;obtain⟨ei,ej,ek⟩:=eC c9;have el:j.c (w.heap.size+1+1) 0=some (.q d 4096 4096):=by simp[World.cell?,b4]
    obtain⟨t,bk,-,ci,-⟩:=al1 j (.cells #[.t i.key,.t i.val,.i i.size,.i i.over] 69);obtain⟨eo,ep,eq,er⟩:=kA ci;have b6:Fr Bl.none j t:=bk▸(AE _ j).alloc _;have e5:=b6.heap c9 (λb=>b);obtain⟨fc,fd,fe⟩:=eC e5;have b8:=Gt root β x z y i.key i.val i.size i.over t;have cn:Hid (i=X.e):=b9;have cu:Hid (es[h]=X):=a7;clear b9 ah a7;gi_wp2_with (refine⟨trivial,rfl,?_⟩;gi_at_call 99;refine(AZ.2 b8).m ?_;clear b8;rintro e M ⟨rfl,e7,az,d8⟩);obtain⟨c6,c1,bu,bt,dg,bm⟩:=d7;rw[cn.o,bu,bt]at az;have a1:Fr Bl.none j M:=b6.t (AB d8);have gd:t.heap.size+1<M.heap.size:=(gL az);have gc:j.heap.size<t.heap.size:=(gL ci);have ar:aF M β sv lv fs:=bp.on (a1.on (λf c=>⟨bp.lies f c,λb=>b⟩));have ak:=K.fr a1 (λb=>b);have cw:=a1.heap b4 (λb=>b);let Rc:Bl:=λf=>f=t.heap.size\/f=t.heap.size+1\/fpF β sv lv f;have de:=Gs (t.heap.size+1) t.heap.size β sv lv fs root x z y X.e.key X.e.val c6 c1 X.ch Rc M az e7 ar bs (.inr (.inl rfl)) (.inl rfl) (λf c=>.inr (.inr c)) (by omega) bm;let Ic:List (Nat×Pg)->Bl->World->Prop:=λA C ac=>bB ac d (marks (marks (u.set p true) ((es.take h).flatMap En.pages)) (A.map (·.1)))/\C=Bl.one d;refine fI (P:=Tryz.prog) (Has:=qIn) (Rd:=Rc) rfl (enters_of Tryz.func137 (by kernel_rfl) rfl) de (λL af S W a2=>by obtain⟨v,rfl,_⟩:=a2;rfl) Ic (λ_ _ _ _=>False) ?_ (λ_ _ _ _ _ b=>b.elim) ?_ (λ_ _ _ _ b=>b.elim) (Bl.one d) ⟨by simpa[uJ] using ak,rfl⟩ ?_ ?_ ?_ (λ_ _ _ _ _ _ _ _ _ b=>b.elim)
    .rintro A C W ac ⟨H,rfl⟩ av
     exact⟨H.on av rfl,rfl⟩
    .rintro A C W ⟨H,rfl⟩ f c
     simp only[Bl.one]at c;subst c;exact H.lt
    .have ff:=K.lt
     rintro f (rfl|rfl|c)
     .exact⟨oN (by omega),by omega⟩
     .exact⟨oN (by omega),by omega⟩
     .exact⟨λb=>by simp only[Bl.one]at b;subst b;exact ak.apart ar c,ar.lies f c⟩
    .rintro l A L dy af S ae Wc N ⟨bi,rfl⟩ a2 ex ba ev f4 f5 f6 ⟨fy,f9⟩;obtain⟨v,rfl,_⟩:=a2;obtain⟨q,b7⟩:=L;have dp:q<4096:=by
      have dj:(q,b7)∈X.ch:=by rw[N];simp
      obtain⟨et,dc,_⟩:=xX (fs:=fs) (x:=X) ⟨c6,c1,bu,bt,dg,bm⟩ q (by simp only[En.pages,AW];exact⟨_,dj,rfl⟩);exact jY dc.1 a8.small
     have f8:(q:Int)<4096:=by omega
     obtain⟨a5,ab⟩:=nM (marks (marks (u.set p true) ((es.take h).flatMap En.pages)) (A.map (·.1)));have cp:Hid (a5.set q true=marks (marks (u.set p true) ((es.take h).flatMap En.pages)) ((A++[(q,b7)]).map (·.1))):=by
      show _=_
      rw[BM,jI,ab];rfl
     rw[ab]at bi;have dh:a5.length=4096:=by rw[<-ab,gP,gP];simpa using cq.o
     have cx:=ba.heap cw (oN (by omega));clear ab;unfold iY;gi_wp2;refine⟨AE _ _,?_⟩;intro ad bf;have ge:M.heap.size<=Wc.heap.size:=ba.size;have cz:=bf.heap cx (by omega);have al:bB ad d a5:=bi.fr bf.fr (λb=>by simp only[Bl.one]at b;have:=K.lt;omega);have ef:ad.c (w.heap.size+1+1) 0=some (.q d 4096 4096):=by simp[World.cell?,cz]
     have eg:=al.cell dp dh;have eh:=al.free;gi_wp2;refine⟨Bl.one d,⟨?_,rfl⟩,(AE (Bl.one d) ad).s d q,CR _ _⟩;rw[<-cp.o];exact al.set q
    .rintro ck ae Wd d1 ez ⟨bg,rfl⟩ bb ew d3;have cr:Hid (bB Wd d (marks (u.set p true) ((es.take (h+1)).flatMap En.pages))):=by
      show bB _ _ _
      rw[AN br,BV,jI,cu.o];simpa[En.pages] using bg
     have d4:Marks w.heap.size Y M:=bd.on (λD' _ b=>a1.heap b (λb=>b));have d5:Marks w.heap.size (mk ck :: Y) Wd:=d4.cons (λD' _ b=>bb.heap b (λe=>by simp only[Bl.one]at e;subst e;exact ak.nodef b)) (by have:=K.lt;have:=V.size;have:=b1.size;omega) d3 d1;have cl:Fr (Bl.one d) W Wd:=J.t ((a1.m (λ_ b=>b.elim)).t bb);have df:((h+1:Nat):Int)=(h:Int)+1:=by omega
     clear bg;gi_wp2;refine⟨⟨h+1,_,_,_,_,_,_,_,_,_,by omega,by rw[df];rfl,cr.o,cl,d5⟩,?_⟩;simp[intOf];omega
   .obtain rfl:h=g.ents.length:=by omega
    have cs:Hid (bB j d (marks u (T.pages 0 (.leaf p es)))):=by
     show bB _ _ _
     rw[b2.o,BK]at K;exact K
    clear K;gi_wp2;refine qHf rfl bd ?_;intro w' bw;exact⟨⟨_,rfl⟩,cs.o.took bw,(b1.t J).took bw (jU _)⟩
attribute [local go_sem] CM
def Jm(β root c f d a p)(s:Sp)(u w)(r:p<4096)(t:u.length=4096)(h:bB w a u)(q:on u p):
  cL 114 #[.agg #[.p β 0,.i root,.s c f d],.i p,.agg #[.t s.lo,.t s.hi],.q a 4096 4096] w λe w' =>
    (∃v,e=.r v)/\bB w' a u/\Fr (Bl.one a) w w':=by
 have z:(p:Int)<4096:=by omega
 obtain⟨b,j,g,-,-,m,-⟩:=al3 w (.cells #[.p β 0,.i root,.s c f d] 90) (.cells #[.t s.lo,.t s.hi] 154) (.cells #[.q a 4096 4096] 139); have i:=h.on (vV g (Y:=Bl.one a) (λA k=>by cases k;exact h.lt)) rfl;have o:=i.cell r t;rw[(AD.1 q).2]at o;have y:b.c (w.heap.size+1+1) 0=some (.q a 4096 4096):=by simp[World.cell?,m]
 refine(AZ (n:=0)).1 (BX Tryz.func114 rfl trivial ?_ rfl);simp only[Tryz.ntmps114,jA,jB,jN,Nat.reduceAdd,Nat.reduceSub,jR,jO,jP,jT,jE,jF];gi_wp2;apply qHf (B:=w.heap.size) rfl (FQ _ _);intro w' l;exact⟨⟨_,rfl⟩,i.took l,(AB g).took l (jU _)⟩
def Oz(β sv lv fs)(n:(fs.life==0)=false)(root c f d a):∀(h:Nat) (t:T) (s:Sp) (u:List Bool) (w:World),aV fs h t s->Shut u h t->u.length=4096->aF w β sv lv fs->bB w a u ->
  cL 114 #[.agg #[.p β 0,.i root,.s c f d],.i t.place,.agg #[.t s.lo,.t s.hi],.q a 4096 4096] w λe w' =>
   (∃v,e=.r v)/\bB w' a (marks u (T.pages h t))/\Fr (Bl.one a) w w':=by
 intro h;induction h with
 |zero =>
  intro t s u w b k l j i;cases t with
  |branch p ks kids=>exact b.elim
  |leaf p es =>
   by_cases hon:on u p
   .rw[xL (k (0,.leaf p es) (by simp[T.subs]) hon)];have⟨g,m,_⟩:=b;exact Jm β root c f d a p s u w (jY m.1 j.small) l i hon
   .exact qBr β sv lv fs n root c f d a p es s u w b k l j i hon
 |succ h ih =>
  intro t s u w b k l j i;cases t with
  |leaf p es=>exact b.elim
  |branch p ks kids =>
   by_cases hon:on u p
   .rw[xL (k (h+1,.branch p ks kids) (by simp[T.subs]) hon)];have⟨g,m,_⟩:=b;exact Jm β root c f d a p s u w (jY m.1 j.small) l i hon
   .exact Oy β sv lv fs n root c f d a h ih p ks kids s u w b k l j i hon
def bQ(fs:Fs)(root:Nat):Option (Nat×T)->Prop
 |none=>root=0
 |some (h,t)=>0<root/\t.place=root/\aV fs h t ⟨⟨#[]⟩,⟨#[]⟩⟩
def cR:Option (Nat×T)->List Nat
 |none=>[]
 |some (h,t)=>T.pages h t
def Hg(u:List Bool):Option (Nat×T)->Prop
 |none=>True
 |some (h,t)=>Shut u h t
def Hh(β sv lv fs)(y:(fs.life==0)=false)(root d g f a o u w)(n:bQ fs root o)(A:Hg u o)(C:u.length=4096)(l:aF w β sv lv fs)(k:bB w a u):
  cL 84 #[.agg #[.p β 0,.i root,.s d g f],.q a 4096 4096] w λe w' =>
   (∃v,e=.r v)/\bB w' a (marks u (cR o))/\Fr (Bl.one a) w w':=by
 obtain⟨c,i,b,E,-⟩:=al1 w (.cells #[.p β 0,.i root,.s d g f] 90);have⟨G,H,I⟩:=eC E;have h:=k.on (vV b (Y:=Bl.one a) (λK m=>by cases m;exact k.lt)) rfl;cases o with
 |none =>
  have p:root=0:=n;subst p;go_enter Tryz.func84,Tryz.ntmps84;go_wp2;go_end0;rw[<-i]at h b;exact⟨⟨_,rfl⟩,h,AB b⟩
 |some x =>
  have⟨r,D⟩:=x;have⟨p,z,B⟩:=n;have j:=Oz β sv lv fs y root d g f a r D ⟨⟨#[]⟩,⟨#[]⟩⟩ u c B A C (l.on (vV b l.lies)) h;rw[z]at j;have J:((root:Int) != 0)=true:=by simp;omega
  go_enter Tryz.func84,Tryz.ntmps84;go_wp2_with (go_at_call 114;apply j.m;rintro e F ⟨⟨v,rfl⟩,s,q⟩);go_end0;exact⟨⟨_,rfl⟩,s,(AB b).t q⟩
attribute [local go_sem] CM
def lvs:Nat->T->Sp->Sp->List (List En)
 |_,.leaf _ es,_,_=>[es]
 |0,.branch _ _ _,_,_=>[]
 |h+1,.branch _ ks kids,s,q=>(parts s ks kids).flatMap (λx=>if x.2.meets q=true then lvs h x.1 x.2 q else [])
def yH(es:List En)(args:Array Value)(S:Bl)(w:World):Prop:=∃g v,args=#[v]/\g.ents=es.map (·.e)/\qDj w S g v/\g.ents.length<=1000
def nC{P n a d R D w}(c:a.results=#[])(b:w.heap[D]?=some (.deferred (some [])))(h:R (.r (.tuple #[])) (w.putObj D (.deferred none))):
  LeavesInM Fence.wide n P a d R [{target:=.collected D,args:=#[]}] .returning w :=
 ⟨by simp,.inl ⟨D,_,rfl,run_takeDeferred b,⟨_,EN c _ _ _,h⟩⟩⟩
def uM(w:World)(o k)(a:w.heap.size=k):(w.alloc o).heap[k]?=some o:=a▸aC w o
def tE(root f β b d c)(s q:Sp)(w):
  cL 135 #[.agg #[.p β 0,.i root,.s b d c],.i f,.agg #[.t s.lo,.t s.hi],.agg #[.t q.lo,.t q.hi]] w λe w' =>
   e=.r (.func (.func 161) #[] #[.p w.heap.size 0,.p (w.heap.size+1) 0,.p (w.heap.size+1+1) 0,.p (w.heap.size+1+1+1) 0]) /\
   w'.heap[w.heap.size]?=some (.cells #[.p β 0,.i root,.s b d c] 90)/\w'.heap[w.heap.size+1]?=some (.cells #[.i f] 3) /\
   w'.heap[w.heap.size+1+1]?=some (.cells #[.t s.lo,.t s.hi] 154)/\w'.heap[w.heap.size+1+1+1]?=some (.cells #[.t q.lo,.t q.hi] 154)/\bW w w':=by
 have g:∀a,a=(((w.alloc (.cells #[.p β 0,.i root,.s b d c] 90)).alloc (.cells #[.i f] 3)).alloc (.cells #[.t s.lo,.t s.hi] 154)).alloc (.cells #[.t q.lo,.t q.hi] 154) ->
   (a.heap[w.heap.size]?=some (.cells #[.p β 0,.i root,.s b d c] 90)/\a.heap[w.heap.size+1]?=some (.cells #[.i f] 3) /\
   a.heap[w.heap.size+1+1]?=some (.cells #[.t s.lo,.t s.hi] 154)/\a.heap[w.heap.size+1+1+1]?=some (.cells #[.t q.lo,.t q.hi] 154)/\bW w a):=by
  rintro a rfl;refine⟨aQ _ (aQ _ (aQ _ (aC _ _))),aQ _ (aQ _ (uM _ _ _ (by simp))),aQ _ (uM _ _ _ (by simp)),uM _ _ _ (by simp),?_⟩;exact(((bA _ _).alloc (by simp) _).alloc (by simp;omega) _).alloc (by simp;omega) _
 go_enter Tryz.func135,Tryz.ntmps135;go_wp2;go_ret;simp_all
attribute [local go_sem] CM
def Pd(β sv lv fs)(ad:(fs.life==0)=false)(root O Q P p es s q)(ag:aV fs 0 (.leaf p es) s)(n i o m Rd w)(av:cW w n #[.p β 0,.i root,.s O Q P] 90)(au:cW w i #[.i p] 3)(aw:cW w o #[.t s.lo,.t s.hi] 154)(bv:cW w m #[.t q.lo,.t q.hi] 154)(aa:aF w β sv lv fs)(a1:Rd n)(a2:Rd i)(a3:Rd o)(an:Rd m)(ao:∀k,fpF β sv lv k->Rd k):
  nH Tryz.prog 161 #[.p n 0,.p i 0,.p o 0,.p m 0] yH (lvs 0 (.leaf p es) s q) Rd w:=by
 intro N J b0 f W af j ap ai br bi a7 R;refine BX Tryz.func161 rfl trivial ?_ rfl;simp only[Tryz.ntmps161,jA,jB,jN,Nat.reduceAdd,Nat.reduceSub,jR,jO,jP,jT,jE,jF];have⟨g,X,l,y,ae,ac,bc⟩:=ag;have x:=ai [] f W R;have be:=(j n a1).2;have bf:=(j i a2).2;have bg:=(j o a3).2;have bh:=(j m an).2;obtain⟨a,U,-,ax,-⟩:=al1 W (.cells #[.func (.yield N) #[] #[]] 228);have v:Fr Bl.none W a:=U▸(AE _ W).alloc _;have D:On Rd w a:=af.t (v.on (λk d=>⟨(j k d).2,λe=>e⟩));have⟨b2,b3,b4⟩:=eC (D.heap av a1);have b6:a.c i 0=some (.i p):=by simp[World.cell?,D.heap au a2]
 have⟨b8,b9⟩:=bY (D.heap aw a3);have⟨aq,bs,a4⟩:=gK X;have a9:0<g.ents.length:=by grind
 have Y:∀r∈g.ents,s.has r.key=true:=λr V=>by grind
 have S:=uG β sv lv fs root O Q P p s g a (aa.on (D.m ao)) ad X (by simp[l]) (by simp[l]) a9 (Y _ (AA _)) (Y _ (AA _)) aq a4;have bd:(g.kind==3)=true:=by simp[l]
 have a5:Hid (g.ents=es.map (·.e)):=y;have az:Hid (g.kind=3):=l;clear l y;gi_wp2_with (refine⟨trivial,rfl,?_⟩;gi_at_call 144;apply(AZ.2 S).m;clear S;rintro r b ⟨bu,rfl,⟨B,z,t,C,A,u,rfl,aj,ak,al,am⟩,a8⟩;obtain⟨c,L,-,ar,-⟩:=al1 b (pgO g B z t C A u);have⟨bj,bk,bl,bm,bn,bo,bp,bq⟩:=bO ar;have G:Fr Bl.none a c:=(AB a8).t (L▸(AE _ b).alloc _);have ba:c.c W.heap.size 0=some (.func (.yield N) #[] #[]):=(by simp[World.cell?,G.heap ax (λe=>e)]);have h:Fr f W c:=(v.t G).m (λ_ e=>e.elim);have a6:=ap _ _ _ _ R ((v.t G).on (Z:=f) (λk d=>⟨x k d,λe=>e⟩));have E:On (New a b) b c:=L▸(CN _ b).alloc (λk d=>d.2) _;have bw:=v.size;obtain⟨bb,bt,b5,b7,M,T⟩:=a7 [] es [] #[.agg #[.i g.kind,.i g.ver,.i g.root,.i g.next,.s B g.keys.length C,.s z g.kids.length A,.s t g.ents.length u,.t g.data]] (New a b) f c rfl a6 ⟨g,_,rfl,a5,⟨B,z,t,C,A,u,rfl,aj.on E,ak.on E,al.on E,am⟩,a4⟩ (λk d=>⟨λM=>by have:=x k M;have:=d.1;omega,jY d.2 E.size⟩) h (CR _ _));refine⟨rfl,(eT T).m ?_⟩;clear M T;rintro r b1 (⟨rfl,F,K,H,I⟩|⟨rfl,F,K,H,I⟩)
 .gi_wp2
  refine⟨_,EN rfl _ _ _,⟨_,rfl⟩,F,h.grow H (CR _ _),(CR W f).t h.size I,.inl K⟩
 .gi_wp2
  refine⟨_,EN rfl _ _ _,⟨_,rfl⟩,F,h.grow H (CR _ _),(CR W f).t h.size I,.inr ⟨[]++[es],List.prefix_refl _,by simp,K⟩⟩
attribute [local go_sem] CM
def vG{P n l f c a b w R}(d)(h:RoundIn Fence.wide n P l f c a b w R):RoundIn (Fence.wide.inRound d) n P l f c a b w R:=h
def Ti(β:Nat)(sv lv:Value)(fs:Fs)(root:Int)(ca:Option Addr)(cn cc:Nat)(q:Sp)(h:Nat):Prop :=
 ∀(t:T) (s:Sp),aV fs h t s->∀(bt bp bw bq:Nat) (Rd:Bl) (w:World),
  w.heap[bt]?=some (.cells #[.pointer (some (aD β 0)),.int .i64 root,.slice ca cn cc] 90)->w.heap[bp]?=some (.cells #[.int .i64 t.place] 3)->w.heap[bw]?=some (.cells #[.string s.lo,.string s.hi] 154)->w.heap[bq]?=some (.cells #[.string q.lo,.string q.hi] 154) ->
  aF w β sv lv fs->Rd bt->Rd bp->Rd bw->Rd bq->(∀k,fpF β sv lv k->Rd k) ->
  nH Tryz.prog 161 #[.pointer (some (aD bt 0)),.pointer (some (aD bp 0)),.pointer (some (aD bw 0)),.pointer (some (aD bq 0))] yH (lvs h t s q) Rd w
def Hs(β sv lv fs)(ek:(fs.life==0)=false)(root am ao an q h)(ez:Ti β sv lv fs root am ao an q h)(p ks e s)(ew:aV fs (h+1) (.branch p ks e) s)(ak a7 al aj Rd w)(db:cW w ak #[.p β 0,.i root,.s am ao an] 90)(fi:cW w a7 #[.i p] 3)(dc:cW w al #[.t s.lo,.t s.hi] 154)(da:cW w aj #[.t q.lo,.t q.hi] 154)(ci:aF w β sv lv fs)(bx:Rd ak)(d7:Rd a7)(bz:Rd al)(c0:Rd aj)(ba:∀k,fpF β sv lv k->Rd k):
  nH Tryz.prog 161 #[.p ak 0,.p a7 0,.p al 0,.p aj 0] yH (lvs (h+1) (.branch p ks e) s q) Rd w:=by
 intro l B c4 d W er m R Q c1 cs ec c6;refine BX Tryz.func161 rfl trivial ?_ rfl;simp only[Tryz.ntmps161,jA,jB,jN,Nat.reduceAdd,Nat.reduceSub,jR,jO,jP,jT,jE,jF];have⟨g,ck,bs,ac,cn,eo,⟨e4,dz,e0⟩,ef⟩:=ew;have a6:=Q [] d W c6;have g7:=(m ak bx).2;have bu:=(m a7 d7).2;have g8:=(m al bz).2;have g9:=(m aj c0).2;obtain⟨r,cg,-,dd,-⟩:=al1 W (.cells #[.func (.yield l) #[] #[]] 228);have bf:Fr Bl.none W r:=cg▸(AE _ W).alloc _;have ae:On Rd w r:=er.t (bf.on (λk b=>⟨(m k b).2,λh=>h⟩));have⟨dr,ds,dt⟩:=eC (ae.heap db bx);have dw:r.c a7 0=some (.i p):=by simp[World.cell?,ae.heap fi d7]
 have⟨dx,dy⟩:=bY (ae.heap dc bz);have⟨d8,fa,fb⟩:=gK ck;have cd:=pF β sv lv fs root am ao an p s g r (ci.on (ae.m ba)) ek ck (by simp[bs]) (by rw[ac];exact e4) (by simp only[ac];exact dz) (by simp only[ac];exact e0) d8 fb;have g6:(g.kind==3)=false:=by simp[bs]
 have dm:Hid (g.keys=ks):=ac;have dl:Hid (g.kids=e.map (λt=>(t.place:Int))):=cn;clear bs ac cn eo;gi_wp2_with (first
  |(refine⟨trivial,rfl,?_⟩;gi_at_call 144;apply(AZ.2 cd).m;clear cd;rintro V C ⟨gn,rfl,⟨b4,b0,ap,b6,b2,ar,rfl,f8,f9,ga,d6⟩,ch⟩;obtain⟨o,bo,-,d9,-⟩:=al1 C (pgO g b4 b0 ap b6 b2 ar);have⟨cu,cv,cw,cx,cy,cz,d0,d1⟩:=bO d9;have bg:Fr Bl.none r o:=(AB ch).t (bo▸(AE _ C).alloc _);have d3:On Rd w o:=ae.t (bg.on (λk b=>⟨jY (m k b).2 bf.size,λh=>h⟩));have⟨e1,e2⟩:=bY (d3.heap dc bz);have cb:=nT g s b4 b0 ap b6 b2 ar o)
  |(refine⟨trivial,rfl,?_⟩;gi_at_call 145;apply(AZ.2 cb).m;clear cb;rintro V N ⟨rfl,fj,de,az⟩))
 have X:Fr Bl.none W N:=(bf.t bg).t (AB az);have gq:W.heap.size<r.heap.size:=(gL dd);have gt:C.heap.size<o.heap.size:=(gL d9);have gs:=ch.size;have gu:o.heap.size+1<N.heap.size:=(gL de);have f2:On Rd w N:=d3.t (vV az (λk b=>by have:=(m k b).2;omega));have fk:cW N W.heap.size #[.func (.yield l) #[] #[]] 228:=((bg.t (AB az)).heap dd (λh=>h));have d2:On (New r C) C N:=(bo▸(CN _ C).alloc (λk b=>b.2) _:On (New r C) C o).t (vV az (λk b=>by have:=b.2;omega));let Rk:Bl:=λk=>k=o.heap.size\/k=o.heap.size+1\/New r C k;have eu:=nS (o.heap.size+1) o.heap.size s g.kind g.ver g.root g.next b4 b0 ap b6 b2 g.ents.length ar g.data g.keys g.kids Rk N de fj ((f8.on d2).m (λk b=>.inr (.inr b))) ((f9.on d2).m (λk b=>.inr (.inr b))) (.inr (.inl rfl)) (.inl rfl) d8 fa d6.1 d6.2.1;have a5:parts s g.keys g.kids=(parts s ks e).map (λH=>((H.1.place:Int),H.2)):=by rw[dm.o,dl.o,nL]
 let F:T×Sp->List (List En):=λH=>if H.2.meets q=true then lvs h H.1 H.2 q else [];have bc:Hid (lvs (h+1) (.branch p ks e) s q=(parts s ks e).flatMap F):=rfl;have e3:B [] d N:=R _ _ _ _ c6 (X.on (λk b=>⟨a6 k b,λh=>h⟩));let I:List (Int×Sp)->Bl->World->Prop:=λf d W=>B (((parts s ks e).take f.length).flatMap F) d W;let Ix:Code->List (Int×Sp)->Bl->World->Prop:=λc f d W=>c=.ret/\∃j,j <+: (parts s ks e).flatMap F/\j≠[]/\c4 j d W;refine fI (P:=Tryz.prog) (Has:=sA) (Rd:=Rk) rfl (enters_of Tryz.func167 (by kernel_rfl) rfl) eu (λH ai S W a9=>by rw[a9];rfl) I Ix (λs d W be a0 a1=>R _ _ _ _ a0 a1) ?_ (λs d W a0=>Q _ _ _ a0) ?_ d (by simpa[I] using e3) ?_ ?_ ?_ ?_
 .rintro c f d W be ⟨rfl,j,A,M,G⟩ a1
  exact⟨rfl,j,A,M,c1 _ _ _ _ G a1⟩
 .rintro c f d W ⟨rfl,j,A,M,G⟩
  exact cs _ _ _ G
 .rintro k (rfl|rfl|b)
  .exact⟨λh=>by have:=a6 _ h;omega,by omega⟩
  .exact⟨λh=>by have:=a6 _ h;omega,by omega⟩
  .exact⟨λh=>by have:=a6 _ h;have:=b.1;omega,by have:=b.2;omega⟩
 .intro ad f H gc ai S J Wc bt c8 a9 g0 aw c7 g1 g2 el ⟨ge,g5⟩;have cm:f.length<e.length:=by
   have:=CI List.length bt;rw[a5]at this;simp[cO]at this;omega
  have⟨n,co⟩:=nM (e[f.length]'cm);have⟨i,cq⟩:=nM ((⟨lF s ks f.length,pZ s ks f.length⟩:Sp));have a4:=fL s ks e f.length cm;rw[co,cq]at a4;have ex:H=((n.place:Int),i):=by
   have A:(parts s g.keys g.kids)[f.length]?=some H:=by rw[bt];simp
   rw[a5,BN,a4]at A;simpa using A.symm
  have ev:aV fs h n i:=ef _ (BL a4);subst ex;have e7:ai=#[.i n.place,.agg #[.t i.lo,.t i.hi]]:=a9;subst e7;have bd:Hid (((parts s ks e).take (f.length+1)).flatMap F=((parts s ks e).take f.length).flatMap F++F (n,i)):=by
   show _=_
   rw[oD a4,BV];simp
  have c3:Hid ((parts s ks e).flatMap F=((parts s ks e).take f.length).flatMap F++(F (n,i)++((parts s ks e).drop (f.length+1)).flatMap F)):=by
   show _=_
   conv=>lhs;rw[sM a4]
   rw[BV,AK]
  have⟨E,bq⟩:=nM (((parts s ks e).take f.length).flatMap F);have c9:B E J Wc:=bq▸c8;rw[bq]at bd c3;have gw:N.heap.size<=Wc.heap.size:=aw.size;have dg:Fr d W Wc:=(X.m (λ_ h=>h.elim)).t aw;have bb:aJ W d J:=(CR W d).t X.size c7;have f3:On Rd w Wc:=f2.t (aw.on (λk b=>⟨by have:=(m k b).2;omega,(m k b).1⟩));have ed:¬J W.heap.size:=λh=>(c7 _ h).elim (λbh=>by have:=a6 _ bh;omega) (λbh=>by omega);clear bq c8 co cq a4 a5 bt;unfold iY;gi_wp2;refine⟨(AE _ Wc).alloc _,?_⟩;intro u bn;have dv:Fr Bl.none Wc (Wc.alloc (.cells #[.t i.lo,.t i.hi] 154)):=(AE _ Wc).alloc _;have av:Fr (Bl.one ad) Wc u:=(dv.m (λ_ h=>h.elim)).t bn.fr;have K:=bn.heap (aC Wc (.cells #[.t i.lo,.t i.hi] 154)) (by omega);have bw:On Rd w u:=f3.t (av.on (λk b=>⟨by have:=(m k b).2;omega,λh=>by simp only[Bl.one]at h;have:=(m k b).2;omega⟩));have fn:=av.heap (aw.heap fk (λh=>by have:=a6 _ h;omega)) (oN (by omega));have aa:B E J u:=R _ _ _ _ c9 (av.on (λk b=>⟨(Q _ _ _ c9) k b,λh=>by simp only[Bl.one]at h;subst h;exact el b⟩));have df:Fr d W u:=dg.grow av (λk b=>.inr (by simp only[Bl.one]at b;omega));have fq:Wc.heap.size<u.heap.size:=(gL K);have⟨fw,fx⟩:=bY K;have⟨gi,gj⟩:=bY (bw.heap da c0);have ab:=qBq i q u;have ct:lW Rd u:=λk b=>by have:=(m k b).2;omega
  clear dr ds dt dw dx dy e1 e2 cu cv cw cx cy cz d0 d1;cases hm:i.meets q
  .rw[hm]at ab
   have af:Hid (F (n,i)=[]):=by show _=_;simp[F,hm]
   gi_wp2_with (refine⟨trivial,rfl,?_⟩;gi_at_call 162;apply(EA ad (AZ.2 ab)).m;rintro V x ⟨rfl,O⟩);refine⟨J,?_,AB O,CR _ _⟩;show B _ _ _;rw[jK,AM,bd.o,af.o,FD];exact R _ _ _ _ aa (vV O (λk b=>Q _ _ _ aa k b))
  .rw[hm]at ab
   have af:Hid (F (n,i)=lvs h n i q):=by show _=_;simp[F,hm]
   gi_wp2_with (first
    |(refine⟨trivial,rfl,?_⟩;gi_at_call 162;apply(EA ad (AZ.2 ab)).m;clear ab;rintro V x ⟨rfl,O⟩;have d4:On Rd w x:=bw.t (vV O ct);have⟨gk,gl,gm⟩:=eC (d4.heap db bx);have⟨fu,fv⟩:=bY ((O.block _ fq).t K);have⟨gf,gg⟩:=bY (d4.heap da c0);have cc:=tE root n.place β am ao an i q x)
    |(refine⟨trivial,rfl,?_⟩;gi_at_call 135;apply(EA ad (AZ.2 cc)).m;clear cc;rintro V U ⟨rfl,f5,f6,f7,d5,eg⟩))
   have L:bW u U:=O.t (eg.m O.size);have⟨gd,cp⟩:=bn.rcd;have ep:ad<u.heap.size:=(gL cp);have f4:On Rd w U:=bw.t (vV L ct);have cj:=ci.on (f4.m ba);have gv:x.heap.size+1+1+1<U.heap.size:=(gL d5);have gr:=O.size;have e9:B E J U:=R _ _ _ _ aa (vV L (λk b=>Q _ _ _ aa k b));have b8:=Q _ _ _ aa;have ee:¬J W.heap.size:=ed;have c2:Fr d W U:=df.t (AB L);let R6:Bl:=λk=>k=x.heap.size\/k=x.heap.size+1\/k=x.heap.size+1+1\/k=x.heap.size+1+1+1\/fpF β sv lv k;let I2:List (List En)->Bl->World->Prop:=λf d W=>B (E++f) d W;let Ix2:Code->List (List En)->Bl->World->Prop:=λc f d W=>c=.ret/\∃j,j <+: (parts s ks e).flatMap F/\j≠[]/\c4 j d W;refine Nh (P:=Tryz.prog) (Has:=yH) (Rd:=R6) ((L.block _ ep).t cp) rfl (enters_of Tryz.func161 (by kernel_rfl) rfl) (ez n i ev x.heap.size (x.heap.size+1) (x.heap.size+1+1) (x.heap.size+1+1+1) R6 U f5 f6 f7 d5 cj (.inl rfl) (.inr (.inl rfl)) (.inr (.inr (.inl rfl))) (.inr (.inr (.inr (.inl rfl)))) (λk b=>.inr (.inr (.inr (.inr b))))) (λH ai S W a9=>by obtain⟨fz,v,rfl,_⟩:=a9;rfl) I2 Ix2 (λs d W be a0 a1=>R _ _ _ _ a0 a1) ?_ (λs d W a0=>Q _ _ _ a0) ?_ J (by simpa[I2] using e9) ?_ ?_ ?_ ?_
   .rintro c f d W be ⟨rfl,j,A,M,G⟩ a1
    exact⟨rfl,j,A,M,c1 _ _ _ _ G a1⟩
   .rintro c f d W ⟨rfl,j,A,M,G⟩
    exact cs _ _ _ G
   .rintro k (rfl|rfl|rfl|rfl|b)
    .exact⟨λh=>by have:=b8 _ h;omega,by omega⟩
    .exact⟨λh=>by have:=b8 _ h;omega,by omega⟩
    .exact⟨λh=>by have:=b8 _ h;omega,by omega⟩
    .exact⟨λh=>by have:=b8 _ h;omega,by omega⟩
    .exact⟨λh=>(bb k h).elim (m k (ba k b)).1 (λbh=>by have:=(m k (ba k b)).2;omega),cj.lies k b⟩
   .intro bu a2 K b9 ai c5 y Wd cr ca e8 ay bk e6 g3 em en ⟨gb,g4⟩;obtain⟨z,v,rfl,cl,⟨b5,b1,aq,b7,b3,au,rfl,fc,fd,fe,ff⟩,ei⟩:=e8;have gx:U.heap.size<=Wd.heap.size:=bk.size;have fp:=bk.heap ((L.block _ (by omega)).t fn) (λh=>ee h);have dh:Fr d W Wd:=c2.grow bk bb;have dj:aJ W d y:=bb.t c2.size e6;have dk:Hid (z.ents=K.map (·.e)):=cl;have dp:Hid (lvs h n i q=a2++K :: b9):=cr;clear cl cr;unfold iY;gi_wp2;refine⟨(AE _ Wd).alloc _,?_⟩;intro a3 cf;have⟨cu,cv,cw,cx,cy,cz,d0,d1⟩:=bO (cf.heap (k:=Wd.heap.size) (aC Wd (pgO z b5 b1 aq b7 b3 au)) (DL em));have du:Fr Bl.none Wd (Wd.alloc (pgO z b5 b1 aq b7 b3 au)):=(AE _ Wd).alloc _;have a8:Fr (Bl.one bu) Wd a3:=(du.m (λ_ h=>h.elim)).t cf.fr;have gp:a3.c W.heap.size 0=some (.func (.yield l) #[] #[]):=by simp[World.cell?,a8.heap fp (oN (by omega))]
    have ea:B (E++a2) y a3:=R _ _ _ _ ca (a8.on (λk b=>⟨(Q _ _ _ ca) k b,λh=>by simp only[Bl.one]at h;subst h;exact en b⟩));have bv:On c5 Wd a3:=a8.on (λk b=>⟨(ay k b).2.1,λh=>(ay k b).2.2 h⟩);have di:Fr d W a3:=dh.grow a8 (λk b=>.inr (by simp only[Bl.one]at b;omega));have br:lvs (h+1) (.branch p ks e) s q=(E++a2)++K :: (b9++((parts s ks e).drop (f.length+1)).flatMap F):=by
     rw[bc.o,c3.o,af.o,dp.o];simp
    have⟨fy,gh,fr,ft,ey,ce⟩:=ec (E++a2) K (b9++((parts s ks e).drop (f.length+1)).flatMap F) #[.agg #[.i z.kind,.i z.ver,.i z.root,.i z.next,.s b5 z.keys.length b7,.s b1 z.kids.length b3,.s aq z.ents.length au,.t z.data]] c5 y a3 br ea ⟨z,_,rfl,dk,⟨b5,b1,aq,b7,b3,au,rfl,fc.on bv,fd.on bv,fe.on bv,ff⟩,ei⟩ (λk b=>⟨(ay k b).1,jY (ay k b).2.1 a8.size⟩) di dj;have dn:Hid ((E++a2)++[K] <+: (parts s ks e).flatMap F):=by
     show _ <+: _
     rw[<-bc.o,br];exact⟨b9++((parts s ks e).drop (f.length+1)).flatMap F,by simp⟩
    clear br;gi_wp2;refine⟨rfl,(vG bu (eT ce)).m ?_⟩;clear ey ce;rintro V dq (⟨rfl,ah,bm,bj,bl⟩|⟨rfl,ah,bm,bj,bl⟩)
    .gi_wp2
     refine⟨ah,?_,bj,bl⟩;show B (E++(a2++[K])) ah dq;rw[<-BU];exact bm
    .gi_wp2
     exact⟨ah,⟨rfl,_,dn,by simp,bm⟩,bj,bl⟩
   .intro y ag ax Y Z
    gi_wp2;refine⟨y,?_,(AB L).t Y,(CR u J).t L.size Z⟩;show B _ _ _;rw[jK,AM,bd.o,af.o];exact ax
   .rintro c a2 y ag es eq ⟨rfl,j,A,M,G⟩ Y Z
    gi_wp2;exact⟨y,⟨rfl,j,A,M,G⟩,(AB L).t Y,(CR u J).t L.size Z⟩
 .intro D y ag e5 bp ax Y Z bi
  have eb:B (lvs (h+1) (.branch p ks e) s q) y ag:=by
   have V:(parts s ks e).take (parts s g.keys g.kids).length=parts s ks e:=by rw[a5,AF,BK]
   rw[bc.o,<-V];exact ax
  clear ax a5;gi_wp2;refine nC rfl bi ⟨⟨_,rfl⟩,y,(((X.m (λ_ h=>h.elim)).t Y).putObj (.inr (by omega)) _),(CR W d).t X.size Z,.inl (R _ _ _ _ eb ((CN _ _).putObj bp _))⟩
 .rintro D c f y ag e5 bp es eq ⟨rfl,j,A,M,G⟩ Y Z bi
  clear a5;gi_wp2;refine nC rfl bi ⟨⟨_,rfl⟩,y,(((X.m (λ_ h=>h.elim)).t Y).putObj (.inr (by omega)) _),(CR W d).t X.size Z,.inr ⟨j,A,M,c1 _ _ _ _ G ((CN _ _).putObj bp _)⟩⟩
def Pe(β sv lv fs)(y:(fs.life==0)=false)(root f i g q):∀h,Ti β sv lv fs root f i g q h:=by
 intro h;induction h with
 |zero =>
  intro r s a d b e c z w v t x u j k l m n o;cases r with
  |leaf p es=>exact Pd β sv lv fs y root f i g p es s q a d b e c z w v t x u j k l m n o
  |branch p ks kids=>exact a.elim
 |succ h ih =>
  intro r s a d b e c z w v t x u j k l m n o;cases r with
  |leaf p es=>exact a.elim
  |branch p ks kids=>exact Hs β sv lv fs y root f i g q h ih p ks kids s a d b e c z w v t x u j k l m n o
attribute [local go_sem] CM
abbrev Sp.all:Sp:=⟨⟨#[]⟩,⟨#[]⟩⟩
def kL(q:Sp)(ls:List (List En)):List En:=ls.flatMap (λes=>es.filter (λx=>q.has x.e.key))
def cU(q:Sp):Option (Nat×T)->List En
 |none=>[]
 |some (h,t)=>kL q (lvs h t Sp.all q)
def pL(x:En)(args:Array Value)(S:Bl)(w:World):Prop:=args=#[.agg #[.string x.e.key,.string x.e.val,.int .i64 x.e.size,.int .i64 x.e.over]]
def Bm{a:Type}(f)(l:List a)(j)(h:j<l.length):(l.take (j+1)).filter f=(l.take j).filter f++(if f l[j]=true then [l[j]] else []):=by
 rw[AN h,GO];simp[GC]
def Ag(β sv lv fs)(root ca cn cc q o)(hl:o≠none->(fs.life==0)=false)(hro:bQ fs root o)(bt bq Rd w)(xt:cW w bt #[.p β 0,.i root,.s ca cn cc] 90)(xq:cW w bq #[.t q.lo,.t q.hi] 154)(hf:aF w β sv lv fs)(r1:Rd bt)(r4:Rd bq)(rf:∀k,fpF β sv lv k->Rd k):
  nH Tryz.prog 134 #[.p bt 0,.p bq 0] pL (cU q o) Rd w:=by
 intro l J Jx Y W a8 g sJ lJ sJx b6 hY h0;refine BX Tryz.func134 rfl trivial ?_ rfl;simp only[Tryz.ntmps134,jA,jB,jN,Nat.reduceAdd,Nat.reduceSub,jR,jO,jP,jT,jE,jF];have N:=lJ [] Y W h0;have l1:=(g bt r1).2;have l4:=(g bq r4).2;obtain⟨W1,b8,-,y1,-⟩:=al1 W (.cells #[.func (.yield l) #[] #[]] 200);have f1:Fr Bl.none W W1:=b8▸(AE _ W).alloc _;have o1:On Rd w W1:=a8.t (f1.on (λk b=>⟨(g k b).2,λh=>h⟩));have⟨a0,a1,a2⟩:=eC (o1.heap xt r1);have⟨c0,c1⟩:=bY (o1.heap xq r4);cases o with
 |none =>
  have hr:root=0:=hro;subst hr;have F1:Fr Y W W1:=f1.m (λ_ h=>h.elim);gi_wp2;exact⟨_,EN rfl _ _ _,⟨_,rfl⟩,Y,F1,CR _ _,.inl (sJ _ _ _ _ h0 (f1.on (λk b=>⟨N k b,λh=>h⟩)))⟩
 |some x =>
  replace hl:=hl nofun;have⟨h,t⟩:=x;have⟨hr,hp,b2⟩:=hro;have bn:((root:Int)==0)=false:=by simp;omega
  have av:=tE root root β ca cn cc Sp.all q W1;have HP:Hid (t.place=root):=hp;clear hp;gi_wp2_with (refine⟨trivial,rfl,?_⟩;gi_at_call 135;apply(AZ.2 av).m;clear av;rintro e W₆ ⟨rfl,p1,p2,p3,p4,B⟩);rw[<-HP.o]at p2;have f6:Fr Bl.none W W₆:=f1.t (AB B);have z1:W.heap.size<W1.heap.size:=(gL y1);have z6:W1.heap.size+1+1+1<W₆.heap.size:=(gL p4);have o6:On Rd w W₆:=a8.t (f6.on (λk b=>⟨(g k b).2,λh=>h⟩));have al:=hf.on (o6.m rf);have b5:=sJ _ _ _ _ h0 (f6.on (λk b=>⟨N k b,λh=>h⟩));have F6:Fr Y W W₆:=f6.m (λ_ h=>h.elim);let R6:Bl:=λk=>k=W1.heap.size\/k=W1.heap.size+1\/k=W1.heap.size+1+1\/k=W1.heap.size+1+1+1\/fpF β sv lv k;have HL:Hid (cU q (some (h,t))=kL q (lvs h t Sp.all q)):=rfl;let I:List (List En)->Bl->World->Prop:=λz Y W=>J (kL q z) Y W;let Ix:Code->List (List En)->Bl->World->Prop:=λc z Y W=>c=.ret/\∃O,O <+: cU q (some (h,t))/\O≠[]/\Jx O Y W;refine fI (P:=Tryz.prog) (Has:=yH) (Rd:=R6) rfl (enters_of Tryz.func161 (by kernel_rfl) rfl) (Pe β sv lv fs hl root ca cn cc q h t Sp.all b2 W1.heap.size (W1.heap.size+1) (W1.heap.size+1+1) (W1.heap.size+1+1+1) R6 W₆ p1 p2 p3 p4 al (.inl rfl) (.inr (.inl rfl)) (.inr (.inr (.inl rfl))) (.inr (.inr (.inr (.inl rfl)))) (λk b=>.inr (.inr (.inr (.inr b))))) (λx aa S W M=>by obtain⟨g',v,rfl,_⟩:=M;rfl) I Ix (λs Y W W' hi ho=>sJ _ _ _ _ hi ho) ?_ (λs Y W hi=>lJ _ _ _ hi) ?_ Y (by simpa[I,kL] using b5) ?_ ?_ ?_ ?_
  .rintro c z Y W W' ⟨rfl,O,h1,h2,h3⟩ ho
   exact⟨rfl,O,h1,h2,sJx _ _ _ _ h3 ho⟩
  .rintro c z Y W ⟨rfl,O,h1,h2,h3⟩
   exact b6 _ _ _ h3
  .rintro k (rfl|rfl|rfl|rfl|b)
   .exact⟨λh=>by have:=N _ h;omega,by omega⟩
   .exact⟨λh=>by have:=N _ h;omega,by omega⟩
   .exact⟨λh=>by have:=N _ h;omega,by omega⟩
   .exact⟨λh=>by have:=N _ h;omega,by omega⟩
   .exact⟨(g k (rf k b)).1,al.lies k b⟩
  .intro l2 r d m aa S2 Y2 Wd ab aj ay G H am bh a9 ak ⟨bl,bg⟩;obtain⟨C,v,rfl,a7,⟨an,ao,aq,au,aw,af,rfl,w1,w2,w3,ww⟩,bk⟩:=ay;have zd:W₆.heap.size<=Wd.heap.size:=H.size;have yd:=H.heap ((B.block _ z1).t y1) (λh=>by have:=N _ h;omega);have od:On Rd w Wd:=o6.t (H.on (λk b=>⟨by have:=(g k b).2;omega,(g k b).1⟩));have Fd:Fr Y W Wd:=F6.t H;have Gd:aJ W Y Y2:=(CR W Y).t F6.size am;have b4:Hid (C.ents=d.map (·.e)):=a7;have bc:Hid (lvs h t Sp.all q=r++d :: m):=ab;have ad:Hid (C.ents.length=d.length):=by show _=_;rw[a7,AF]
   clear a7 ab;unfold iY;gi_wp2;refine⟨(AE _ Wd).alloc _,?_⟩;intro We ap;have ag:=ap.heap (k:=Wd.heap.size) (aC Wd (pgO C an ao aq au aw af)) (DL a9);have⟨m0,m1,m2,m3,m4,m5,m6,m7⟩:=bO ag;have aE:Fr Bl.none Wd (Wd.alloc (pgO C an ao aq au aw af)):=(AE _ Wd).alloc _;have fE:Fr (Bl.one l2) Wd We:=(aE.m (λ_ h=>h.elim)).t ap.fr;have ah:J (kL q r) Y2 We:=sJ _ _ _ _ aj (fE.on (λk b=>⟨(lJ _ _ _ aj) k b,λh=>by simp only[Bl.one]at h;subst h;exact ak b⟩));have oS:On S2 Wd We:=fE.on (λk b=>⟨(G k b).2.1,λh=>(G k b).2.2 h⟩);have Fe:Fr Y W We:=Fd.grow fE (λk b=>.inr (by simp only[Bl.one]at b;omega));have oE:On Rd w We:=od.t (fE.on (λk b=>⟨by have:=(g k b).2;omega,λh=>by simp only[Bl.one]at h;have:=(g k b).2;omega⟩));have zE:Wd.heap.size<We.heap.size:=(gL ag);have wE:=w3.on oS;have bo:=ww.2.2;clear w1 w2 w3;have⟨dn,K⟩:=nM (kL q r);rw[K]at ah;let f:En->Bool:=λx=>q.has x.e.key;have az:Hid (∀j (hj:j<d.length),f d[j]=true->cU q (some (h,t))=(dn++(d.take j).filter f)++d[j]:: ((d.drop (j+1)).filter f++kL q m)):=by
    intro j hj b3;rw[HL.o,bc.o];unfold kL;rw[BV,AK];have e:d.filter f=(d.take j).filter f++d[j]:: (d.drop (j+1)).filter f:=by
     conv=>lhs;rw[<-CD j d,GO,CA hj,GC,AU b3]
    have e2:List.filter (λx=>q.has x.e.key) d=(d.take j).filter f++d[j]:: (d.drop (j+1)).filter f:=e;rw[e2,<-K];simp[kL,BU]
   have bb:Hid (dn++d.filter f=kL q (r++[d])):=by
    show _=_
    rw[<-K];simp[kL,f]
   have bd:¬Y2 W.heap.size:=λh=>(am _ h).elim (λh'=>by have:=N _ h';omega) (λh'=>by omega);have ba:∀k,Rd k->¬Y2 k:=λk b h=>(Gd k h).elim (g k b).1 (λh'=>by have:=(g k b).2;omega);clear K m0 m1 m2 m3 m4 m5 m7 a0 a1 a2 c0 c1;gi_wp2;gi_loopw [20] (λi wr=>∃(j:Nat) (Yr:Bl),j<=C.ents.length/\i=.i j/\J (dn++(d.take j).filter f) Yr wr/\Fr Y2 We wr/\aJ We Y2 Yr) (λi _=>C.ents.length-(intOf i).toNat)
   case atStart=>exact⟨0,Y2,AG _,rfl,by simpa using ah,AE _ _,CR _ _⟩
   case round =>
    obtain⟨j,Yr,hj,rfl,y,n,u⟩:=hrel;have zr:We.heap.size<=wr.heap.size:=n.size;have wR:=wE.on (n.on (λk b=>⟨jY (G k b).2.1 fE.size,(G k b).1⟩));have yR:=n.heap (fE.heap yd (oN (by omega))) bd;have oR:On Rd w wr:=oE.t (n.on (λk b=>⟨by have:=(g k b).2;omega,ba k b⟩));have ae:=lJ _ _ _ y;have FR:Fr Y W wr:=Fe.grow n Gd;have GR:aJ W Y Yr:=Gd.t Fe.size u;by_cases hlt:j<C.ents.length
    .have ar:j<d.length:=by rw[<-ad.o];exact hlt
     have⟨X,hX⟩:=nM (d[j]);have⟨E,hE⟩:=nM (C.ents[j]);have ai:E=X.e:=by rw[<-hE,<-hX];simp only[b4.o];simp
     have⟨eb,eo,b1,be,q0,q1,q2,q3⟩:=wR.ent hlt;rw[hE]at q0 q1 q2 q3;have ac:Hid ((d.take (j+1)).filter f=(d.take j).filter f++(if f X=true then [X] else [])):=by show _=_;rw[Bm f d j ar,hX]
     have R:=az j ar;rw[hX]at R;have Q:Hid (f X=true->cU q (some (h,t))=(dn++(d.take j).filter f)++X :: ((d.drop (j+1)).filter f++kL q m)):=R;subst b1;obtain⟨Wa,b7,-,xa,-⟩:=al1 wr (.cells #[.t E.key,.t E.val,.i E.size,.i E.over] 69);have⟨g0,g1,bp,g3⟩:=kA xa;have fa:Fr Bl.none wr Wa:=b7▸(AE _ wr).alloc _;have oA:On Rd w Wa:=oR.t (fa.on (λk b=>⟨by have:=(g k b).2;omega,λh=>h⟩));have⟨s0,s1⟩:=bY (oA.heap xq r4);have M:=Cr q E.key Wa;have U:Hid (E=X.e):=ai;have za:wr.heap.size<Wa.heap.size:=(gL xa);clear ai hE hX R;cases hb:q.has E.key
     .rw[hb]at M
      have A:f X=false:=by show q.has X.e.key=false;rw[<-U.o];exact hb
      gi_wp2_with (refine⟨trivial,rfl,?_⟩;gi_at_call 136;apply(EA l2 (AZ.2 M)).m;clear M;rintro e Wb ⟨rfl,L⟩);have fb:Fr Bl.none wr Wb:=fa.t (AB L);have b0:=sJ _ _ _ _ y (fb.on (λk b=>⟨ae k b,λh=>h⟩));have HN:Hid (J (dn++(d.take (j+1)).filter f) Yr Wb):=by
       show J _ _ _
       rw[ac.o,A];simpa using b0
      refine⟨λ_ h=>(by cases h),?_⟩;gi_wp2;go_roundw
      case rel=>exact⟨j+1,Yr,by omega,by go_num,HN,n.t (fb.m (λ_ h=>h.elim)),u⟩
      case measure=>simp[intOf];omega
     .rw[hb]at M
      have A:f X=true:=by show q.has X.e.key=true;rw[<-U.o];exact hb
      gi_wp2_with (refine⟨trivial,rfl,?_⟩;gi_at_call 136;apply(EA l2 (AZ.2 M)).m;clear M;rintro e Wb ⟨rfl,L⟩;have⟨t0,t1,t2,t3⟩:=kA ((L.block _ za).t xa);have fb:Fr Bl.none wr Wb:=fa.t (AB L);have bm:Wb.c W.heap.size 0=some (.func (.yield l) #[] #[]):=(by simp[World.cell?,fb.heap yR (λh=>h)]);have⟨fn,bi,ax,bf,hy,hR⟩:=hY _ X _ #[.agg #[.t E.key,.t E.val,.i E.size,.i E.over]] Bl.none Yr Wb (Q A) (sJ _ _ _ _ y (fb.on (λk b=>⟨ae k b,λh=>h⟩))) (by show _=_;rw[U.o]) (λ_ h=>h.elim) (FR.t (fb.m (λ_ h=>h.elim))) GR);refine⟨rfl,(vG l2 (eT hR)).m ?_⟩;clear hy hR;have FB:Fr Y2 We Wb:=n.t (fb.m (λ_ h=>h.elim));rintro e Wf (⟨rfl,Y5,F,a6,a3⟩|⟨rfl,Y5,F,a6,a3⟩)
      .have HN:Hid (J (dn++(d.take (j+1)).filter f) Y5 Wf):=by
        show J _ _ _
        rw[ac.o,A,AU rfl,<-BU];exact F
       clear F;gi_wp2;go_roundw
       case rel=>exact⟨j+1,Y5,by omega,by go_num,HN,FB.grow a6 u,u.t FB.size a3⟩
       case measure=>simp[intOf];omega
      .gi_wp2
       exact⟨Y5,⟨rfl,_,by rw[Q.o A];exact⟨(d.drop (j+1)).filter f++kL q m,by simp⟩,by simp,F⟩,FB.grow a6 u,u.t FB.size a3⟩
    .obtain rfl:j=C.ents.length:=by omega
     have HJ:Hid (J (kL q (r++[d])) Yr wr):=by
      show J _ _ _
      rw[<-bb.o];have e:d.take C.ents.length=d:=by rw[ad.o];exact BK
      rw[e]at y;exact y
     clear y;gi_wp2;exact⟨Yr,HJ,n,u⟩
  .intro D Y2 Wg hD V b9 a5 Z a4
   gi_wp2;refine nC rfl a4 ⟨⟨_,rfl⟩,Y2,((F6.t a5).putObj (.inr (by omega)) _),(CR W Y).t F6.size Z,.inl (sJ _ _ _ _ b9 ((CN _ _).putObj V _))⟩
  .rintro D c z Y2 Wg hD V bj br ⟨rfl,O,h1,h2,h3⟩ a5 Z a4
   gi_wp2;refine nC rfl a4 ⟨⟨_,rfl⟩,Y2,((F6.t a5).putObj (.inr (by omega)) _),(CR W Y).t F6.size Z,.inr ⟨O,h1,h2,sJx _ _ _ _ h3 ((CN _ _).putObj V _)⟩⟩
variable {fs:Fs}
def T.ents:Nat->T->List En
 |_,.leaf _ es=>es
 |0,.branch _ _ _=>[]
 |h+1,.branch _ _ kids=>kids.flatMap (T.ents h)
def qGs{s x:Sp}(a:le s.lo x.lo=true)(b:Vw x.hi s.hi=true){k}(h:x.has k=true):s.has k=true:=by
 unfold Sp.has at *;rw[AP]at *;exact⟨bG a h.1,Xk b h.2⟩
def sU{m}:∀(s:Sp) (ks:List ByteArray) (c:List m),c.length=ks.length+1->ks.Pairwise (λa b=>lt a b=true)->(∀k∈ks,lt s.lo k=true/\Sp.below s.hi k=true)->∀x∈parts s ks c,le s.lo x.2.lo=true/\Vw x.2.hi s.hi=true
 |s,_,[],hl,_,_=>by simp at hl
 |s,[],k :: c,hl,_,_=>by
  have:=AH (by simpa using hl);subst this;simp only[parts,AJ];rintro x rfl;exact⟨bD _,qCi _⟩
 |s,q :: ks,k :: c,hl,hp,hb=>by
  have⟨i,h⟩:=BG.1 hp;have⟨e,f⟩:=hb q (by simp);simp only[parts,AS];rintro x (rfl|d)
  .exact⟨bD _,Hv (k:=q) f (λg=>by rw[g,Vb]at e;cases e)⟩
  .have⟨j,l⟩:=sU ⟨q,s.hi⟩ ks c (by grind) h (λx d=>⟨i x d,(hb x (by simp[d])).2⟩) x d
   exact⟨bG (gV e) j,l⟩
def jG{b}:∀(s:Sp) (ks:List ByteArray) (a:List b),(parts s ks a).map (·.1)=a
 |_,_,[]=>by simp[parts]
 |s,[],k :: a=>by simp[parts,jG ⟨s.hi,s.hi⟩ [] a]
 |s,q :: ks,k :: a=>by simp[parts,jG ⟨q,s.hi⟩ ks a]
def dO {h p ks f s}(y:aV fs (h+1) (.branch p ks f) s):f.length=ks.length+1/\ks.Pairwise (λa b=>lt a b=true)/\(∀k∈ks,lt s.lo k=true/\Sp.below s.hi k=true)/\(∀k∈ks,k.size<=24)/\∀x∈parts s ks f,aV fs h x.1 x.2:=by
 have⟨g,r,u,v,_,w,⟨o,j,c⟩,q⟩:=y;have⟨i,n⟩:=Vx r u;rw[v]at i n;refine⟨w,i,λk e=>?_,λk e=>(n k e).2,q⟩;obtain⟨d,l,rfl⟩:=AV e;have m:=BD.1 i;constructor
 .rcases JJ d with rfl|t
  .exact j
  .exact eY j (m 0 d o l t)
 .unfold Sp.has at c
  rw[AP]at c;by_cases hl:d=ks.length-1
  .grind
  .exact below_le (gV (m d (ks.length-1) l (by omega) (by omega))) c.2
def gQ:∀{h:Nat}{t:T}{s:Sp},aV fs h t s->∀e∈T.ents h t,s.has e.e.key=true
 |0,.leaf p es,s,ht,e,a=>by have⟨g,_,_,_,_,d,_⟩:=ht;exact d e a
 |0,.branch _ _ _,s,ht,e,a=>by simp[T.ents]at a
 |h+1,.leaf _ _,s,ht,e,a=>by simp[aV]at ht
 |h+1,.branch p ks kids,s,ht,e,a=>by
  have⟨k,l,i,_,f⟩:=dO ht;simp only[T.ents,AX]at a;have⟨m,j,a⟩:=a;have:m∈(parts s ks kids).map (·.1):=by rw[jG];exact j
  obtain⟨c,b,rfl⟩:=AW.1 this;have⟨n,o⟩:=sU s ks kids k l i c b;exact qGs n o (gQ (f c b) e a)
def qGd{x q:Sp}{k}(a:x.has k=true)(b:q.has k=true):x.meets q=true:=by
 unfold Sp.has at a b;unfold Sp.meets;rw[AP]at *;exact⟨below_le b.1 a.2,below_le a.1 b.2⟩
def Oi (q):∀{h:Nat}{t:T}{s:Sp},aV fs h t s->kL q (lvs h t s q)=(T.ents h t).filter (λx=>q.has x.e.key)
 |0,.leaf p es,s,ht=>by simp[kL,lvs,T.ents]
 |0,.branch _ _ _,s,ht=>by rfl
 |h+1,.leaf _ _,s,ht=>by simp[aV]at ht
 |h+1,.branch p ks kids,s,ht=>by
  have⟨b,n,m,_,f⟩:=dO ht;have k:∀(a:List (T×Sp)),(∀x∈a,aV fs h x.1 x.2)->kL q (a.flatMap (λx=>if x.2.meets q=true then lvs h x.1 x.2 q else []))=((a.map (·.1)).flatMap (T.ents h)).filter (λx=>q.has x.e.key):=by
   intro a b;induction a with
   |nil=>rfl
   |cons x a ih =>
    have c:=b x (by simp);have e:kL q (if x.2.meets q=true then lvs h x.1 x.2 q else [])=(T.ents h x.1).filter (λx=>q.has x.e.key):=by
     split
     .exact Oi q c
     .rename_i hm
      symm;rw[show kL q []=[] from rfl,KE];intro d g i;exact hm (qGd (gQ c d g) i)
    rw[BH,AK,AK,GO,<-ih (λl j=>b l (by simp[j])),<-e];unfold kL;rw[BV]
  simp only[lvs,T.ents];rw[k _ f,jG]
attribute [local go_sem] CM
def chE(c:Ch):En:=⟨⟨c.key,c.val,c.val.size,0⟩,[]⟩
def dT(cs:List Ch):List En:=(cs.filter (λc=>!c.gone)).map chE
def Tt(cs:List Ch)(j)(h:j<cs.length):dT (cs.take (j+1))=dT (cs.take j)++(if cs[j].gone=true then [] else [chE cs[j]]):=by
 unfold dT;rw[Bm _ cs j h,BM];cases cs[j].gone<;>rfl
def Nq(cs j)(h:j<cs.length)(a:cs[j].gone=false):dT cs=dT (cs.take j)++chE cs[j]:: dT (cs.drop (j+1)):=by
 unfold dT;conv=>lhs;rw[<-CD j cs,GO,CA h,GC];simp[a]
def Li{w:World}{b i cs e v}(h:cW w b cs e)(k:cs[i]?=some v):w.setCell (aD b i) v=w:=by
 have f:(w.setCell (aD b i) v).heap=w.heap:=by
  apply Array.ext
  .simp[World.setCell]
  .intro g c d
   by_cases hk:g=b
   .subst hk
    have a:=aB h i v;have j:cs.setIfInBounds i v=cs:=by
     have⟨m,n⟩:=jJ.1 k;apply Array.ext
     .simp
     .intro o l p
      rw[Array.getElem_setIfInBounds (by simpa using l)];split
      .subst_vars;rfl
      .rfl
    rw[j,<-h]at a;rw[EY c,EY d]at a;exact LW a
   .have:=CY w (aD b i) v g hk
    rw[EY c,EY d]at this;exact LW this
 cases w
 simp only[World.setCell]at f⊢;rw[f]
def Kk(c:Ch)(w):
  cL 97 #[.agg #[.t c.key,.t c.val,.bool c.gone]] w λe w'=>e=.r (.agg #[.t c.key,.t c.val,.i c.val.size,.i 0])/\bW w w':=by
 have⟨b,f⟩:=nM (w.alloc (.cells #[.t c.key,.t c.val,.bool c.gone] 101));have⟨a,g⟩:=nM (b.alloc (.cells #[.e,.e,.i 0,.i 0] 69));have r:b.heap.size=w.heap.size+1:=by rw[<-f];simp
 have o:cW b w.heap.size #[.t c.key,.t c.val,.bool c.gone] 101:=f▸aC w _;have q:cW a w.heap.size #[.t c.key,.t c.val,.bool c.gone] 101:=g▸aQ _ o;have d:cW a (w.heap.size+1) #[.e,.e,.i 0,.i 0] 69:=by rw[<-r];exact g▸aC b _
 have⟨s,t,u⟩:=eC q;obtain⟨x,y,z,A⟩:=kA d;have B:=aA d;have m:=aB (aB (aB (aB d 0 (.t c.key)) 1 (.t c.val)) 2 (.i c.val.size)) 3 (.i 0);obtain⟨i,j,k,l⟩:=kA (w:=(((a.setCell (aD (w.heap.size+1) 0) (.t c.key)).setCell (aD (w.heap.size+1) 1) (.t c.val)).setCell (aD (w.heap.size+1) 2) (.i c.val.size)).setCell (aD (w.heap.size+1) 3) (.i 0)) (by simpa using m);have h:Hid (bW w ((((a.setCell (aD (w.heap.size+1) 0) (.t c.key)).setCell (aD (w.heap.size+1) 1) (.t c.val)).setCell (aD (w.heap.size+1) 2) (.i c.val.size)).setCell (aD (w.heap.size+1) 3) (.i 0))):=by
  have n:bW w a:=by rw[<-g,<-f];exact(bA _ _).alloc (by simp) _
  exact(((n.setCell (p:=(aD (w.heap.size+1) 0)) (by simp) _).setCell (p:=(aD (w.heap.size+1) 1)) (by simp) _).setCell (p:=(aD (w.heap.size+1) 2)) (by simp) _).setCell (p:=(aD (w.heap.size+1) 3)) (by simp) _
 go_enter Tryz.func97,Tryz.ntmps97;go_wp2;refine BI (v:=.agg #[.t c.key,.t c.val,.i c.val.size,.i 0]) ?_ rfl ⟨rfl,h⟩;simp[results,Tryz.results97,go_sem,i,j,k,l]
def qKv(J Jx:List En->Bl->World->Prop)(xs pre ts:List En)(Y:Bl)(W:World)(e:Ending)(W':World):Prop :=
 (e=.returned (.bool true)/\∃Y',J (pre++ts) Y' W'/\Fr Y W W'/\aJ W Y Y') \/
 (e=.returned (.bool false)/\∃Y' pp,pp <+: xs/\pp≠[]/\Jx pp Y' W'/\Fr Y W W'/\aJ W Y Y')
def Np(l xs J Jx)(sJ:rZ J)(lJ:Nf J)(Y₀ W₀)(hY:∀pre x rest args S Y' W',xs=pre++x :: rest->J pre Y' W'->pL x args S W'->(∀k,S k->¬Y' k/\k<W'.heap.size)->Fr Y₀ W₀ W'->aJ W₀ Y₀ Y'->YieldAt Fence.wide 0 Tryz.prog l args W' (qIm J Jx (pre++[x]) Y' W'))(ca cc cs S pre post Y W)(hx:xs=pre++(dT cs++post))(hR:aH W S ca (cs.flatMap Ch.cells))(hS:∀b,S b->¬Y b/\b<W.heap.size)(hn:cs.length<=1000000)(hc:cs.length<=cc)(h0:J pre Y W)(hF:Fr Y₀ W₀ W)(hG:aJ W₀ Y₀ Y):
  CallsIn Fence.wide 0 Tryz.prog 196 #[.s ca cs.length cc,.func (.yield l) #[] #[]] W (qKv J Jx xs pre (dT cs) Y W):=by
 refine KB Tryz.func196 rfl trivial ?_ rfl;simp only[Tryz.ntmps196,jA,jB,jN,Nat.reduceAdd,Nat.reduceSub,jR,jO,jP,jT,jE,jF];have HX:Hid (xs=pre++(dT cs++post)):=hx;clear hx;gi_wp2;gi_loopw [9] (λi wr=>∃(j:Nat) (n:Bl),j<=cs.length/\i=.i j/\J (pre++dT (cs.take j)) n wr/\Fr Y W wr/\aJ W Y n) (λi _=>cs.length-(intOf i).toNat)
 case atStart=>exact⟨0,Y,AG _,rfl,by simpa[dT] using h0,AE _ _,CR _ _⟩
 case round =>
  obtain⟨j,n,hj,rfl,m,f,d⟩:=hrel;have zr:=f.size;have z:=lJ _ _ _ m;by_cases hlt:j<cs.length
  .have⟨rb,ro,G,a0,k0,k1,L⟩:=(hR.on (f.on (λk y=>⟨(hS k y).2,(hS k y).1⟩))).ch hlt
   subst G;have⟨c,g⟩:=nM (cs[j]);rw[g]at k0 k1 L;have X:Hid (dT (cs.take (j+1))=dT (cs.take j)++(if c.gone=true then [] else [chE c])):=by show _=_;rw[Tt cs j hlt,g]
   have E:Hid (c.gone=false->dT cs=dT (cs.take j)++chE c :: dT (cs.drop (j+1))):=by
    intro o;have:=Nq cs j hlt (by rw[g];exact o);rw[g]at this;exact this
   obtain⟨Wa,p,-,A,-⟩:=al1 wr (.cells #[.t c.key,.t c.val,.bool c.gone] 101);have⟨g0,g1,T⟩:=eC A;have F:Fr Bl.none wr Wa:=p▸(AE _ wr).alloc _;have a1:=aA A;have U:=Kk c Wa;clear g hR;cases o:c.gone
   .have K:xs=(pre++dT (cs.take j))++chE c :: (dT (cs.drop (j+1))++post):=by rw[HX.o,E.o o];simp
    have Q:Hid (xs=(pre++dT (cs.take j))++chE c :: (dT (cs.drop (j+1))++post)):=K;rw[o]at T L U p A;have H:=Li (i:=2) A (v:=.bool false) rfl;gi_wp2_with (refine⟨trivial,rfl,?_⟩;gi_at_call 97;apply(AZ.2 U).m;rintro e Wb ⟨rfl,O⟩;have M:Fr Bl.none wr Wb:=F.t (AB O);have⟨fn,V,D,R,hy,N⟩:=hY _ (chE c) _ #[.agg #[.t c.key,.t c.val,.i c.val.size,.i 0]] Bl.none n Wb Q (sJ _ _ _ _ m (M.on (λk y=>⟨z k y,λh=>h⟩))) rfl (λ_ h=>h.elim) ((hF.grow f hG).t (M.m (λ_ h=>h.elim))) (hG.t hF.size d));refine⟨rfl,(eT N).m ?_⟩;have B:Fr Y W Wb:=f.t (M.m (λ_ h=>h.elim));rintro e Wf (⟨rfl,C,u,q,r⟩|⟨rfl,C,u,q,r⟩)
    .have I:Hid (J (pre++dT (cs.take (j+1))) C Wf):=by
      show J _ _ _
      rw[X.o,o,AR (by simp),<-BU];exact u
     gi_wp2;go_roundw
     case rel=>exact⟨j+1,C,by omega,by go_num,I,B.grow q d,d.t B.size r⟩
     case measure=>simp[intOf];omega
    .gi_wp2
     go_ret;exact .inr ⟨rfl,C,_,by rw[Q.o];exact⟨dT (cs.drop (j+1))++post,by simp⟩,by simp,u,B.grow q d,d.t B.size r⟩
   .have I:Hid (J (pre++dT (cs.take (j+1))) n Wa):=by
     show J _ _ _
     rw[X.o,o];simpa using sJ _ _ _ _ m (F.on (λk y=>⟨z k y,λh=>h⟩))
    rw[o]at T L p;gi_wp2;refine⟨trivial,?_⟩;gi_wp2;refine⟨λ_ h=>(by cases h),?_⟩;gi_wp2;go_roundw
    case rel=>exact⟨j+1,n,by omega,by go_num,I,f.t (F.m (λ_ h=>h.elim)),d⟩
    case measure=>simp[intOf];omega
  .obtain rfl:j=cs.length:=by omega
   have Z:Hid (J (pre++dT cs) n wr):=by rw[BK]at m;exact m
   gi_wp2;go_ret;exact .inl ⟨rfl,n,Z,f,d⟩
