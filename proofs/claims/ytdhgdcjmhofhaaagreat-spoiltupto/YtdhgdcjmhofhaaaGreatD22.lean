import Derived.Shelf.RegionOpen
import Derived.LoopNIn
import Derived.LoopIn
import Derived.Test.YtdhgdcjmhofhaaaGreatD18
import Derived.Test.YtdhgdcjmhofhaaaGreatD19
import Derived.Test.YtdhgdcjmhofhaaaGreatD20
set_option linter.all false
set_option maxRecDepth 100000
set_option maxHeartbeats 8000000
namespace Go.Proofs.YtdhgdcjmhofhaaaGreat.Tree
open Go.RowKit Go.Shelf Pages Tryz
attribute [local go_sem] CE
def vG(x:Int×Sp)(args:Array Value)(S:Bl)(w:World):Prop:=args=#[.int .i64 x.1,spV x.2]
theorem Hr(ch bw bp s kind ver root next ka ia ea kc ic en ec data keys kids Rd w)(hw:cW w bw #[.t s.lo,.t s.hi] 154)(hp:cW w bp #[.i kind,.i ver,.i root,.i next,.s ka keys.length kc,.s ia kids.length ic,.s ea en ec,.t data] 80)(hK:aH w Rd ka (keys.map .string))(hI:aH w Rd ia (kids.map (.int .i64)))(rw_:Rd bw)(rp:Rd bp)(hkn:keys.length<=1000)(hin:kids.length<=1000)(hkc:keys.length<=kc)(hic:kids.length<=ic)(l:Nat)(J Jx:List (Int×Sp)->Bl->World->Prop)(Jp:Bl->World->Prop)(Y:Bl)(W:World)(z:On Rd w W)(o:∀k,Rd k->¬Y k/\k<W.1.size)(X:gM J)(lJ:tG J)(hY:∀pre x rest args S Y' W',parts s keys kids=pre++x::rest->J pre Y' W'->vG x args S W'->(∀k,S k->¬Y' k/\k<W'.1.size)->Fr Y W W'->aI W Y Y'->YieldAt Fence.wide 0 prog l args W' (qBa J Jx Jp ch (pre++[x]) Y' W'))(h0:J [] Y W):
  CallsIn Fence.wide 0 prog 167 (#[.func (.yield l) #[] #[]]++#[.p bw 0,.p bp 0]) W λe W'=>qNb J Jx (parts s keys kids) Y W e W'\/(e=.panicked ch/\∃Y',Fr Y W W'/\aI W Y Y'/\Jp Y' W'):=by
 refine KX func167 rfl trivial ?_ rfl;simp only[ntmps167,jA,jB,jN,Nat.reduceAdd,Nat.reduceSub,jR,jO,jP,jT,jE,jF];have M:=z.heap hw rw_;have A:=z.heap hp rp;have⟨a0,a1⟩:=cM M;have⟨e0,e1,e2,e3,e4,e5,e6,e7⟩:=bU A;have lw:=(o bw rw_).2;have lp:=(o bp rp).2;have L:∀Z v,Fr Z W (W.alloc (.cells v 154)):=λZ v=>(AE Z W).alloc _;have K:=aB W (.cells #[.t s.lo,.t s.hi] 154);have lY:=lJ [] Y W h0;have HA:Hid (∀j (hj:j<kids.length),(parts s keys kids)[j]?=some (kids[j],⟨kQ s keys j,rO s keys j⟩)):=λj hj=>fF s keys kids j hj;have HL:Hid ((parts s keys kids).length=kids.length):=dA s keys kids;gi_wp2;gi_loopw [11] (λi wr=>∃(j:Nat) (y:Bl) (hi:ByteArray),j<=kids.length/\i=.i j/\J ((parts s keys kids).take j) y wr/\Fr Y W wr/\aI W Y y/\¬y W /\
   cW wr W #[.t (kQ s keys j),.t hi] 154) (λi _=>kids-(intOf i).toNat)
 case atStart =>
  exact⟨0,Y,s.hi,AG _,rfl,by simpa using X _ _ _ _ h0 ((CM Y W).alloc lY _),L _ _,CS _ _,λh=>Nat.lt_irrefl _ (lY _ h),K⟩
 case round =>
  obtain⟨j,y,hi,hj,rfl,u,N,r,H,a⟩:=hrel;have I:On Rd W wr:=N.on (λk g=>⟨(o k g).2,(o k g).1⟩);have⟨b0,b1⟩:=cM (I.heap M rw_);have⟨f0,q,f2,f3,f4,f5,f6,f7⟩:=bU (I.heap A rp);have⟨d0,d1⟩:=cM a;have B:=aF a;clear a0 a1 e0 e1 e2 e3 e4 e5 e6 e7 K L;by_cases hlt:j<kids.length
  .have⟨ib,io,a3,a5,a8⟩:=((hI.on z).on I).at hlt
   subst a3
   have V:W.1.size≠bp:=ω
   have ab:W≠ib:=by grind
   have⟨hv,F⟩:=nM (rO s keys j)
   have HF:Hid (rO s keys j=hv):=F
   have HB:∀{w1:World},Fr (Bl.one W) wr w1->Fr Y W w1/\On y wr w1:=λb=>⟨N.grow b (λk g=>.inr (by cases g;omega)),b.on (λk g=>⟨lJ _ _ _ u k g,λh=>by cases h;exact H g⟩)⟩
   have G:=HA j hlt;rw[F]at G;have HT:Hid _:=sB G
   have hG:∀{w1:World},Fr (Bl.one W) wr w1->YieldAt Fence.wide 0 prog l #[.i kids[j],.agg #[.t (kQ s keys j),.t hv]] w1 (qBa J Jx Jp ch ((parts s keys kids).take j++[(kids[j],⟨kQ s keys j,hv⟩)]) y w1):=λb=>hY _ _ _ #[.i kids[j],.agg #[.t (kQ s keys j),.t hv]] Bl.none y _ (yL G) (X _ _ _ _ u (HB b).2) (by rfl) (λ_ h=>h.elim) (HB b).1 r
   clear G
   by_cases g:j<keys.length
   case' pos=>
    have⟨kb,ko,a2,a6,a7⟩:=((hK.on z).on I).at g
    subst a2;have a9:W≠kb:=by grind
    have m:keys[j]=hv:=by rw[<-F];simp[rO,g]
    rw[m]at a7
    have⟨w1,f⟩:=nM ((wr.setCell (aD W 1) (.t s.hi)).setCell (aD W 1) (.t hv))
    have D:cW w1 W #[.t (kQ s keys j),.t hv] 154:=by
     rw[<-f];have:=aC (aC a 1 (.t s.hi)) 1 (.t hv);grind
    have b:Fr (Bl.one W) wr w1:=f▸((AE (Bl.one W) wr).s W 1).s W.1.size 1
   case' neg=>
    have m:s.hi=hv:=by rw[<-F];simp[rO,g]
    rw[m]at b1
    have⟨w1,f⟩:=nM (wr.setCell (aD W 1) (.t hv))
    have D:cW w1 W #[.t (kQ s keys j),.t hv] 154:=by
     rw[<-f];have:=aC a 1 (.t hv);grind
    have b:Fr (Bl.one W) wr w1:=f▸(AE (Bl.one W) wr).s W.1.size 1
   all_goals
    have q:=(HB b).1
    have⟨fn,R,C,T,hy,hR⟩:=hG b
    clear F m hG HB
    have⟨m0,m1⟩:=cM D;have⟨p0,p1,p2,p3,p4,p5,p6,p7⟩:=bU (b.heap (I.heap A rp) (λh=>V h.symm))
    gi_wp2
    clear hy;refine⟨rfl,(fK hR).m ?_⟩
    clear d0 d1 B b0 b1 f0 b f2 f3 f4 f5 f6 f7 a hI hK
    rintro e W3 ((⟨rfl,Y3,n,c,d⟩|⟨rfl,Y3,n,c,d⟩)|⟨rfl,Y3,n,c,d⟩)
    .have E:=c.heap D H
     have⟨g0,g1⟩:=cM E;have a4:=aF E;have O:¬Y3 W:=λh=>by
      rcases d _ h with U|U
      .exact H U
      grind
     have F3:Fr Y W W3:=q.grow c r;have G3:aI W Y Y3:=r.t q.size d;have y3:=aC E 0 (.t hv);clear u;gi_wp2;go_roundw
     case rel =>
      refine⟨j+1,Y3,hv,ω,by go_num,?_,F3.setCell (.inr (jU _)) _,G3,O,?_⟩
      .rw[HT.o]
       exact X _ _ _ _ n ((CM _ _).setCell O _)
      .rw[qFz,HF.o]
       grind
     case measure=>simp[intOf];omega
    .gi_wp2;apply BH (EU rfl _ _ _) rfl;exact .inl ⟨⟨_,rfl⟩,Y3,q.grow c r,r.t q.size d,.inr ⟨_,by rw[<-HT.o];grind,σ,n⟩⟩
    .exact⟨rfl,.inr ⟨rfl,Y3,q.grow c r,r.t q.size d,n⟩⟩
  .obtain rfl:j=kids.length:=ω
   have HJ:Hid (J (parts s keys kids) y wr):=by
    have e:(parts s keys kids).take kids.length=parts s keys kids:=by rw[<-HL.o];grind
    rw[e]at u;exact u
   clear u;gi_wp2;go_end0;exact .inl ⟨⟨_,rfl⟩,y,N,r,.inl HJ⟩
theorem wA(bw bp s kind ver root next ka ia ea kc ic en ec data keys kids Rd w)(hw:cW w bw #[.t s.lo,.t s.hi] 154)(hp:cW w bp #[.i kind,.i ver,.i root,.i next,.s ka keys.length kc,.s ia kids.length ic,.s ea en ec,.t data] 80)(hK:aH w Rd ka (keys.map .string))(hI:aH w Rd ia (kids.map (.int .i64)))(rw_:Rd bw)(rp:Rd bp)(hkn:keys.length<=1000)(hin:kids.length<=1000)(hkc:keys.length<=kc)(hic:kids.length<=ic):nG prog 167 #[.p bw 0,.p bp 0] vG (parts s keys kids) Rd w:=λl J Jx Y W z o X lJ _ _ hY h0=>(Hr [] bw bp s kind ver root next ka ia ea kc ic en ec data keys kids Rd w hw hp hK hI rw_ rp hkn hin hkc hic l J Jx (λ_ _=>False) Y W z o X lJ (λa b c d e f g h i j k m n=>(hY a b c d e f g h i j k m n).mono (λ_ _=>.inl)) h0).m (λ_ _ h=>h.resolve_right (λ⟨_,_,_,_,h⟩=>h))
attribute [local go_sem] CE
def eV(fs:Fs):Nat->Nat->List (Nat×Pg)->Prop
 |_,rest,[]=>rest=0
 |place,rest,x :: l=>x.1=place/\0<rest/\fs.has place x.2/\x.2.kind=4/\x.2.data.size=min rest 240/\∃nx:Nat,x.2.next=nx/\(nx=0↔rest-x.2.data.size=0)/\eV fs nx (rest-x.2.data.size) l
def Ec(x:Nat×Pg)(args:Array Value)(S:Bl)(w:World):Prop:=∃v,args=#[.int .i64 x.1,v]/\Wt w S x.2 v
theorem eM{w:World}{β a b c t}(h:cW w β #[a,b,c] t):w.c β 0=some a/\w.c β 1=some b/\w.c β 2=some c:=by
 simp[World.cell?,h]
theorem Nk(be bt β sv lv)(fs fs':Fs)(root ca cn cc k v size over)(xs zs:List (Nat×Pg))(Rd)(ch:List PanicEntry)(own:Prop)(w)(he:w.1[be]?=some (.cells #[.t k,.t v,.i size,.i over] 69))(ht:w.1[bt]?=some (.cells #[.p β 0,.i root,.s ca cn cc] 90))(hf:aA w β sv lv fs')(re:Rd be)(rt:Rd bt)(rf:∀k,fpF β sv lv k->Rd k)(hsz:size<=1000000)(hl:(fs'.life==0)=false)(hh:∀x∈xs,fs.has x.1 x.2->fs'.has x.1 x.2)(ho:(over=0/\xs=[]/\¬own)\/(0<over/\eV fs over size (xs++zs)))(hz:(zs=[]/\¬own)\/(own/\∃p g post,zs=(p,g)::post/\∀X,aA X β sv lv fs'->cL 138 #[.agg #[.p β 0,.i root,.s ca cn cc],.i p] X λe w'=>e=.panicked ch/\bW X w'))(l:Nat)(J Jx:List (Nat×Pg)->Bl->World->Prop)(Jp:Bl->World->Prop)(Y:Bl)(W:World)(D:On Rd w W)(y:∀k,Rd k->¬Y k/\k<W)(sJ:gM J)(X:tG J)(sp:∀Y W W',Jp Y W->On Y W W'->Jp Y W')(hw:own->∀Y W,J xs Y W->Jp Y W)(hY:∀pre x rest args S Y' W',xs=pre++x::rest->J pre Y' W'->Ec x args S W'->(∀k,S k->¬Y' k/\k<W')->Fr Y W W'->aI W Y Y'->YieldAt Fence.wide 0 prog l args W' (qBa J Jx Jp ch (pre++[x]) Y' W'))(h0:J [] Y W):
  CallsIn Fence.wide 0 prog 137 (#[.func (.yield l) #[] #[]]++#[.p be 0,.p bt 0]) W (qSf own J Jx Jp ch xs Y W):=by
 refine KX func137 rfl trivial ?_ rfl;simp only[ntmps137,jA,jB,jN,Nat.reduceAdd,Nat.reduceSub,jR,jO,jP,jT,jE,jF];have⟨a0,a1,a2,a3⟩:=kI (D.heap he re);rcases ho with⟨rfl,rfl,hn⟩|⟨ak,n⟩
 .have HN:Hid _:=hn;clear hn;gi_wp2
  apply BH (EU rfl _ _ _) rfl;exact .inl ⟨⟨_,rfl⟩,Y,AE _ _,CS _ _,.inl ⟨HN.o,h0⟩⟩
 .have ad:((over:Int)==0)=false:=χ
  have HC:Hid (eV fs over size (xs++zs)):=n;have HZ:Hid _:=hz;have HW:Hid _:=hw;clear n hz hw;gi_wp2;gi_loopw [4,5] (λpl rs wr=>∃(q r:Nat) (j d:List (Nat×Pg)) (B:Bl),pl=.i q/\rs=.i r/\r<=1000000/\xs=j++d/\eV fs q r (d++zs)/\J j B wr/\Fr Y W wr/\aI W Y B) (λ_ rs _=>(intOf rs).toNat)
  case atStart=>exact⟨over,size,[],xs,Y,rfl,rfl,hsz,rfl,HC,h0,AE _ _,CS _ _⟩
  case round =>
   obtain⟨q,r,j,d,B,rfl,rfl,hr,hx,n,V,hF,K⟩:=hrel;have oR:=hF.on (λk u=>⟨(y k u).2,(y k u).1⟩);have ac:=oR.heap (D.heap ht rt) rt;have aa:=(hf.on (D.m rf)).on (oR.m rf);have⟨b0,b1,b2⟩:=eM ac;cases d with
   |nil =>
    have T:Hid (J xs B wr):=by show J xs B wr;grind
    rcases HZ.o with⟨rfl,hn⟩|⟨hn,p,g,post,rfl,Q⟩
    .obtain rfl:r=0:=n
     have HN:Hid _:=hn;clear hn hx;gi_wp2;go_end0;exact .inl ⟨⟨_,rfl⟩,B,hF,K,.inl ⟨HN.o,T⟩⟩
    .obtain⟨rfl,hr0,_⟩:=n;have hrp:(0:Int)<(r:Int):=ω
     have Q:=Q wr aa;clear V hx
     gi_wp2_with (refine⟨trivial,rfl,?_⟩;gi_at_call 138;refine(BG.2 Q).m ?_;rintro e W2 ⟨rfl,O⟩)
     exact⟨rfl,.inr ⟨rfl,B,hF.t (AB O),K,sp _ _ _ (HW.o hn _ _ T.o) (vV O (X _ _ _ T.o))⟩⟩
   |cons x d =>
    obtain⟨rfl,ai,A,G,a9,nx,L,C,f⟩:=n;replace A:=hh x (by rw[hx];simp) A;have⟨q,g⟩:=x;dsimp only at *;have⟨m,hm⟩:∃m,m=r-g.data:=⟨_,rfl⟩;rw[<-hm]at f C;have⟨U,a5⟩:∃U,U=decide (m=0):=⟨_,rfl⟩;have e1:(g.next==0)=U:=by
     grind
    have e2:((m:Int)==0)=U:=by
     grind
    have af:(r:Int)-(g.data.size:Int)=(m:Int):=ω
    have HM:Hid (m<r/\m<=1000000):=by show _/\_;omega
    have a8:Hid (g.next=(nx:Int)):=L;have T:Hid (xs=j++(q,g):: d):=hx;have F:Hid _:=f;have Q:=Hj β sv lv fs' root ca cn cc q g wr aa hl A;have o:(r<=240/\((g.data.size:Int) != (r:Int))=false)\/(240<r/\((g.data.size:Int) != 240)=false):=by
     grind
    have HK:Hid (g.kind=4):=G;clear G a9 L hx f C hm a5 A;rcases o with⟨ab,a7⟩|⟨ab,a7⟩
    all_goals
     gi_wp2_with (refine⟨trivial,rfl,?_⟩;gi_at_call 138;apply(BG.2 Q).m;rintro e I ⟨vv,rfl,⟨ka,ia,ea,kc,ic,ec,rfl,q1,q2,q3,qq⟩,O⟩;obtain⟨W3,R,-,x3,-⟩:=al1 I (pgO g ka ia ea kc ic ec);have⟨m0,m1,m2,m3,m4,m5,m6,m7⟩:=bU x3;have f3:Fr Bl.none wr W3:=(AB O).t (R▸(AE _ I).alloc _);have N:Fr Y W W3:=hF.t (f3.m (λ_ h=>h.elim));have a6:=sJ _ _ _ _ V (f3.on (λk u=>⟨X _ _ _ V k u,λh=>h⟩));have Z:On (New wr I) I W3:=R▸(CM _ I).alloc (λk u=>u.2) _;have l3:∀k,New wr I k->¬B k/\k<W3:=(λk u=>⟨λM=>by have:=X _ _ _ V k M;have:=u.1;omega,jY u.2 Z.size⟩);obtain⟨fn,ae,a4,ag,M,hR⟩:=hY j (q,g) d #[.i q,.agg #[.i 4,.i g.ver,.i g.root,.i g.next,.s ka g.keys kc,.s ia g.kids ic,.s ea g.ents ec,.t g.data]] (New wr I) B W3 T a6 ⟨_,rfl,ka,ia,ea,kc,ic,ec,by rw[HK.o],q1.on Z,q2.on Z,q3.on Z,qq⟩ l3 N K);refine⟨rfl,(fK hR).m ?_⟩;clear M hR Q;rintro e W4 ((⟨rfl,Y4,E,z,H⟩|⟨rfl,Y4,E,z,H⟩)|⟨rfl,Y4,E,z,H⟩)
     .have⟨n0,n1,n2,n3,n4,n5,n6,n7⟩:=bU (z.heap x3 (λM=>by have:=X _ _ _ V _ M;have:=O.size;omega));gi_wp2;go_roundw
      case rel=>exact⟨nx,m,j++[(q,g)],d,Y4,by rw[a8.o],rfl,HM.2,by rw[T.o];simp,F.o,E,N.grow z K,K.t N.size H⟩
      case measure=>have:=HM.1;simp[intOf];omega
     .clear m0 m1 m2 m3 m4 m5 m6 m7 b0 b1 b2 x3;gi_wp2;apply BH (EU rfl _ _ _) rfl;exact .inl ⟨⟨_,rfl⟩,Y4,N.grow z K,K.t N.size H,.inr ⟨_,⟨d,by rw[T.o];simp⟩,σ,E⟩⟩
     .exact⟨rfl,.inr ⟨rfl,Y4,N.grow z K,K.t N.size H,E⟩⟩
theorem Iy(be bt β sv lv fs root ca cn cc k v size over xs Rd w)(he:w.1[be]?=some (.cells #[.t k,.t v,.i size,.i over] 69))(ht:w.1[bt]?=some (.cells #[.p β 0,.i root,.s ca cn cc] 90))(hf:aA w β sv lv fs)(hl:(fs.life==0)=false)(re:Rd be)(rt:Rd bt)(rf:∀k,fpF β sv lv k->Rd k)(hsz:size<=1000000)(ho:(over=0/\xs=[])\/(0<over/\eV fs over size xs)):
  nG prog 137 #[.p be 0,.p bt 0] Ec xs Rd w:=λl J Jx Y W z o X lJ _ _ hY h0=>(Nk be bt β sv lv fs fs root ca cn cc k v size over xs [] Rd [] False w he ht hf re rt rf hsz hl (λ_ _ h=>h) (ho.imp (λh=>⟨h.1,h.2,id⟩) (λh=>⟨h.1,ζ⟩)) (.inl ⟨rfl,id⟩) l J Jx (λ_ _=>False) Y W z o X lJ (λ_ _ _ h=>h.elim) (λh=>h.elim) (λa b c d e f g h i j k m n=>(hY a b c d e f g h i j k m n).mono (λ_ _=>.inl)) h0).m (λ_ _ h=>(h.resolve_right (λ⟨_,_,_,_,h⟩=>h)).imp id (λ⟨Y,a,b,c⟩=>⟨Y,a,b,c.imp And.right id⟩))
variable {fs:Fs} {g:Pg} {h p:Nat} {ks:List ByteArray} {s:Sp} {u:List Bool}
structure En where
 e:Ent
 ch:List (Nat×Pg)
inductive T where
 |leaf (place:Nat) (es:List En)
 |branch (place:Nat) (ks:List ByteArray) (kids:List T)
def T.place:T->Nat
 |.leaf p _=>p
 |.branch p _ _=>p
def En.ok(fs:Fs)(x:En):Prop:=∃size over:Nat,x.e.size=size/\x.e.over=over/\size<=400/\((over=0/\x.ch=[])\/(0<over/\eV fs over size x.ch))
def En.pages(x:En):List Nat:=x.ch.map (·.1)
def aZ(fs:Fs):Nat->T->Sp->Prop
 |0,.leaf p es,s=>∃g,fs.has p g/\g.kind=3/\g.ents=es.map (·.e)/\es≠[]/\(∀x∈es,s.has x.e.key=true)/\∀x∈es,x.ok fs
 |h+1,.branch p ks kids,s=>∃g,fs.has p g/\g.kind=2/\g.keys=ks/\g.kids=kids.map (λt=>(t.place:Int))/\kids.length=ks.length+1 /\
   (∃h0:0<ks.length,lt s.lo ks[0]=true/\s.has (ks[ks.length-1])=true)/\∀x∈parts s ks kids,aZ fs h x.1 x.2
 |_,_,_=>False
def T.pages:Nat->T->List Nat
 |_,.leaf p es=>p :: es.flatMap En.pages
 |0,.branch p _ _=>[p]
 |h+1,.branch p _ kids=>p :: kids.flatMap (T.pages h)
def T.subs:Nat->T->List (Nat×T)
 |0,t=>[(0,t)]
 |h+1,.leaf p es=>[(h+1,.leaf p es)]
 |h+1,.branch p ks kids=>(h+1,.branch p ks kids):: kids.flatMap (T.subs h)
variable {t:T}
theorem qKx{s g a}(h:yE s g)(b:yE s a):g=a:=h.2.2.2.t b.2.2.2.symm
theorem wG {g a}(h:fs.has p g)(b:fs.has p a):g=a:=qKx h.2 b.2
theorem Ni:∀{l a:List (Nat×Pg)}{p r:Nat},eV fs p r l->eV fs p r a->l=a
 |[],[],_,_,_,_=>rfl
 |[],x :: a,_,r,h,h'=>by
  have⟨_,o,_⟩:=h';have:r=0:=h;omega
 |x :: l,[],_,r,h,h'=>by
  have⟨_,o,_⟩:=h;have:r=0:=h';omega
 |x :: l,x' :: a,p,r,h,h'=>by
  have⟨d,t,e,u,v,q,f,w,g⟩:=h;have⟨i,y,j,z,A,s,k,B,c⟩:=h';have b:=wG e j;have m:q=s:=ζ
  subst m;rw[<-b]at c;have n:=Prod.ext (d.t i.symm) b;rw[n,Ni g c]
theorem yK (a:aZ fs h t s):∃g,fs.has t.place g/\((h=0/\g.kind=3)\/(0<h/\g.kind=2)):=by
 cases h with
 |zero =>
  cases t with
  |leaf p es=>have⟨g,b,c,_⟩:=a;exact⟨g,b,.inl ⟨rfl,c⟩⟩
  |branch p ks kids=>exact a.elim
 |succ h =>
  cases t with
  |leaf p es=>exact a.elim
  |branch p ks kids=>have⟨g,b,c,_⟩:=a;exact⟨g,b,.inr ⟨ω,c⟩⟩
theorem qLq:∀{l a:List En},(∀x∈l,x.ok fs)->(∀x∈a,x.ok fs)->l.map (·.e)=a.map (·.e)->l=a
 |[],[],_,_,_=>rfl
 |[],x :: a,_,_,h=>by simp at h
 |x :: l,[],_,_,h=>by simp at h
 |x :: l,x' :: a,h,h',e=>by
  simp only[BE,GJ]at e;have⟨b,q⟩:=e;have⟨A,y,k,m,_,n⟩:=h x σ;have⟨B,z,o,p,_,i⟩:=h' x' σ;have t:A=B:=ζ
  have s:y=z:=ζ
  subst t s;have j:x.ch=x'.ch:=by
   rcases n with⟨v,c⟩|⟨v,c⟩
   .grind
   .rcases i with⟨w,_⟩|⟨_,d⟩
    .omega
    .exact Ni c d
  have u:x=x':=by
   cases x;cases x';simp only at b j;rw[b,j]
  rw[u,qLq (λg f=>h g (by simp[f])) (λg f=>h' g (by simp[f])) q]
theorem wY:∀{h b:Nat}{t t':T}{s n:Sp},aZ fs h t s->aZ fs b t' n->t.place=t'.place->h=b/\t=t':=by
 intro h;induction h with
 |zero =>
  intro b t t' s n m c l;cases t with
  |branch p ks kids=>exact m.elim
  |leaf p es =>
   have⟨g,i,q,C,P,_,J⟩:=m;cases b with
   |zero =>
    cases t' with
    |branch p' ks' kids'=>exact c.elim
    |leaf p' es' =>
     have⟨o,e,r,D,Q,_,K⟩:=c;have f:p=p':=l;subst f;refine⟨rfl,?_⟩;rw[qLq J K (by rw[<-C,<-D,wG i e])]
   |succ b =>
    cases t' with
    |leaf p' es'=>exact c.elim
    |branch p' ks' kids' =>
     have⟨o,e,r,_⟩:=c;have f:p=p':=l;subst f;have d:=wG i e;grind
 |succ h ih =>
  intro b t t' s n m c l;cases t with
  |leaf p es=>exact m.elim
  |branch p ks kids =>
   have⟨g,i,q,G,E,N,_,A⟩:=m;cases b with
   |zero =>
    cases t' with
    |branch p' ks' kids'=>exact c.elim
    |leaf p' es' =>
     have⟨o,e,r,_⟩:=c;have f:p=p':=l;subst f;have d:=wG i e;grind
   |succ b =>
    cases t' with
    |leaf p' es'=>exact c.elim
    |branch p' ks' kids' =>
     have⟨o,e,r,H,F,O,_,B⟩:=c;have f:p=p':=l;subst f;have d:=wG i e;subst d;have y:=G.symm.t H;subst y;have I:kids.length=kids'.length:=ω;have v:∀a (j:a<kids.length) (k:a<kids'.length),h=b/\kids[a]=kids'[a]:=λa j k=>by
      have w:=BI (fF s ks kids a j);have x:=BI (fF n ks kids' a k);have M:((kids[a]).place:Int)=((kids'[a]).place:Int):=by
       have:=BR (λL=>L[a]?) (E.symm.t F);grind
      grind
     have z:0<kids.length:=ω;refine⟨by rw[(v 0 z ω).1],?_⟩;rw[GB I (λa j k=>(v a j k).2)]
theorem wQ{a k}(h:iG a k=true):lt a k=true/\k.size<=24:=by
 unfold iG at h;simpa[lt] using h
theorem yQ:∀{ks:List ByteArray}{e:ByteArray},gE e ks=true->ks.Pairwise (λa b=>lt a b=true)/\∀k∈ks,lt e k=true/\k.size<=24
 |[],_,_=>⟨.nil,σ⟩
 |k :: r,e,h=>by
  simp only[gE,AM]at h;have⟨g,i⟩:=wQ h.1;have⟨j,f⟩:=yQ h.2;refine⟨BD.2 ⟨λd c=>(f d c).1,j⟩,λd c=>?_⟩;rcases AS.1 c with rfl|c
  .grind
  .exact⟨fG g (f d c).1,(f d c).2⟩
theorem Hk:∀{es:List Ent}{f:ByteArray},gJ f es=true->es.Pairwise (λa b=>lt a.key b.key=true)/\∀e∈es,lt f e.key=true/\e.key.size<=24/\qS e.val e.size e.over=true
 |[],_,_=>⟨.nil,σ⟩
 |e :: r,f,h=>by
  simp only[gJ,AM]at h;have⟨i,j⟩:=wQ h.1.1;have⟨k,g⟩:=Hk h.2;refine⟨BD.2 ⟨λd c=>(g d c).1,k⟩,λd c=>?_⟩;rcases AS.1 c with rfl|c
  .grind
  .exact⟨fG i (g d c).1,(g d c).2⟩
theorem wF (h:fs.has p g):dV g.kind g.ver g.root g.next g.keys g.kids g.ents g.data=true:=by
 obtain⟨_,_,a,_,rfl⟩:=h;unfold Pg.encE cV at a;grind
theorem Zr (h:fs.has p g)(d:g.kind=2):g.keys.Pairwise (λa b=>lt a b=true)/\∀k∈g.keys,lt ⟨#[]⟩ k=true/\k.size<=24:=by
 have c:=wF h;unfold dV at c;rw[d]at c;simp only[show ¬((2:Int)=1) by decide,KA,LU,AM,iH]at c;exact yQ c.2.2
theorem Ub (h:fs.has p g)(d:g.kind=3):g.ents.Pairwise (λa b=>lt a.key b.key=true)/\∀e∈g.ents,lt ⟨#[]⟩ e.key=true/\e.key.size<=24/\qS e.val e.size e.over=true:=by
 have c:=wF h;unfold dV at c;rw[d]at c;simp only[show ¬((3:Int)=1) by decide,show ¬((3:Int)=2) by decide,KA,LU,AM]at c;exact Hk c.2.2
def on(u:List Bool)(p:Nat):Prop:=u[p]?=some true
def marks(u:List Bool)(ps:List Nat):List Bool:=ps.foldl (λu p=>u.set p true) u
theorem vY(u):marks u []=u:=rfl
theorem xQ(u p ps):marks u (p :: ps)=marks (u.set p true) ps:=rfl
theorem gX(u ps qs):marks u (ps++qs)=marks (marks u ps) qs:=by simp[marks]
theorem fJ:∀(ps:List Nat) (u:List Bool),(marks u ps).length=u
 |[],_=>rfl
 |p :: ps,u=>by rw[xQ,fJ ps];simp
theorem qJx {p q:Nat}:on (u.set p true) q↔on u q\/(q=p/\p<u):=by
 unfold on;grind
theorem rC:∀{ps:List Nat}{u:List Bool}{q:Nat},on (marks u ps) q↔on u q\/(q∈ps/\q<u)
 |[],u,q=>by simp[vY]
 |p :: ps,u,q=>by
  rw[xQ,rC,qJx];grind
theorem qQj (h:on u p):u.set p true=u:=by
 have⟨d,a⟩:=AD.1 h;apply GB σ;grind
theorem zK:∀{ps:List Nat}{u:List Bool},(∀p∈ps,on u p)->marks u ps=u
 |[],_,_=>rfl
 |p :: ps,u,h=>by
  rw[xQ,qQj (h p σ)];exact zK (λq a=>h q (by simp[a]))
theorem Nj:∀{l:List (Nat×Pg)}{p r:Nat},eV fs p r l->∀x∈l,∃g,fs.has x.1 g/\g.kind=4
 |[],_,_,_,x,a=>by simp at a
 |y :: l,p,r,h,x,a=>by
  have⟨b,f,c,d,i,m,j,k,e⟩:=h;rcases AS.1 a with rfl|a
  .grind
  .exact Nj e x a
theorem tB {x:En}(h:x.ok fs):∀p∈x.pages,∃g,fs.has p g/\g.kind=4:=by
 intro p c;have⟨f,e,_,_,_,h⟩:=h;simp only[En.pages,AY]at c;obtain⟨d,b,rfl⟩:=c;rcases h with⟨_,a⟩|⟨_,a⟩
 .grind
 .exact Nj a d b
theorem lL {a}(h:t∈a):∃d,(t,d)∈parts s ks a:=by
 obtain⟨c,b,rfl⟩:=AW h;exact⟨_,BI (fF s ks a c b)⟩
theorem pT:∀{h:Nat}{t:T}{s:Sp},aZ fs h t s->∀x∈T.subs h t,∃c,aZ fs x.1 x.2 c/\x.1<=h:=by
 intro h;induction h with
 |zero =>
  intro t s b x a;simp only[T.subs,AL]at a;grind
 |succ h ih =>
  intro t s b x a;cases t with
  |leaf p es=>exact b.elim
  |branch p ks kids =>
   simp only[T.subs,AS,AV]at a;rcases a with rfl|⟨l,f,a⟩
   .grind
   .have⟨g,_,_,_,_,_,_,e⟩:=b;have⟨c,i⟩:=lL (s:=s) (ks:=ks) f;grind
theorem Gp:∀{h:Nat}{t:T}{s:Sp},aZ fs h t s->∀p∈T.pages h t,(∃x∈T.subs h t,x.2.place=p)\/∃g,fs.has p g/\g.kind=4:=by
 intro h;induction h with
 |zero =>
  intro t s b p a;cases t with
  |branch q ks kids=>exact b.elim
  |leaf q es =>
   have⟨g,_,_,_,_,_,j⟩:=b;simp only[T.pages,AS,AV]at a;rcases a with rfl|⟨x,c,a⟩
   .exact .inl ⟨(0,.leaf p es),by simp[T.subs],rfl⟩
   .exact .inr (tB (j x c) p a)
 |succ h ih =>
  intro t s b p a;cases t with
  |leaf q es=>exact b.elim
  |branch q ks kids =>
   have⟨g,_,_,_,_,_,_,f⟩:=b;simp only[T.pages,AS,AV]at a;rcases a with rfl|⟨l,d,a⟩
   .exact .inl ⟨(h+1,.branch p ks kids),by simp[T.subs],rfl⟩
   .have⟨m,k⟩:=lL (s:=s) (ks:=ks) d;rcases ih (f _ k) p a with⟨x,c,i⟩|e
    .exact .inl ⟨x,by simp only[T.subs,AS,AV];grind,i⟩
    grind
theorem Gn (b:aZ fs h t s):∀p∈T.pages h t,p<fs.safe:=by
 intro p c;rcases Gp b p c with⟨f,e,rfl⟩|⟨g,a,_⟩
 .have⟨i,d,_⟩:=pT b f e;have⟨g,a,_⟩:=yK d;exact a.1
 .exact a.1
def Shut(u:List Bool)(h:Nat)(t:T):Prop:=∀x∈T.subs h t,on u x.2.place->∀p∈T.pages x.1 x.2,on u p
theorem qDr:∀x∈T.subs h t,∀p∈T.pages x.1 x.2,p∈T.pages h t:=by
 induction h generalizing t with
 |zero=>intro x a p b;simp only[T.subs,AL]at a;grind
 |succ h ih =>
  intro x a p b;cases t with
  |leaf q es=>simp only[T.subs,AL]at a;grind
  |branch q ks kids =>
   simp only[T.subs,AS,AV]at a;rcases a with rfl|⟨d,c,a⟩
   .exact b
   .simp only[T.pages,AS,AV];grind
theorem Shut.after {h c:Nat}{t t':T}{s B:Sp}(z:aZ fs h t s)(i:aZ fs c t' B)(A:fs.safe.length<=u)(x:Shut u h t):Shut (marks u (T.pages c t')) h t:=by
 intro f j a p d;rw[rC]at a⊢;rcases a with a|⟨w,_⟩
 .exact .inl (x f j a p d)
 .have⟨F,e,_⟩:=pT z f j;have v:∃b∈T.subs c t',b.2.place=f.2.place:=by
   rcases Gp i _ w with n|⟨g,q,D⟩
   .exact n
   .have⟨C,r,E⟩:=yK e;have:=wG q r;grind
  have⟨b,k,o⟩:=v;have⟨G,y,_⟩:=pT i b k;have⟨l,m⟩:=wY e y o.symm;refine .inr ⟨qDr b k p ζ,jY (Gn e p d) A⟩
theorem Shut.kid {a}(c:Shut u (h+1) (.branch p ks a)){k}(b:k∈a):Shut u h k:=by
 intro e d;exact c e (by simp only[T.subs,AS,AV];grind)
theorem Shut.down {b}(d:aZ fs (h+1) (.branch p ks b) s)(n:Shut u (h+1) (.branch p ks b)){k}(c:k∈b):Shut (u.set p true) h k:=by
 intro f e a q m;rw[qJx]at a⊢;rcases a with a|⟨j,_⟩
 .exact .inl (n.kid c f e a q m)
 .have⟨g,_,_,_,_,_,_,i⟩:=d;have⟨w,o⟩:=lL (s:=s) (ks:=ks) c;have⟨x,r,v⟩:=pT (i _ o) f e;have⟨t,_⟩:=wY r d j;omega
variable {B a p:Nat} {Y:Bl} {fs:Fs} {g:Pg} {u:List Bool} {w w':World}
theorem rL(g)(s:Sp)(f c a h d b w):
  cL 145 #[.agg #[.i g.kind,.i g.ver,.i g.root,.i g.next,.s f g.keys.length h,.s c g.kids.length d,.s a g.ents.length b,.t g.data],.agg #[.t s.lo,.t s.hi]] w λe w' =>
   e=.r (.func (.func 167) #[] #[.p (w+1) 0,.p w.1.size 0]) /\
   w'.1[w.1.size]?=some (pgO g f c a h d b)/\w'.1[w.1.size+1]?=some (.cells #[.t s.lo,.t s.hi] 154)/\bW w w':=by
 have B:bW w ((w.alloc (pgO g f c a h d b)).alloc (.cells #[.t s.lo,.t s.hi] 154)):=(bA _ _).alloc σ _;have i:((w.alloc (pgO g f c a h d b)).alloc (.cells #[.t s.lo,.t s.hi] 154)).1[w.1.size]?=some (pgO g f c a h d b):=aP _ (aB w _);have j:((w.alloc (pgO g f c a h d b)).alloc (.cells #[.t s.lo,.t s.hi] 154)).1[w.1.size+1]?=some (.cells #[.t s.lo,.t s.hi] 154):=by
  have:=aB (w.alloc (pgO g f c a h d b)) (.cells #[.t s.lo,.t s.hi] 154);simpa using this
 go_enter func145,ntmps145;go_wp2;go_ret;simp_all
theorem Iz(root β a c b k v size d w):
  cL 99 #[.agg #[.p β 0,.i root,.s a c b],.agg #[.t k,.t v,.i size,.i d]] w λe w' =>
   e=.r (.func (.func 137) #[] #[.p (w+1) 0,.p w.1.size 0]) /\
   w'.1[w.1.size]?=some (.cells #[.p β 0,.i root,.s a c b] 90)/\w'.1[w.1.size+1]?=some (.cells #[.t k,.t v,.i size,.i d] 69)/\bW w w':=by
 have B:bW w ((w.alloc (.cells #[.p β 0,.i root,.s a c b] 90)).alloc (.cells #[.t k,.t v,.i size,.i d] 69)):=(bA _ _).alloc σ _;have f:((w.alloc (.cells #[.p β 0,.i root,.s a c b] 90)).alloc (.cells #[.t k,.t v,.i size,.i d] 69)).1[w.1.size]?=some (.cells #[.p β 0,.i root,.s a c b] 90):=aP _ (aB w _);have g:((w.alloc (.cells #[.p β 0,.i root,.s a c b] 90)).alloc (.cells #[.t k,.t v,.i size,.i d] 69)).1[w.1.size+1]?=some (.cells #[.t k,.t v,.i size,.i d] 69):=by
  have:=aB (w.alloc (.cells #[.p β 0,.i root,.s a c b] 90)) (.cells #[.t k,.t v,.i size,.i d] 69);simpa using this
 go_enter func99,ntmps99;go_wp2;go_ret;simp_all
attribute [local go_sem] CE
def aY(w:World)(ub:Nat)(u:List Bool):Prop:=w.ownsRow 0 4 1 (.slice (some (aD ub 0)) 4096 4096) 4096 (u.map .bool)
theorem aY.cell (h:aY w a u)(b:p<4096)(c:u.length=4096):w.cell? (aD a p)=some (.bool (u[p]'(by omega))):=by
 have:=World.ownsRow.cellAt (w:=w) h p ω;rw[this];simp[c,b]
theorem aY.free (h:aY w a u)(p):w.frozen? (aD a p)=false:=JJ (w:=w) h p
theorem aY.set (h:aY w a u)(p):aY (w.setCell (aD a p) (.bool true)) a (u.set p true):=by
 have:=(World.ownsRow.stored (w:=w) h p (.bool true)).1;unfold aY;rw[List.map_set];exact this
theorem aY.on (h:aY w a u)(c:On Y w w')(d:Y a):aY w' a u:=aS h c (λe b=>by simp[Value.ownBlock]at b;subst b;exact d)
theorem aY.lt (h:aY w a u):a<w:=aL h (k:=a) rfl
theorem aY.fr (h:aY w a u)(f:Fr Y w w')(c:¬Y a):aY w' a u:=h.on (f.on (Z:=Bl.one a) (λd b=>by cases b;exact⟨h.lt,c⟩)) rfl
theorem aY.apart {e β sv lv}(h:aY w e u)(a:aA w β sv lv fs):¬fpF β sv lv e:=by
 have⟨_,i⟩:=id h;rcases i with⟨f,_⟩|⟨g,j,k,d,_,b,_⟩
 .simp at f
 .simp only[AR,BB,CD,DC,CV]at d;obtain⟨rfl,_⟩:=d;rintro(rfl|c|c)
  .have:=a.box;rw[b]at this;simp at this
  .exact aQ a.safe b δ c
  .exact aQ a.late b δ c
theorem uG {e z v n xs C}(h:w.ownsRow B e z v n xs)(j:nA C w w'):w'.ownsRow B e z v n xs:=by
 have⟨d,a⟩:=h;refine⟨d,?_⟩;rcases a with a|⟨g,b,c,rfl,f,i,r⟩
 .exact .inl a
 .exact .inr ⟨g,b,c,rfl,f,j.cells _ _ _ _ i,r⟩
theorem aY.took (h:aY w a u)(b:nA B w w'):aY w' a u:=uG h b
theorem Fr.took {a w w':World}(h:Fr Y a w)(b:nA B w w')(f:a<=B):Fr Y a w' :=
 ⟨b.os.t h.os,b.tape.t h.tape,b.output.t h.output,b.size▸h.size,λc d e=>(b.low c ω).t (h.block c d e)⟩
theorem uB (h:fs.has p g)(a:g.kind=3):g.keys=[]/\g.kids=[]:=by
 obtain⟨_,_,_,_,rfl⟩:=h;revert a;unfold dG kJ;split
 .intro h;simp at h
 .split
  .intro h;simp at h
  .split
   .intro _;exact⟨rfl,rfl⟩
   .split
    .intro h;simp at h
    .rename_i h3 _;intro h;simp only at h;omega
theorem qZ (h:fs.has p g)(a:g.kind=2):g.ents=[]:=by
 obtain⟨_,_,_,_,rfl⟩:=h;revert a;unfold dG kJ;split
 .intro h;simp at h
 .split
  .intro _;rfl
  .split
   .intro h;simp at h
   .split
    .intro h;simp at h
    .intro _;rfl
theorem gB (h:fs.has p g):g.keys.length<=1000/\g.kids.length<=1000/\g.ents.length<=1000:=by
 obtain⟨_,_,_,_,rfl⟩:=h;have a:=((fs.at p).data.toList.getD (bD (fs.at p).data.toList 0 1) 0).toNat_lt;unfold dG kJ;split
 .simp
 .split
  .exact⟨(by simp only[Mm];omega),(by simp only[Ml];omega),σ⟩
  .split
   .refine⟨σ,σ,?_⟩;simp only[My];omega
   .split<;>simp
theorem Shut.afters {h:Nat}{t:T}{s:Sp}:∀{l:List T}{u:List Bool},(∀k∈l,∃a,aZ fs h k a)->aZ fs h t s->fs.safe.length<=u->Shut u h t->Shut (marks u (l.flatMap (T.pages h))) h t
 |[],u,_,_,_,hs=>hs
 |k :: l,u,hl,ht,hu,hs=>by
  have⟨a,c⟩:=hl k σ;rw[AK,gX];exact Shut.afters (λk b=>hl k (by simp[b])) ht (by rw[fJ];exact hu) (hs.after ht c hu)
attribute [local go_sem] CE
theorem Ma(β root c f d a p)(s:Sp)(u w)(r:p<4096)(t:u.length=4096)(h:aY w a u)(q:on u p):
  cL 114 #[.agg #[.p β 0,.i root,.s c f d],.i p,.agg #[.t s.lo,.t s.hi],.q a 4096 4096] w λe w' =>
    (∃v,e=.r v)/\aY w' a u/\Fr (Bl.one a) w w':=by
 have z:(p:Int)<4096:=ω;obtain⟨b,j,g,-,-,m,-⟩:=al3 w (.cells #[.p β 0,.i root,.s c f d] 90) (.cells #[.t s.lo,.t s.hi] 154) (.cells #[.q a 4096 4096] 139); have i:=h.on (vV g (Y:=Bl.one a) (λA k=>by cases k;exact h.lt)) rfl;have o:=i.cell r t;rw[(AD.1 q).2]at o;have y:b.c (w+1+1) 0=some (.q a 4096 4096):=by simp[World.cell?,m]
 refine(BG (n:=0)).1 (CH func114 rfl trivial ?_ rfl);simp only[ntmps114,jA,jB,jN,Nat.reduceAdd,Nat.reduceSub,jR,jO,jP,jT,jE,jF];gi_wp2;apply qPq (B:=w) rfl (GC _ _);intro w' l;exact⟨⟨_,rfl⟩,i.took l,(AB g).took l (jU _)⟩
def bO(fs:Fs)(root:Nat):Option (Nat×T)->Prop
 |none=>root=0
 |some (h,t)=>0<root/\t.place=root/\aZ fs h t ⟨⟨#[]⟩,⟨#[]⟩⟩
def bI:Option (Nat×T)->List Nat
 |none=>[]
 |some (h,t)=>T.pages h t
def vE(u:List Bool):Option (Nat×T)->Prop
 |none=>True
 |some (h,t)=>Shut u h t
attribute [local go_sem] CE
def lvs:Nat->T->Sp->Sp->List (List En)
 |_,.leaf _ es,_,_=>[es]
 |0,.branch _ _ _,_,_=>[]
 |h+1,.branch _ ks kids,s,q=>(parts s ks kids).flatMap (λx=>if x.2.meets q=true then lvs h x.1 x.2 q else [])
def Al(es:List En)(args:Array Value)(S:Bl)(w:World):Prop:=∃g v,args=#[v]/\g.ents=es.map (·.e)/\Wt w S g v/\g.ents.length<=1000
theorem nS{P n a d R D w}(c:a.results=#[])(b:w.1[D]?=some (.deferred (some [])))(h:R (.r (.tuple #[])) (w.putObj D (.deferred none))):
  LeavesInM Fence.wide n P a d R [{target:=.collected D,args:=#[]}] .returning w :=
 ⟨σ,.inl ⟨D,_,rfl,run_takeDeferred b,⟨_,EU c _ _ _,h⟩⟩⟩
theorem wD(w:World)(o k)(a:w.1.size=k):(w.alloc o).1[k]?=some o:=a▸aB w o
theorem uO(root f β b d c)(s q:Sp)(w):
  cL 135 #[.agg #[.p β 0,.i root,.s b d c],.i f,.agg #[.t s.lo,.t s.hi],.agg #[.t q.lo,.t q.hi]] w λe w' =>
   e=.r (.func (.func 161) #[] #[.p w 0,.p (w+1) 0,.p (w+1+1) 0,.p (w+1+1+1) 0]) /\
   w'.1[w.1.size]?=some (.cells #[.p β 0,.i root,.s b d c] 90)/\w'.1[w.1.size+1]?=some (.cells #[.i f] 3) /\
   w'.1[w.1.size+1+1]?=some (.cells #[.t s.lo,.t s.hi] 154)/\w'.1[w.1.size+1+1+1]?=some (.cells #[.t q.lo,.t q.hi] 154)/\bW w w':=by
 have g:∀a,a=(((w.alloc (.cells #[.p β 0,.i root,.s b d c] 90)).alloc (.cells #[.i f] 3)).alloc (.cells #[.t s.lo,.t s.hi] 154)).alloc (.cells #[.t q.lo,.t q.hi] 154) ->
   (a.1[w.1.size]?=some (.cells #[.p β 0,.i root,.s b d c] 90)/\a.1[w.1.size+1]?=some (.cells #[.i f] 3) /\
   a.1[w.1.size+1+1]?=some (.cells #[.t s.lo,.t s.hi] 154)/\a.1[w.1.size+1+1+1]?=some (.cells #[.t q.lo,.t q.hi] 154)/\bW w a):=by
  rintro a rfl;refine⟨aP _ (aP _ (aP _ (aB _ _))),aP _ (aP _ (wD _ _ _ σ)),aP _ (wD _ _ _ σ),wD _ _ _ σ,?_⟩;exact(((bA _ _).alloc σ _).alloc χ _).alloc χ _
 go_enter func135,ntmps135;go_wp2;go_ret;simp_all
attribute [local go_sem] CE
theorem Sl(β sv lv fs)(ad:(fs.life==0)=false)(root O Q P p es s q)(ag:aZ fs 0 (.leaf p es) s)(n i o m Rd w)(av:cW w n #[.p β 0,.i root,.s O Q P] 90)(au:cW w i #[.i p] 3)(aw:cW w o #[.t s.lo,.t s.hi] 154)(bv:cW w m #[.t q.lo,.t q.hi] 154)(aa:aA w β sv lv fs)(a1:Rd n)(a2:Rd i)(a3:Rd o)(an:Rd m)(ao:∀k,fpF β sv lv k->Rd k):
  nG prog 161 #[.p n 0,.p i 0,.p o 0,.p m 0] Al (lvs 0 (.leaf p es) s q) Rd w:=by
 intro N J b0 f W af j ap ai br bi a7 R;refine CH func161 rfl trivial ?_ rfl;simp only[ntmps161,jA,jB,jN,Nat.reduceAdd,Nat.reduceSub,jR,jO,jP,jT,jE,jF];have⟨g,X,l,y,ae,ac,bc⟩:=ag;have x:=ai [] f W R;obtain⟨a,U,-,ax,-⟩:=al1 W (.cells #[.func (.yield N) #[] #[]] 228);have v:Fr Bl.none W a:=U▸(AE _ W).alloc _;have D:=af.t (v.on (λk d=>⟨(j k d).2,λe=>e⟩));have⟨b2,b3,b4⟩:=eM (D.heap av a1);have b6:a.c i 0=some (.i p):=by simp[World.cell?,D.heap au a2]
 have⟨b8,b9⟩:=cM (D.heap aw a3);have⟨aq,bs,a4⟩:=gB X;have a9:0<g.ents.length:=ζ
 have Y:∀r∈g.ents,s.has r.key=true:=λr V=>ζ
 have S:=vU β sv lv fs root O Q P p s g a (aa.on (D.m ao)) ad X (by simp[l]) (by simp[l]) a9 (Y _ (AA _)) (Y _ (AA _)) aq a4;have bd:(g.kind==3)=true:=by simp[l]
 have a5:Hid _:=y;clear l y;gi_wp2_with (refine⟨trivial,rfl,?_⟩;gi_at_call 144;apply(BG.2 S).m;clear S;rintro r b ⟨bu,rfl,⟨B,z,t,C,A,u,rfl,aj,ak,al,am⟩,a8⟩;obtain⟨c,L,-,ar,-⟩:=al1 b (pgO g B z t C A u);have⟨bj,bk,bl,bm,bn,bo,bp,bq⟩:=bU ar;have G:Fr Bl.none a c:=(AB a8).t (L▸(AE _ b).alloc _);have ba:c.c W 0=some (.func (.yield N) #[] #[]):=(by simp[World.cell?,G.heap ax (λe=>e)]);have h:Fr f W c:=(v.t G).m (λ_ e=>e.elim);have a6:=ap _ _ _ _ R ((v.t G).on (Z:=f) (λk d=>⟨x k d,λe=>e⟩));have E:On (New a b) b c:=L▸(CM _ b).alloc (λk d=>d.2) _;have bw:=v.size;obtain⟨bb,bt,b5,b7,M,T⟩:=a7 [] es [] #[.agg #[.i g.kind,.i g.ver,.i g.root,.i g.next,.s B g.keys C,.s z g.kids A,.s t g.ents u,.t g.data]] (New a b) f c rfl a6 ⟨g,_,rfl,a5,⟨B,z,t,C,A,u,rfl,aj.on E,ak.on E,al.on E,am⟩,a4⟩ (λk d=>⟨λM=>by have:=x k M;have:=d.1;omega,jY d.2 E.size⟩) h (CS _ _));refine⟨rfl,(fK T).m ?_⟩;clear M T;rintro r b1 (⟨rfl,F,K,H,I⟩|⟨rfl,F,K,H,I⟩)
 .gi_wp2;refine⟨_,EU rfl _ _ _,⟨_,rfl⟩,F,h.grow H (CS _ _),(CS W f).t h.size I,.inl K⟩
 .gi_wp2;refine⟨_,EU rfl _ _ _,⟨_,rfl⟩,F,h.grow H (CS _ _),(CS W f).t h.size I,.inr ⟨[]++[es],List.prefix_refl _,σ,K⟩⟩
attribute [local go_sem] CE
theorem xC{P n l f c a b w R}(d)(h:RoundIn Fence.wide n P l f c a b w R):RoundIn (Fence.wide.inRound d) n P l f c a b w R:=h
def Wy(β:Nat)(sv lv:Value)(fs:Fs)(root:Int)(ca:Option Addr)(cn cc:Nat)(q:Sp)(h:Nat):Prop :=
 ∀(t:T) (s:Sp),aZ fs h t s->∀(bt bp bw bq:Nat) (Rd:Bl) (w:World),
  w.1[bt]?=some (.cells #[.pointer (some (aD β 0)),.int .i64 root,.slice ca cn cc] 90)->w.1[bp]?=some (.cells #[.int .i64 t.place] 3)->w.1[bw]?=some (.cells #[.string s.lo,.string s.hi] 154)->w.1[bq]?=some (.cells #[.string q.lo,.string q.hi] 154) ->
  aA w β sv lv fs->Rd bt->Rd bp->Rd bw->Rd bq->(∀k,fpF β sv lv k->Rd k) ->
  nG prog 161 #[.pointer (some (aD bt 0)),.pointer (some (aD bp 0)),.pointer (some (aD bw 0)),.pointer (some (aD bq 0))] Al (lvs h t s q) Rd w
theorem Kc(β sv lv fs)(ek:(fs.life==0)=false)(root am ao an q h)(ez:Wy β sv lv fs root am ao an q h)(p ks e s)(ew:aZ fs (h+1) (.branch p ks e) s)(ak a7 al aj Rd w)(db:cW w ak #[.p β 0,.i root,.s am ao an] 90)(fi:cW w a7 #[.i p] 3)(dc:cW w al #[.t s.lo,.t s.hi] 154)(da:cW w aj #[.t q.lo,.t q.hi] 154)(ci:aA w β sv lv fs)(bx:Rd ak)(d7:Rd a7)(bz:Rd al)(c0:Rd aj)(ba:∀k,fpF β sv lv k->Rd k):
  nG prog 161 #[.p ak 0,.p a7 0,.p al 0,.p aj 0] Al (lvs (h+1) (.branch p ks e) s q) Rd w:=by
 intro l B c4 d W er m R Q c1 cs ec c6;refine CH func161 rfl trivial ?_ rfl;simp only[ntmps161,jA,jB,jN,Nat.reduceAdd,Nat.reduceSub,jR,jO,jP,jT,jE,jF];have⟨g,ck,bs,ac,cn,eo,⟨e4,dz,e0⟩,ef⟩:=ew;have a6:=Q [] d W c6;have bu:=(m a7 d7).2;obtain⟨r,cg,-,dd,-⟩:=al1 W (.cells #[.func (.yield l) #[] #[]] 228);have bf:Fr Bl.none W r:=cg▸(AE _ W).alloc _;have ae:=er.t (bf.on (λk b=>⟨(m k b).2,λh=>h⟩));have⟨dr,ds,dt⟩:=eM (ae.heap db bx);have dw:r.c a7 0=some (.i p):=by simp[World.cell?,ae.heap fi d7]
 have⟨dx,dy⟩:=cM (ae.heap dc bz);have⟨d8,fa,fb⟩:=gB ck;have cd:=pX β sv lv fs root am ao an p s g r (ci.on (ae.m ba)) ek ck (by simp[bs]) (by rw[ac];exact e4) (by simp only[ac];exact dz) (by simp only[ac];exact e0) d8 fb;have g6:(g.kind==3)=false:=by simp[bs]
 have dm:Hid (g.keys=ks):=ac;have dl:Hid (g.kids=e.map (λt=>(t.place:Int))):=cn;clear bs ac cn eo;gi_wp2_with (first
  |(refine⟨trivial,rfl,?_⟩;gi_at_call 144;apply(BG.2 cd).m;clear cd;rintro V C ⟨gn,rfl,⟨b4,b0,ap,b6,b2,ar,rfl,f8,f9,ga,d6⟩,ch⟩;obtain⟨o,bo,-,d9,-⟩:=al1 C (pgO g b4 b0 ap b6 b2 ar);have⟨cu,cv,cw,cx,cy,cz,d0,d1⟩:=bU d9;have bg:Fr Bl.none r o:=(AB ch).t (bo▸(AE _ C).alloc _);have d3:=ae.t (bg.on (λk b=>⟨jY (m k b).2 bf.size,λh=>h⟩));have⟨e1,e2⟩:=cM (d3.heap dc bz);have cb:=rL g s b4 b0 ap b6 b2 ar o)
  |(refine⟨trivial,rfl,?_⟩;gi_at_call 145;apply(BG.2 cb).m;clear cb;rintro V N ⟨rfl,fj,de,az⟩))
 have X:=(bf.t bg).t (AB az);have gq:=(gL dd);have gt:=(gL d9);have gs:=ch.size;have gu:=(gL de);have f2:=d3.t (vV az (λk b=>by have:=(m k b).2;omega));have fk:=((bg.t (AB az)).heap dd (λh=>h));have d2:=(bo▸(CM _ C).alloc (λk b=>b.2) _:On (New r C) C o).t (vV az (λk b=>by have:=b.2;omega));let Rk:Bl:=λk=>k=o\/k=o+1\/New r C k;have eu:=wA (o+1) o s g.kind g.ver g.root g.next b4 b0 ap b6 b2 g.ents ar g.data g.keys g.kids Rk N de fj ((f8.on d2).m (λk b=>.inr (.inr b))) ((f9.on d2).m (λk b=>.inr (.inr b))) (.inr (.inl rfl)) (.inl rfl) d8 fa d6.1 d6.2.1;have a5:parts s g.keys g.kids=(parts s ks e).map (λH=>((H.1.place:Int),H.2)):=by rw[dm.o,dl.o,rA]
 let F:T×Sp->List (List En):=λH=>if H.2.meets q=true then lvs h H.1 H.2 q else [];have bc:Hid (lvs (h+1) (.branch p ks e) s q=(parts s ks e).flatMap F):=rfl;have e3:=R _ _ _ _ c6 (X.on (λk b=>⟨a6 k b,λh=>h⟩));let I:List (Int×Sp)->Bl->World->Prop:=λf d W=>B (((parts s ks e).take f).flatMap F) d W;let Ix:Code->List (Int×Sp)->Bl->World->Prop:=λc f d W=>c=.ret/\∃j,j <+: (parts s ks e).flatMap F/\j≠[]/\c4 j d W;refine gF (P:=prog) (Has:=vG) (Rd:=Rk) rfl (enters_of func167 κ rfl) eu (λH ai S W a9=>by rw[a9];rfl) I Ix (λs d W be a0 a1=>R _ _ _ _ a0 a1) ?_ (λs d W a0=>Q _ _ _ a0) ?_ d (by simpa[I] using e3) ?_ ?_ ?_ ?_
 .rintro c f d W be ⟨rfl,j,A,M,G⟩ a1;exact⟨rfl,j,A,M,c1 _ _ _ _ G a1⟩
 .rintro c f d W ⟨rfl,j,A,M,G⟩
  exact cs _ _ _ G
 .rintro k (rfl|rfl|b)
  .exact⟨λh=>by have:=a6 _ h;omega,ω⟩
  .exact⟨λh=>by have:=a6 _ h;omega,ω⟩
  .exact⟨λh=>by have:=a6 _ h;have:=b.1;omega,by have:=b.2;omega⟩
 .intro ad f H gc ai S J Wc bt c8 a9 g0 aw c7 g1 g2 el ⟨ge,g5⟩;have cm:f.length<e.length:=by
   have:=BR List.length bt;rw[a5]at this;simp[dA]at this;omega
  have⟨n,co⟩:=nM (e[f.length]'cm);have⟨i,cq⟩:=nM ((⟨kQ s ks f,rO s ks f⟩:Sp));have a4:=fF s ks e f cm;rw[co,cq]at a4;have ex:=by
   have A:(parts s g.keys g.kids)[f.length]?=some H:=by rw[bt];simp
   rw[a5,BM,a4]at A;simpa using A.symm
  have ev:=ef _ (BI a4);subst ex;have e7:ai=#[.i n.place,.agg #[.t i.lo,.t i.hi]]:=a9;subst e7;have bd:Hid (((parts s ks e).take (f+1)).flatMap F=((parts s ks e).take f).flatMap F++F (n,i)):=by
   show _=_;rw[sB a4,BS];simp
  have c3:Hid ((parts s ks e).flatMap F=((parts s ks e).take f).flatMap F++(F (n,i)++((parts s ks e).drop (f+1)).flatMap F)):=by
   show _=_;conv=>lhs;rw[yL a4]
   rw[BS,AK]
  have⟨E,bq⟩:=nM (((parts s ks e).take f).flatMap F);have c9:B E J Wc:=bq▸c8;rw[bq]at bd c3;have dg:=(X.m (λ_ h=>h.elim)).t aw;have bb:=(CS W d).t X.size c7;have f3:=f2.t (aw.on (λk b=>⟨by have:=(m k b).2;omega,(m k b).1⟩));have ed:¬J W:=λh=>(c7 _ h).elim (λbh=>by have:=a6 _ bh;omega) (λbh=>ω);clear bq c8 co cq a4 a5 bt;unfold iM;gi_wp2;refine⟨(AE _ Wc).alloc _,?_⟩;intro u bn;have dv:Fr Bl.none Wc (Wc.alloc (.cells #[.t i.lo,.t i.hi] 154)):=(AE _ Wc).alloc _;have av:=(dv.m (λ_ h=>h.elim)).t bn.fr;have K:=bn.heap (aB Wc (.cells #[.t i.lo,.t i.hi] 154)) ω;have bw:=f3.t (av.on (λk b=>⟨by have:=(m k b).2;omega,λh=>by simp only[Bl.one]at h;have:=(m k b).2;omega⟩));have fn:=av.heap (aw.heap fk (λh=>by have:=a6 _ h;omega)) φ;have aa:=R _ _ _ _ c9 (av.on (λk b=>⟨(Q _ _ _ c9) k b,λh=>by cases h;exact el b⟩));have df:=dg.grow av (λk b=>.inr (by simp only[Bl.one]at b;omega));have fq:=(gL K);have⟨fw,fx⟩:=cM K;have⟨gi,gj⟩:=cM (bw.heap da c0);have ab:=qFr i q u;have ct:lW Rd u:=λk b=>by have:=(m k b).2;omega
  clear dr ds dt dw dx dy e1 e2 cu cv cw cx cy cz d0 d1;cases hm:i.meets q
  .rw[hm]at ab;have af:Hid (F (n,i)=[]):=by show _=_;simp[F,hm]
   gi_wp2_with (refine⟨trivial,rfl,?_⟩;gi_at_call 162;apply(EN ad (BG.2 ab)).m;rintro V x ⟨rfl,O⟩);refine⟨J,?_,AB O,CS _ _⟩;show B _ _ _;rw[jK,AP,bd.o,af.o,EY];exact R _ _ _ _ aa (vV O (λk b=>Q _ _ _ aa k b))
  .rw[hm]at ab;have af:Hid (F (n,i)=lvs h n i q):=by show _=_;simp[F,hm]
   gi_wp2_with (first
    |(refine⟨trivial,rfl,?_⟩;gi_at_call 162;apply(EN ad (BG.2 ab)).m;clear ab;rintro V x ⟨rfl,O⟩;have d4:=bw.t (vV O ct);have⟨gk,gl,gm⟩:=eM (d4.heap db bx);have⟨fu,fv⟩:=cM ((O.block _ fq).t K);have⟨gf,gg⟩:=cM (d4.heap da c0);have cc:=uO root n.place β am ao an i q x)
    |(refine⟨trivial,rfl,?_⟩;gi_at_call 135;apply(EN ad (BG.2 cc)).m;clear cc;rintro V U ⟨rfl,f5,f6,f7,d5,eg⟩))
   have L:=O.tm eg;have⟨gd,cp⟩:=bn.rcd;have ep:=(gL cp);have f4:=bw.t (vV L ct);have cj:=ci.on (f4.m ba);have gv:=(gL d5);have gr:=O.size;have e9:=R _ _ _ _ aa (vV L (λk b=>Q _ _ _ aa k b));have b8:=Q _ _ _ aa;have ee:=ed;have c2:=df.t (AB L);let R6:Bl:=λk=>k=x\/k=x+1\/k=x+1+1\/k=x+1+1+1\/fpF β sv lv k;let I2:List (List En)->Bl->World->Prop:=λf d W=>B (E++f) d W;let Ix2:Code->List (List En)->Bl->World->Prop:=λc f d W=>c=.ret/\∃j,j <+: (parts s ks e).flatMap F/\j≠[]/\c4 j d W;refine Ql (P:=prog) (Has:=Al) (Rd:=R6) ((L.block _ ep).t cp) rfl (enters_of func161 κ rfl) (ez n i ev x (x+1) (x+1+1) (x+1+1+1) R6 U f5 f6 f7 d5 cj (.inl rfl) (.inr (.inl rfl)) (.inr (.inr (.inl rfl))) (.inr (.inr (.inr (.inl rfl)))) (λk b=>.inr (.inr (.inr (.inr b))))) (λH ai S W a9=>by obtain⟨fz,v,rfl,_⟩:=a9;rfl) I2 Ix2 (λs d W be a0 a1=>R _ _ _ _ a0 a1) ?_ (λs d W a0=>Q _ _ _ a0) ?_ J (by simpa[I2] using e9) ?_ ?_ ?_ ?_
   .rintro c f d W be ⟨rfl,j,A,M,G⟩ a1;exact⟨rfl,j,A,M,c1 _ _ _ _ G a1⟩
   .rintro c f d W ⟨rfl,j,A,M,G⟩;exact cs _ _ _ G
   .rintro k (rfl|rfl|rfl|rfl|b)
    .exact⟨λh=>by have:=b8 _ h;omega,ω⟩
    .exact⟨λh=>by have:=b8 _ h;omega,ω⟩
    .exact⟨λh=>by have:=b8 _ h;omega,ω⟩
    .exact⟨λh=>by have:=b8 _ h;omega,ω⟩
    .exact⟨λh=>(bb k h).elim (m k (ba k b)).1 (λbh=>by have:=(m k (ba k b)).2;omega),cj.lies k b⟩
   .intro bu a2 K b9 ai c5 y Wd cr ca e8 ay bk e6 g3 em en ⟨gb,g4⟩;obtain⟨z,v,rfl,cl,⟨b5,b1,aq,b7,b3,au,rfl,fc,fd,fe,ff⟩,ei⟩:=e8;have fp:=bk.heap ((L.block _ ω).t fn) (λh=>ee h);have dh:=c2.grow bk bb;have dj:=bb.t c2.size e6;have dk:Hid (z.ents=K.map (·.e)):=cl;have dp:Hid (lvs h n i q=a2++K :: b9):=cr;clear cl cr;unfold iM;gi_wp2;refine⟨(AE _ Wd).alloc _,?_⟩;intro a3 cf;have⟨cu,cv,cw,cx,cy,cz,d0,d1⟩:=bU (cf.heap (k:=Wd) (aB Wd (pgO z b5 b1 aq b7 b3 au)) (DT em));have du:Fr Bl.none Wd (Wd.alloc (pgO z b5 b1 aq b7 b3 au)):=(AE _ Wd).alloc _;have a8:=(du.m (λ_ h=>h.elim)).t cf.fr;have gp:a3.c W 0=some (.func (.yield l) #[] #[]):=by simp[World.cell?,a8.heap fp φ]
    have ea:=R _ _ _ _ ca (a8.on (λk b=>⟨(Q _ _ _ ca) k b,λh=>by cases h;exact en b⟩));have bv:=a8.on (λk b=>⟨(ay k b).2.1,λh=>(ay k b).2.2 h⟩);have di:=dh.grow a8 (λk b=>.inr (by simp only[Bl.one]at b;omega));have br:lvs (h+1) (.branch p ks e) s q=(E++a2)++K :: (b9++((parts s ks e).drop (f+1)).flatMap F):=by
     rw[bc.o,c3.o,af.o,dp.o];simp
    have⟨fy,gh,fr,ft,ey,ce⟩:=ec (E++a2) K (b9++((parts s ks e).drop (f+1)).flatMap F) #[.agg #[.i z.kind,.i z.ver,.i z.root,.i z.next,.s b5 z.keys b7,.s b1 z.kids b3,.s aq z.ents au,.t z.data]] c5 y a3 br ea ⟨z,_,rfl,dk,⟨b5,b1,aq,b7,b3,au,rfl,fc.on bv,fd.on bv,fe.on bv,ff⟩,ei⟩ (λk b=>⟨(ay k b).1,jY (ay k b).2.1 a8.size⟩) di dj;have dn:Hid ((E++a2)++[K] <+: (parts s ks e).flatMap F):=by
     show _ <+: _;rw[<-bc.o,br];exact⟨b9++((parts s ks e).drop (f+1)).flatMap F,σ⟩
    clear br;gi_wp2;refine⟨rfl,(xC bu (fK ce)).m ?_⟩;clear ey ce;rintro V dq (⟨rfl,ah,bm,bj,bl⟩|⟨rfl,ah,bm,bj,bl⟩)
    .gi_wp2;refine⟨ah,?_,bj,bl⟩;show B (E++(a2++[K])) ah dq;rw[<-CA];exact bm
    .gi_wp2;exact⟨ah,⟨rfl,_,dn,σ,bm⟩,bj,bl⟩
   .intro y ag ax Y Z;gi_wp2;refine⟨y,?_,(AB L).t Y,(CS u J).t L.size Z⟩;show B _ _ _;rw[jK,AP,bd.o,af.o];exact ax
   .rintro c a2 y ag es eq ⟨rfl,j,A,M,G⟩ Y Z;gi_wp2;exact⟨y,⟨rfl,j,A,M,G⟩,(AB L).t Y,(CS u J).t L.size Z⟩
 .intro D y ag e5 bp ax Y Z bi;have eb:B (lvs (h+1) (.branch p ks e) s q) y ag:=by
   have V:(parts s ks e).take (parts s g.keys g.kids).length=parts s ks e:=by rw[a5,AF,BN]
   rw[bc.o,<-V];exact ax
  clear ax a5;gi_wp2;refine nS rfl bi ⟨⟨_,rfl⟩,y,(((X.m (λ_ h=>h.elim)).t Y).putObj (.inr ω) _),(CS W d).t X.size Z,.inl (R _ _ _ _ eb ((CM _ _).putObj bp _))⟩
 .rintro D c f y ag e5 bp es eq ⟨rfl,j,A,M,G⟩ Y Z bi;clear a5;gi_wp2;refine nS rfl bi ⟨⟨_,rfl⟩,y,(((X.m (λ_ h=>h.elim)).t Y).putObj (.inr ω) _),(CS W d).t X.size Z,.inr ⟨j,A,M,c1 _ _ _ _ G ((CM _ _).putObj bp _)⟩⟩
theorem Sm(β sv lv fs)(y:(fs.life==0)=false)(root f i g q):∀h,Wy β sv lv fs root f i g q h:=by
 intro h;induction h with
 |zero =>
  intro r s a d b e c z w v t x u j k l m n o;cases r with
  |leaf p es=>exact Sl β sv lv fs y root f i g p es s q a d b e c z w v t x u j k l m n o
  |branch p ks kids=>exact a.elim
 |succ h ih =>
  intro r s a d b e c z w v t x u j k l m n o;cases r with
  |leaf p es=>exact a.elim
  |branch p ks kids=>exact Kc β sv lv fs y root f i g q h ih p ks kids s a d b e c z w v t x u j k l m n o
attribute [local go_sem] CE
abbrev Sp.all:Sp:=⟨⟨#[]⟩,⟨#[]⟩⟩
def kT(q:Sp)(ls:List (List En)):List En:=ls.flatMap (λes=>es.filter (λx=>q.has x.e.key))
def dB(q:Sp):Option (Nat×T)->List En
 |none=>[]
 |some (h,t)=>kT q (lvs h t Sp.all q)
def qF(x:En)(args:Array Value)(S:Bl)(w:World):Prop:=args=#[.agg #[.string x.e.key,.string x.e.val,.int .i64 x.e.size,.int .i64 x.e.over]]
theorem Dl{a:Type}(f)(l:List a)(j)(h:j<l.length):(l.take (j+1)).filter f=(l.take j).filter f++(if f l[j]=true then [l[j]] else []):=by
 rw[AJ h,HV];simp[GP]
theorem Cm(β sv lv fs)(root ca cn cc q o)(hl:o≠none->(fs.life==0)=false)(hro:bO fs root o)(bt bq Rd w)(xt:cW w bt #[.p β 0,.i root,.s ca cn cc] 90)(xq:cW w bq #[.t q.lo,.t q.hi] 154)(hf:aA w β sv lv fs)(r1:Rd bt)(r4:Rd bq)(rf:∀k,fpF β sv lv k->Rd k):
  nG prog 134 #[.p bt 0,.p bq 0] qF (dB q o) Rd w:=by
 intro l J Jx Y W a8 g sJ lJ sJx b6 hY h0;refine CH func134 rfl trivial ?_ rfl;simp only[ntmps134,jA,jB,jN,Nat.reduceAdd,Nat.reduceSub,jR,jO,jP,jT,jE,jF];have N:=lJ [] Y W h0;obtain⟨W1,b8,-,y1,-⟩:=al1 W (.cells #[.func (.yield l) #[] #[]] 200);have f1:Fr Bl.none W W1:=b8▸(AE _ W).alloc _;have o1:On Rd w W1:=a8.t (f1.on (λk b=>⟨(g k b).2,λh=>h⟩));have⟨a0,a1,a2⟩:=eM (o1.heap xt r1);have⟨c0,c1⟩:=cM (o1.heap xq r4);cases o with
 |none =>
  have hr:root=0:=hro;subst hr;have F1:Fr Y W W1:=f1.m (λ_ h=>h.elim);gi_wp2;exact⟨_,EU rfl _ _ _,⟨_,rfl⟩,Y,F1,CS _ _,.inl (sJ _ _ _ _ h0 (f1.on (λk b=>⟨N k b,λh=>h⟩)))⟩
 |some x =>
  replace hl:=hl nofun;have⟨h,t⟩:=x;have⟨hr,hp,b2⟩:=hro;have bn:((root:Int)==0)=false:=χ
  have av:=uO root root β ca cn cc Sp.all q W1;have HP:Hid (t.place=root):=hp;clear hp;gi_wp2_with (refine⟨trivial,rfl,?_⟩;gi_at_call 135;apply(BG.2 av).m;clear av;rintro e W₆ ⟨rfl,p1,p2,p3,p4,B⟩);rw[<-HP.o]at p2;have f6:Fr Bl.none W W₆:=f1.t (AB B);have z1:W.1.size<W1:=(gL y1);have z6:W1.1.size+1+1+1<W₆:=(gL p4);have o6:On Rd w W₆:=a8.t (f6.on (λk b=>⟨(g k b).2,λh=>h⟩));have al:=hf.on (o6.m rf);have b5:=sJ _ _ _ _ h0 (f6.on (λk b=>⟨N k b,λh=>h⟩));have F6:Fr Y W W₆:=f6.m (λ_ h=>h.elim);let R6:Bl:=λk=>k=W1\/k=W1+1\/k=W1+1+1\/k=W1+1+1+1\/fpF β sv lv k;have HL:Hid (dB q (some (h,t))=kT q (lvs h t Sp.all q)):=rfl;let I:List (List En)->Bl->World->Prop:=λz Y W=>J (kT q z) Y W;let Ix:Code->List (List En)->Bl->World->Prop:=λc z Y W=>c=.ret/\∃O,O <+: dB q (some (h,t))/\O≠[]/\Jx O Y W;refine gF (P:=prog) (Has:=Al) (Rd:=R6) rfl (enters_of func161 κ rfl) (Sm β sv lv fs hl root ca cn cc q h t Sp.all b2 W1 (W1+1) (W1+1+1) (W1+1+1+1) R6 W₆ p1 p2 p3 p4 al (.inl rfl) (.inr (.inl rfl)) (.inr (.inr (.inl rfl))) (.inr (.inr (.inr (.inl rfl)))) (λk b=>.inr (.inr (.inr (.inr b))))) (λx aa S W M=>by obtain⟨g',v,rfl,_⟩:=M;rfl) I Ix (λs Y W W' hi ho=>sJ _ _ _ _ hi ho) ?_ (λs Y W hi=>lJ _ _ _ hi) ?_ Y (by simpa[I,kT] using b5) ?_ ?_ ?_ ?_
  .rintro c z Y W W' ⟨rfl,O,h1,h2,h3⟩ ho
   exact⟨rfl,O,h1,h2,sJx _ _ _ _ h3 ho⟩
  .rintro c z Y W ⟨rfl,O,h1,h2,h3⟩
   exact b6 _ _ _ h3
  .rintro k (rfl|rfl|rfl|rfl|b)
   .exact⟨λh=>by have:=N _ h;omega,ω⟩
   .exact⟨λh=>by have:=N _ h;omega,ω⟩
   .exact⟨λh=>by have:=N _ h;omega,ω⟩
   .exact⟨λh=>by have:=N _ h;omega,ω⟩
   .exact⟨(g k (rf k b)).1,al.lies k b⟩
  .intro l2 r d m aa S2 Y2 Wd ab aj ay G H am bh a9 ak ⟨bl,bg⟩;obtain⟨C,v,rfl,a7,⟨an,ao,aq,au,aw,af,rfl,w1,w2,w3,ww⟩,bk⟩:=ay;have yd:=H.heap ((B.block _ z1).t y1) (λh=>by have:=N _ h;omega);have od:On Rd w Wd:=o6.t (H.on (λk b=>⟨by have:=(g k b).2;omega,(g k b).1⟩));have Fd:Fr Y W Wd:=F6.t H;have Gd:aI W Y Y2:=(CS W Y).t F6.size am;have b4:Hid (C.ents=d.map (·.e)):=a7;have bc:Hid (lvs h t Sp.all q=r++d :: m):=ab;have ad:Hid (C.ents.length=d):=by show _=_;rw[a7,AF]
   clear a7 ab;unfold iM;gi_wp2;refine⟨(AE _ Wd).alloc _,?_⟩;intro We ap;have ag:=ap.heap (k:=Wd) (aB Wd (pgO C an ao aq au aw af)) (DT a9);have⟨m0,m1,m2,m3,m4,m5,m6,m7⟩:=bU ag;have aE:Fr Bl.none Wd (Wd.alloc (pgO C an ao aq au aw af)):=(AE _ Wd).alloc _;have fE:Fr (Bl.one l2) Wd We:=(aE.m (λ_ h=>h.elim)).t ap.fr;have ah:J (kT q r) Y2 We:=sJ _ _ _ _ aj (fE.on (λk b=>⟨(lJ _ _ _ aj) k b,λh=>by simp only[Bl.one]at h;subst h;exact ak b⟩));have oS:On S2 Wd We:=fE.on (λk b=>⟨(G k b).2.1,λh=>(G k b).2.2 h⟩);have Fe:Fr Y W We:=Fd.grow fE (λk b=>.inr (by simp only[Bl.one]at b;omega));have oE:On Rd w We:=od.t (fE.on (λk b=>⟨by have:=(g k b).2;omega,λh=>by simp only[Bl.one]at h;have:=(g k b).2;omega⟩));have zE:Wd.1.size<We:=(gL ag);have wE:=w3.on oS;clear w1 w2 w3;have⟨dn,K⟩:=nM (kT q r);rw[K]at ah;let f:En->Bool:=λx=>q.has x.e.key;have az:Hid (∀j (hj:j<d.length),f d[j]=true->dB q (some (h,t))=(dn++(d.take j).filter f)++d[j]:: ((d.drop (j+1)).filter f++kT q m)):=by
    intro j hj b3;rw[HL.o,bc.o];unfold kT;rw[BS,AK];have e:d.filter f=(d.take j).filter f++d[j]:: (d.drop (j+1)).filter f:=by
     conv=>lhs;rw[<-BU j d,HV,BZ hj,GP,AU b3]
    have e2:List.filter (λx=>q.has x.e.key) d=(d.take j).filter f++d[j]:: (d.drop (j+1)).filter f:=e;rw[e2,<-K];simp[kT,CA]
   have bb:Hid (dn++d.filter f=kT q (r++[d])):=by
    show _=_
    rw[<-K];simp[kT,f]
   have bd:¬Y2 W:=λh=>(am _ h).elim (λh'=>by have:=N _ h';omega) (λh'=>ω);have ba:∀k,Rd k->¬Y2 k:=λk b h=>(Gd k h).elim (g k b).1 (λh'=>by have:=(g k b).2;omega);clear K m0 m1 m2 m3 m4 m5 m7 a0 a1 a2 c0 c1;gi_wp2;gi_loopw [20] (λi wr=>∃(j:Nat) (Yr:Bl),j<=C.ents/\i=.i j/\J (dn++(d.take j).filter f) Yr wr/\Fr Y2 We wr/\aI We Y2 Yr) (λi _=>C.ents-(intOf i).toNat)
   case atStart=>exact⟨0,Y2,AG _,rfl,by simpa using ah,AE _ _,CS _ _⟩
   case round =>
    obtain⟨j,Yr,hj,rfl,y,n,u⟩:=hrel;have zr:We.1.size<=wr:=n.size;have wR:=wE.on (n.on (λk b=>⟨jY (G k b).2.1 fE.size,(G k b).1⟩));have yR:=n.heap (fE.heap yd φ) bd;have oR:On Rd w wr:=oE.t (n.on (λk b=>⟨by have:=(g k b).2;omega,ba k b⟩));have ae:=lJ _ _ _ y;have FR:Fr Y W wr:=Fe.grow n Gd;have GR:aI W Y Yr:=Gd.t Fe.size u;by_cases hlt:j<C.ents
    .have ar:j<d:=by rw[<-ad.o];exact hlt
     have⟨X,hX⟩:=nM (d[j]);have⟨E,hE⟩:=nM (C.ents[j]);have ai:E=X.e:=by rw[<-hE,<-hX];simp only[b4.o];simp
     have⟨eb,eo,b1,be,q0,q1,q2,q3⟩:=wR.ent hlt;rw[hE]at q0 q1 q2 q3;have ac:Hid ((d.take (j+1)).filter f=(d.take j).filter f++(if f X=true then [X] else [])):=by show _=_;rw[Dl f d j ar,hX]
     have R:=az j ar;rw[hX]at R;have Q:Hid (f X=true->dB q (some (h,t))=(dn++(d.take j).filter f)++X :: ((d.drop (j+1)).filter f++kT q m)):=R;subst b1;obtain⟨Wa,b7,-,xa,-⟩:=al1 wr (.cells #[.t E.key,.t E.val,.i E.size,.i E.over] 69);have⟨g0,g1,bp,g3⟩:=kI xa;have fa:Fr Bl.none wr Wa:=b7▸(AE _ wr).alloc _;have oA:On Rd w Wa:=oR.t (fa.on (λk b=>⟨by have:=(g k b).2;omega,λh=>h⟩));have⟨s0,s1⟩:=cM (oA.heap xq r4);have M:=Et q E.key Wa;have U:Hid (E=X.e):=ai;have za:wr.1.size<Wa:=(gL xa);clear ai hE hX R;cases hb:q.has E.key
     .rw[hb]at M
      have A:f X=false:=by show q.has X.e.key=false;rw[<-U.o];exact hb
      gi_wp2_with (refine⟨trivial,rfl,?_⟩;gi_at_call 136;apply(EN l2 (BG.2 M)).m;clear M;rintro e Wb ⟨rfl,L⟩);have fb:Fr Bl.none wr Wb:=fa.t (AB L);have b0:=sJ _ _ _ _ y (fb.on (λk b=>⟨ae k b,λh=>h⟩));have HN:Hid (J (dn++(d.take (j+1)).filter f) Yr Wb):=by
       show J _ _ _
       rw[ac.o,A];simpa using b0
      refine⟨λ_ h=>(by cases h),?_⟩;gi_wp2;go_roundw
      case rel=>exact⟨j+1,Yr,ω,ν,HN,n.t (fb.m (λ_ h=>h.elim)),u⟩
      case measure=>simp[intOf];omega
     .rw[hb]at M
      have A:f X=true:=by show q.has X.e.key=true;rw[<-U.o];exact hb
      gi_wp2_with (refine⟨trivial,rfl,?_⟩;gi_at_call 136;apply(EN l2 (BG.2 M)).m;clear M;rintro e Wb ⟨rfl,L⟩;have⟨t0,t1,t2,t3⟩:=kI ((L.block _ za).t xa);have fb:Fr Bl.none wr Wb:=fa.t (AB L);have bm:Wb.c W 0=some (.func (.yield l) #[] #[]):=(by simp[World.cell?,fb.heap yR (λh=>h)]);have⟨fn,bi,ax,bf,hy,hR⟩:=hY _ X _ #[.agg #[.t E.key,.t E.val,.i E.size,.i E.over]] Bl.none Yr Wb (Q A) (sJ _ _ _ _ y (fb.on (λk b=>⟨ae k b,λh=>h⟩))) (by show _=_;rw[U.o]) (λ_ h=>h.elim) (FR.t (fb.m (λ_ h=>h.elim))) GR);refine⟨rfl,(xC l2 (fK hR)).m ?_⟩;clear hy hR;have FB:Fr Y2 We Wb:=n.t (fb.m (λ_ h=>h.elim));rintro e Wf (⟨rfl,Y5,F,a6,a3⟩|⟨rfl,Y5,F,a6,a3⟩)
      .have HN:Hid (J (dn++(d.take (j+1)).filter f) Y5 Wf):=by
        show J _ _ _
        rw[ac.o,A,AU rfl,<-CA];exact F
       clear F;gi_wp2;go_roundw
       case rel=>exact⟨j+1,Y5,ω,ν,HN,FB.grow a6 u,u.t FB.size a3⟩
       case measure=>simp[intOf];omega
      .gi_wp2
       exact⟨Y5,⟨rfl,_,by rw[Q.o A];exact⟨(d.drop (j+1)).filter f++kT q m,σ⟩,σ,F⟩,FB.grow a6 u,u.t FB.size a3⟩
    .obtain rfl:j=C.ents:=ω
     have HJ:Hid (J (kT q (r++[d])) Yr wr):=by
      show J _ _ _
      rw[<-bb.o];have e:d.take C.ents=d:=by rw[ad.o];exact BN
      rw[e]at y;exact y
     clear y;gi_wp2;exact⟨Yr,HJ,n,u⟩
  .intro D Y2 Wg hD V b9 a5 Z a4
   gi_wp2;refine nS rfl a4 ⟨⟨_,rfl⟩,Y2,((F6.t a5).putObj (.inr ω) _),(CS W Y).t F6.size Z,.inl (sJ _ _ _ _ b9 ((CM _ _).putObj V _))⟩
  .rintro D c z Y2 Wg hD V bj br ⟨rfl,O,h1,h2,h3⟩ a5 Z a4
   gi_wp2;refine nS rfl a4 ⟨⟨_,rfl⟩,Y2,((F6.t a5).putObj (.inr ω) _),(CS W Y).t F6.size Z,.inr ⟨O,h1,h2,sJx _ _ _ _ h3 ((CM _ _).putObj V _)⟩⟩
variable {fs:Fs}
def T.ents:Nat->T->List En
 |_,.leaf _ es=>es
 |0,.branch _ _ _=>[]
 |h+1,.branch _ _ kids=>kids.flatMap (T.ents h)
theorem qLb{s x:Sp}(a:le s.lo x.lo=true)(b:Zq x.hi s.hi=true){k}(h:x.has k=true):s.has k=true:=by
 unfold Sp.has at *;rw[AM]at *;exact⟨bH a h.1,qAv b h.2⟩
theorem uE{m:Type}:∀(s:Sp) (ks:List ByteArray) (c:List m),c.length=ks+1->ks.Pairwise (λa b=>lt a b=true)->(∀k∈ks,lt s.lo k=true/\Sp.below s.hi k=true)->∀x∈parts s ks c,le s.lo x.2.lo=true/\Zq x.2.hi s.hi=true
 |s,_,[],hl,_,_=>by simp at hl
 |s,[],k :: c,hl,_,_=>by
  have:=AH (by simpa using hl);subst this;simp only[parts,AL];rintro x rfl;exact⟨bG _,qGk _⟩
 |s,q :: ks,k :: c,hl,hp,hb=>by
  have⟨i,h⟩:=BD.1 hp;have⟨e,f⟩:=hb q σ;simp only[parts,AS];rintro x (rfl|d)
  .exact⟨bG _,Kf (k:=q) f (λg=>by rw[g,Yv]at e;cases e)⟩
  .have⟨j,l⟩:=uE ⟨q,s.hi⟩ ks c ζ h (λx d=>⟨i x d,(hb x (by simp[d])).2⟩) x d;exact⟨bH (iF e) j,l⟩
theorem kD{b}:∀(s:Sp) (ks:List ByteArray) (a:List b),(parts s ks a).map (·.1)=a
 |_,_,[]=>by simp[parts]
 |s,[],k :: a=>by simp[parts,kD ⟨s.hi,s.hi⟩ [] a]
 |s,q :: ks,k :: a=>by simp[parts,kD ⟨q,s.hi⟩ ks a]
theorem dR {h p:Nat}{ks:List ByteArray}{f:List T}{s:Sp}(y:aZ fs (h+1) (.branch p ks f) s):f.length=ks+1/\ks.Pairwise (λa b=>lt a b=true)/\(∀k∈ks,lt s.lo k=true/\Sp.below s.hi k=true)/\(∀k∈ks,k.size<=24)/\∀x∈parts s ks f,aZ fs h x.1 x.2:=by
 have⟨g,r,u,v,_,w,⟨o,j,c⟩,q⟩:=y;have⟨i,n⟩:=Zr r u;rw[v]at i n;refine⟨w,i,λk e=>?_,λk e=>(n k e).2,q⟩;obtain⟨d,l,rfl⟩:=AW e;have m:=BC.1 i;constructor
 .rcases KB d with rfl|t
  .exact j
  .exact fG j (m 0 d o l t)
 .unfold Sp.has at c;rw[AM]at c;by_cases hl:d=ks-1
  .grind
  .exact below_le (iF (m d (ks-1) l ω ω)) c.2
theorem iA:∀{h:Nat}{t:T}{s:Sp},aZ fs h t s->∀e∈T.ents h t,s.has e.e.key=true
 |0,.leaf p es,s,ht,e,a=>by have⟨g,_,_,_,_,d,_⟩:=ht;exact d e a
 |0,.branch _ _ _,s,ht,e,a=>by simp[T.ents]at a
 |h+1,.leaf _ _,s,ht,e,a=>by simp[aZ]at ht
 |h+1,.branch p ks kids,s,ht,e,a=>by
  have⟨k,l,i,_,f⟩:=dR ht;simp only[T.ents,AV]at a;have⟨m,j,a⟩:=a;have:m∈(parts s ks kids).map (·.1):=by rw[kD];exact j
  obtain⟨c,b,rfl⟩:=AY.1 this;have⟨n,o⟩:=uE s ks kids k l i c b;exact qLb n o (iA (f c b) e a)
theorem qKk{x q:Sp}{k}(a:x.has k=true)(b:q.has k=true):x.meets q=true:=by
 unfold Sp.has at a b;unfold Sp.meets;rw[AM]at *;exact⟨below_le b.1 a.2,below_le a.1 b.2⟩
theorem Rv (q):∀{h:Nat}{t:T}{s:Sp},aZ fs h t s->kT q (lvs h t s q)=(T.ents h t).filter (λx=>q.has x.e.key)
 |0,.leaf p es,s,ht=>by simp[kT,lvs,T.ents]
 |0,.branch _ _ _,s,ht=>by rfl
 |h+1,.leaf _ _,s,ht=>by simp[aZ]at ht
 |h+1,.branch p ks kids,s,ht=>by
  have⟨b,n,m,_,f⟩:=dR ht;have k:∀(a:List (T×Sp)),(∀x∈a,aZ fs h x.1 x.2)->kT q (a.flatMap (λx=>if x.2.meets q=true then lvs h x.1 x.2 q else []))=((a.map (·.1)).flatMap (T.ents h)).filter (λx=>q.has x.e.key):=by
   intro a b;induction a with
   |nil=>rfl
   |cons x a ih =>
    have c:=b x σ;have e:kT q (if x.2.meets q=true then lvs h x.1 x.2 q else [])=(T.ents h x.1).filter (λx=>q.has x.e.key):=by
     split
     .exact Rv q c
     .rename_i hm;symm;rw[show kT q []=[] from rfl,LB];intro d g i;exact hm (qKk (iA c d g) i)
    rw[BE,AK,AK,HV,<-ih (λl j=>b l (by simp[j])),<-e];unfold kT;rw[BS]
  simp only[lvs,T.ents];rw[k _ f,kD]
attribute [local go_sem] CE
def chE(c:Ch):En:=⟨⟨c.key,c.val,c.val.size,0⟩,[]⟩
def dX(cs:List Ch):List En:=(cs.filter (λc=>!c.gone)).map chE
theorem Xj(cs:List Ch)(j)(h:j<cs.length):dX (cs.take (j+1))=dX (cs.take j)++(if cs[j].gone=true then [] else [chE cs[j]]):=by
 unfold dX;rw[Dl _ cs j h,BL];cases cs[j].gone<;>rfl
theorem Qu(cs j)(h:j<cs.length)(a:cs[j].gone=false):dX cs=dX (cs.take j)++chE cs[j]:: dX (cs.drop (j+1)):=by
 unfold dX;conv=>lhs;rw[<-BU j cs,HV,BZ h,GP];simp[a]
theorem Ob{w:World}{b i cs e v}(h:cW w b cs e)(k:cs[i]?=some v):w.setCell (aD b i) v=w:=by
 have f:(w.setCell (aD b i) v).heap=w.heap:=by
  apply Array.ext
  .simp[World.setCell]
  .intro g c d;by_cases hk:g=b
   .subst hk;have a:=aC h i v;have j:cs.setIfInBounds i v=cs:=by
     have⟨m,n⟩:=jJ.1 k;apply Array.ext
     .simp
     .intro o l p;rw[Array.getElem_setIfInBounds (by simpa using l)];split
      .subst_vars;rfl
      .rfl
    rw[j,<-h]at a;rw[FM c,FM d]at a;exact GY a
   .have:=DI w (aD b i) v g hk;rw[FM c,FM d]at this;exact GY this
 cases w;simp only[World.setCell]at f⊢;rw[f]
theorem Mz(c:Ch)(w):
  cL 97 #[.agg #[.t c.key,.t c.val,.bool c.gone]] w λe w'=>e=.r (.agg #[.t c.key,.t c.val,.i c.val.size,.i 0])/\bW w w':=by
 have⟨b,f⟩:=nM (w.alloc (.cells #[.t c.key,.t c.val,.bool c.gone] 101));have⟨a,g⟩:=nM (b.alloc (.cells #[.e,.e,.i 0,.i 0] 69));have r:b.1.size=w+1:=by rw[<-f];simp
 have o:=f▸aB w _;have q:=g▸aP _ o;have d:cW a (w+1) #[.e,.e,.i 0,.i 0] 69:=by rw[<-r];exact g▸aB b _
 have⟨s,t,u⟩:=eM q;obtain⟨x,y,z,A⟩:=kI d;have B:=aF d;have m:=aC (aC (aC (aC d 0 (.t c.key)) 1 (.t c.val)) 2 (.i c.val.size)) 3 (.i 0);obtain⟨i,j,k,l⟩:=kI (w:=(((a.setCell (aD (w+1) 0) (.t c.key)).setCell (aD (w+1) 1) (.t c.val)).setCell (aD (w+1) 2) (.i c.val.size)).setCell (aD (w+1) 3) (.i 0)) (by simpa using m);have h:Hid (bW w ((((a.setCell (aD (w+1) 0) (.t c.key)).setCell (aD (w+1) 1) (.t c.val)).setCell (aD (w+1) 2) (.i c.val.size)).setCell (aD (w+1) 3) (.i 0))):=by
  have n:bW w a:=by rw[<-g,<-f];exact(bA _ _).alloc σ _
  exact(((n.setCell (p:=(aD (w+1) 0)) σ _).setCell (p:=(aD (w+1) 1)) σ _).setCell (p:=(aD (w+1) 2)) σ _).setCell (p:=(aD (w+1) 3)) σ _
 go_enter func97,ntmps97;go_wp2;refine BH (v:=.agg #[.t c.key,.t c.val,.i c.val.size,.i 0]) ?_ rfl ⟨rfl,h⟩;simp[results,results97,go_sem,i,j,k,l]
def qPs(J Jx:List En->Bl->World->Prop)(xs pre ts:List En)(Y:Bl)(W:World)(e:Ending)(W':World):Prop :=
 (e=.returned (.bool true)/\∃Y',J (pre++ts) Y' W'/\Fr Y W W'/\aI W Y Y') \/
 (e=.returned (.bool false)/\∃Y' pp,pp <+: xs/\pp≠[]/\Jx pp Y' W'/\Fr Y W W'/\aI W Y Y')
theorem Qt(l xs J Jx)(sJ:gM J)(lJ:tG J)(Y₀ W₀)(hY:∀pre x rest args S Y' W',xs=pre++x :: rest->J pre Y' W'->qF x args S W'->(∀k,S k->¬Y' k/\k<W')->Fr Y₀ W₀ W'->aI W₀ Y₀ Y'->YieldAt Fence.wide 0 prog l args W' (Qg J Jx (pre++[x]) Y' W'))(ca cc cs S pre post Y W)(hx:xs=pre++(dX cs++post))(hR:aH W S ca (cs.flatMap Ch.cells))(hS:∀b,S b->¬Y b/\b<W)(hn:cs.length<=1000000)(hc:cs.length<=cc)(h0:J pre Y W)(hF:Fr Y₀ W₀ W)(hG:aI W₀ Y₀ Y):
  CallsIn Fence.wide 0 prog 196 #[.s ca cs cc,.func (.yield l) #[] #[]] W (qPs J Jx xs pre (dX cs) Y W):=by
 refine KX func196 rfl trivial ?_ rfl;simp only[ntmps196,jA,jB,jN,Nat.reduceAdd,Nat.reduceSub,jR,jO,jP,jT,jE,jF];have HX:Hid (xs=pre++(dX cs++post)):=hx;clear hx;gi_wp2;gi_loopw [9] (λi wr=>∃(j:Nat) (n:Bl),j<=cs/\i=.i j/\J (pre++dX (cs.take j)) n wr/\Fr Y W wr/\aI W Y n) (λi _=>cs-(intOf i).toNat)
 case atStart=>exact⟨0,Y,AG _,rfl,by simpa[dX] using h0,AE _ _,CS _ _⟩
 case round =>
  obtain⟨j,n,hj,rfl,m,f,d⟩:=hrel;have z:=lJ _ _ _ m;by_cases hlt:j<cs
  .have⟨rb,ro,G,a0,k0,k1,L⟩:=(hR.on (f.on (λk y=>⟨(hS k y).2,(hS k y).1⟩))).ch hlt
   subst G;have⟨c,g⟩:=nM (cs[j]);rw[g]at k0 k1 L;have X:Hid (dX (cs.take (j+1))=dX (cs.take j)++(if c.gone=true then [] else [chE c])):=by show _=_;rw[Xj cs j hlt,g]
   have E:Hid (c.gone=false->dX cs=dX (cs.take j)++chE c :: dX (cs.drop (j+1))):=by
    intro o;have:=Qu cs j hlt (by rw[g];exact o);rw[g]at this;exact this
   obtain⟨Wa,p,-,A,-⟩:=al1 wr (.cells #[.t c.key,.t c.val,.bool c.gone] 101);have⟨g0,g1,T⟩:=eM A;have F:Fr Bl.none wr Wa:=p▸(AE _ wr).alloc _;have a1:=aF A;have U:=Mz c Wa;clear g hR;cases o:c.gone
   .have K:xs=(pre++dX (cs.take j))++chE c :: (dX (cs.drop (j+1))++post):=by rw[HX.o,E.o o];simp
    have Q:Hid (xs=(pre++dX (cs.take j))++chE c :: (dX (cs.drop (j+1))++post)):=K;rw[o]at T L U p A;have H:=Ob (i:=2) A (v:=.bool false) rfl;gi_wp2_with (refine⟨trivial,rfl,?_⟩;gi_at_call 97;apply(BG.2 U).m;rintro e Wb ⟨rfl,O⟩;have M:=F.t (AB O);have⟨fn,V,D,R,hy,N⟩:=hY _ (chE c) _ #[.agg #[.t c.key,.t c.val,.i c.val.size,.i 0]] Bl.none n Wb Q (sJ _ _ _ _ m (M.on (λk y=>⟨z k y,λh=>h⟩))) rfl (λ_ h=>h.elim) ((hF.grow f hG).t (M.m (λ_ h=>h.elim))) (hG.t hF.size d));refine⟨rfl,(fK N).m ?_⟩;have B:=f.t (M.m (λ_ h=>h.elim));rintro e Wf (⟨rfl,C,u,q,r⟩|⟨rfl,C,u,q,r⟩)
    .have I:Hid (J (pre++dX (cs.take (j+1))) C Wf):=by
      show J _ _ _;rw[X.o,o,AQ σ,<-CA];exact u
     gi_wp2;go_roundw
     case rel=>exact⟨j+1,C,ω,ν,I,B.grow q d,d.t B.size r⟩
     case measure=>simp[intOf];omega
    .gi_wp2;go_ret;exact .inr ⟨rfl,C,_,by rw[Q.o];exact⟨dX (cs.drop (j+1))++post,σ⟩,σ,u,B.grow q d,d.t B.size r⟩
   .have I:Hid (J (pre++dX (cs.take (j+1))) n Wa):=by
     show J _ _ _
     rw[X.o,o];simpa using sJ _ _ _ _ m (F.on (λk y=>⟨z k y,λh=>h⟩))
    rw[o]at T L p;gi_wp2;refine⟨trivial,?_⟩;gi_wp2;refine⟨λ_ h=>(by cases h),?_⟩;gi_wp2;go_roundw
    case rel=>exact⟨j+1,n,ω,ν,I,f.t (F.m (λ_ h=>h.elim)),d⟩
    case measure=>simp[intOf];omega
  .obtain rfl:j=cs:=ω
   have Z:Hid (J (pre++dX cs) n wr):=by rw[BN]at m;exact m
   gi_wp2;go_ret;exact .inl ⟨rfl,n,Z,f,d⟩
