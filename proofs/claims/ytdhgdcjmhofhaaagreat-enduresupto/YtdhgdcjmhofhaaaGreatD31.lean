import Derived.Test.YtdhgdcjmhofhaaaGreatD30
set_option linter.all false
set_option maxRecDepth 100000
set_option maxHeartbeats 8000000
namespace Go.Proofs.YtdhgdcjmhofhaaaGreat.Tree
open Go.RowKit Pages
variable {C:Nat->Option (Nat×T)->Prop} {b i k n v:Nat} {c d e f g j l m v3 x:Value} {o:Option (Nat×T)} {w:World}
def aH.wr {S a}{l:List (Nat×ByteArray)}{j}(h:aH w S a (l.flatMap dQ))(k:j<l.length):∃b c,a=some (aD b c)/\S b/\w.c b (c+j * 2)=some (.i (l[j]).1)/\w.c b (c+j * 2+1)=some (.t (l[j]).2):=by
 obtain⟨d,f⟩:=tU k;rcases h with h|⟨b,c,g,i,e⟩
 .rw[h]at d;simp at d
 .exact⟨b,c,g,i,e _ _ d,e _ _ f⟩
def lL(l:List (Nat×Pg)):List (Nat×ByteArray):=l.map λy=>(y.1,y.2.encS)
def cJ(P:Program)(md:Region.Mode)(ops:Array Oper)(Q:Exit->Act->World->Prop)(S:World->Prop):List (Nat×Tmp×Value)->Nat->Array Bool->Act->World->Prop
 |[],n,L,a,w=>wpAnyH P md ops Q S n L a w
 |(i,d,v):: l,n,L,a,w=>∃oi,ops[i]?=some oi/\oi.dst=some d/\(Region.noSelect ops&&Region.free md ops L i&&(Region.ready md ops L).contains i)=true/\(∀c a w,Q (.panic c) (a.put (some d) v) w->Q (.panic c) a w)/\YieldsIf P ops S oi v a/\cJ P md ops Q S l n (L.setIfInBounds i true) (a.put (some d) v) w
def cJ.take{P md ops Q S}:∀(l:List (Nat×Tmp×Value)) {n k:Nat}{L:Array Bool}{a:Act}{w:World},k=n+l.length->S w->cJ P md ops Q S l n L a w->wpAnyH P md ops Q S k L a w
 |[],n,k,L,a,w,hk,hS,h=>by subst hk;exact h
 |(i,d,v):: l,n,k,L,a,w,hk,hS,⟨oi,h1,hd,h2,hQ,h3,h4⟩=>by
  subst hk;simp only[AP]at h2;rw[<-hd]at hQ h4;exact wpAnyH_take h1 h2.1.1 h2.1.2 h2.2 hQ h3 hS (cJ.take l rfl hS h4)
def Eu(v a:Int):(bK v a).small:=by
 refine⟨by simp[bK],by simp[bK],by simp[bK],by simp[bK],?_,?_,AG _⟩
 .simp[bK,eS,aL]
 .simp[bK,mS,aL]
def wH1 {P:Program}{md:Region.Mode}{ops:Array Oper}{Q:Exit->Act->World->Prop}{S:World->Prop}{L:Array Bool}{a:Act}{o:Oper}(d:Region.ready md ops L=[i])(j:ops[i]?=some o)(h:∀K':Act->World->Prop,Go.Shut (∀a w,S w->(S w->wpAnyH P md ops Q S n (L.setIfInBounds i true) a w)->K' a w)->if Region.wanted o (yielded ops a.tmps)=true then Oper.wp P o a w K' Q else K' (a.put o.dst undef) w):wpAnyH P md ops Q S (n+1) L a w :=
 wpAnyH_ready (rs:=[i]) d (by simp) (AllReadyH.cons j h AllReadyH.nil)
def Fs.dy(fs:Fs):Prop:=-1<=fs.wait/\fs.wait<=9223372036854775807∧-1<=fs.life/\fs.life<=9223372036854775807
def Fs.dy_ch{fs:Fs}(h:fs.dy):fs.ch.dy:=by
 obtain⟨a,b,c,d⟩:=h;unfold Fs.dy Fs.ch;grind
def Fs.well_dy{fs:Fs}(h:fs.well):fs.dy:=by
 unfold Fs.dy;rw[h.1,h.2];decide
def Fs.fits_ch{fs:Fs}(h:fs.fits):fs.ch.fits:=by unfold Fs.fits;rw[DY,DQ];exact h
def Fs.fits_put{fs:Fs}(h:fs.fits){p:Nat}(a:p<fs.safe.length)(d:ByteArray):(fs.put p d).fits:=by
 intro x g;simp only[Fs.put,AO,AJ]at g;rcases g with g|rfl
 .exact h x g
 .exact a
def Fs.wrL:Fs->List (Nat×ByteArray)->Bool×Fs
 |fs,[]=>(true,fs)
 |fs,x :: l=>if fs.chOk then (fs.ch.put x.1 x.2).wrL l else (false,fs.ch)
def Fs.wrS(fs:Fs):Fs:=if fs.chOk then fs.ch.synced else fs.ch
def Fs.wrP(fs:Fs)(m:Nat)(d:ByteArray):Fs:=if fs.chOk then fs.ch.put m d else fs.ch
def Fs.wrE(fs:Fs)(m:Nat)(d:ByteArray):Bool×Fs :=
 if fs.chOk then (if fs.wrS.chOk then ((fs.wrS.wrP m d).chOk,(fs.wrS.wrP m d).wrS) else (false,fs.wrS.wrP m d)) else (false,fs.wrS)
def Fs.wrA(fs:Fs)(l:List (Nat×ByteArray))(m:Nat)(d:ByteArray):Bool×Fs:=if (fs.wrL l).1 then (fs.wrL l).2.wrE m d else fs.wrL l
def Fs.wrS_dy{fs:Fs}(h:fs.dy):fs.wrS.dy:=by unfold Fs.wrS;split;exact Fs.dy_ch h;exact Fs.dy_ch h
def Fs.wrP_dy{fs:Fs}(h:fs.dy)(m:Nat)(d:ByteArray):(fs.wrP m d).dy:=by unfold Fs.wrP;split;exact Fs.dy_ch h;exact Fs.dy_ch h
def Fs.wrS_fits{fs:Fs}(h:fs.fits):fs.wrS.fits:=by
 unfold Fs.wrS;split
 .intro x g;simp[Fs.synced]at g
 .exact Fs.fits_ch h
def Fs.wrS_len(fs:Fs):fs.wrS.safe.length=fs.safe.length:=by
 unfold Fs.wrS;split
 .show(laid _ _).length=_;rw[dK,DQ]
 .rw[DQ]
def Fs.wrS_late(fs:Fs):fs.wrS.late.length<=fs.late.length:=by
 unfold Fs.wrS;split
 .simp[Fs.synced]
 .rw[DY];exact jU _
def Fs.wrP_fits{fs:Fs}(h:fs.fits){m:Nat}(a:m<fs.safe.length)(d:ByteArray):(fs.wrP m d).fits:=by
 unfold Fs.wrP;split
 .exact Fs.fits_put (Fs.fits_ch h) (by rw[DQ];exact a) d
 .exact Fs.fits_ch h
abbrev mC(m:MV):Array Value:=#[.i 1,.i m.ver,.i m.root,.i 0,.s m.ka 0 m.kc,.s m.ia 0 m.ic,.s m.ea 0 m.ec,.e]
def WrF(D:Db)(B:Value)(X:World)(f:Fs)(x:World):Prop:=∃u,aF x D.β D.sv u f/\Fr (fpF D.β D.sv B) X x/\aJ X (fpF D.β D.sv B) (fpF D.β D.sv u)/\∀(k:Nat) (c:Array Value) (t:TypeId),cW X k c t->t≠63->t≠9->t≠104->cW x k c t
def qLb(D:Db)(bf:Int)(l:List (Nat×Pg))(m:MV)(be:Nat)(al:Option Addr)(b1:Nat)(S:Bl)(w:World)(h:aO w bf D)(cz:D.fs.dy)(bw:D.fs.late=[])(ct:aH w S al ((lL l).flatMap dQ))(cu:∀k,S k->k<w.heap.size/\¬fpF D.β D.sv D.lv k)(ek:l.length<=b1)(el:l.length<=4096)(cp:∀y∈l,y.2.encE=0)(cy:∀y∈l,y.1<D.fs.safe.length)(cx:(bK m.ver m.root).encE=0)(e0:(bK m.ver m.root).small)(T:2<=D.fs.safe.length)(R:Bool×Fs)(bq:D.fs.wrA (lL l) (m.ver % 2) (bK m.ver m.root).encS=R):
  cL 130 #[.p D.d 0,.agg #[.i (be:Int),.s al l.length b1],.agg (mC m)] w λe w'=>e=.r (.bool R.1)/\∃u,aO w' bf {D with lv:=u,fs:=R.2}/\Fr (fpF D.β D.sv D.lv) w w'/\aJ w (fpF D.β D.sv D.lv) (fpF D.β D.sv u):=by
 obtain⟨Q,b7,ca,c5,bg,-⟩:=al2 w (.cells #[.i (be:Int),.s al l.length b1] 193) (.cells (mC m) 80)
 have e3:=(gL bg);obtain⟨ed,ee⟩:=bY c5;obtain⟨e5,e6,e7,e8,e9,ea,eb,ec⟩:=bO bg;have bo:=tN (bK m.ver m.root) m.ka m.ia m.ea m.kc m.ic m.ec (λ_=>False) Q ⟨.inl rfl,.inl rfl,.inl rfl⟩ (λ_ U=>U.elim) e0 cx;simp only[bK,jN,MK]at bo;obtain⟨P,ba⟩:=nM ((bK m.ver m.root).encS);have d9:Hid ((bK m.ver m.root).encS=P):=ba;have cq:cL 117 #[.agg (mC m)] Q λe w'=>e=.returned (.string P)/\bW Q w':=by
  rw[<-ba];exact bo
 clear bo;go_enter Tryz.func130,Tryz.ntmps130;go_wp2_with (go_at_call 117;(with_reducible refine Calls.m cq ?_);rintro e c3 ⟨rfl,ac⟩;have cb:=ca.t (ac.m ca.size);have d2:=(ac.block _ (by omega)).t c5;obtain⟨ef,eg⟩:=bY d2);have d3:=(ac.block _ e3).t bg;have d6:Hid (∀X,Fr (fpF D.β D.sv D.lv) w X->X.heap[D.d]?=some (dbO bf D)/\aH X S al ((lL l).flatMap dQ)):=λX j=>⟨j.heap h.box h.noFile,ct.on (j.on cu)⟩;have db:Hid (aF c3 D.β D.sv D.lv D.fs/\Fr (fpF D.β D.sv D.lv) w c3/\aJ w (fpF D.β D.sv D.lv) (fpF D.β D.sv D.lv)/\c3.heap[w.heap.size+1]?=some (.cells (mC m) 80)):=by
  refine⟨?_,AB cb,CR _ _,d3⟩;exact h.file.on (vV cb h.file.lies)
 have b2:Hid (aO w bf D):=h;have ci:Hid (D.fs.dy/\D.fs.safe.length=D.fs.safe.length/\D.fs.late.length=0/\D.fs.fits/\D.fs.wrL (lL l)=D.fs.wrL ((lL l).drop 0)):=⟨cz,rfl,by rw[bw];rfl,λx hx=>by rw[bw]at hx;simp at hx,rfl⟩;have d7:Hid _:=cp;have ce:Hid _:=cy;rw[ba]at bq;have cg:Hid (D.fs.wrA (lL l) (m.ver % 2) P=R):=bq;clear h ct cu cp cy cz bw ba bq b7 c5 bg ed ee e5 e6 e7 e8 e9 ea eb ec cq d2 d3 ef eg;go_loopw [15] (λa c4=>∃(C:Nat) (a4:Value) (v:Fs),a=.int .i64 C/\C<=l.length/\Hid (v.dy/\v.safe.length=D.fs.safe.length/\v.late.length=C/\v.fits/\D.fs.wrL (lL l)=v.wrL ((lL l).drop C))/\Hid (aF c4 D.β D.sv a4 v/\Fr (fpF D.β D.sv D.lv) w c4/\aJ w (fpF D.β D.sv D.lv) (fpF D.β D.sv a4)/\c4.heap[w.heap.size+1]?=some (.cells (mC m) 80))) (λa _=>l.length-(intOf a).toNat)
 case atStart=>exact⟨0,D.lv,D.fs,rfl,AG _,ci.o,db.o⟩
 case round =>
  obtain⟨C,a4,v,rfl,ej,b3,d8⟩:=hrel;clear ci;obtain⟨b6,H,I,ak⟩:=d8.o;obtain⟨ad,c0⟩:=d6.o wr H;by_cases hlt:C<l.length
  .have dy:(C:Int)<(l.length:Int):=by omega
   obtain⟨y,bc⟩:=nM (l[C]);have c1:y∈l:=bc▸AA hlt;obtain⟨en,eo,e2,em,d0,c2⟩:=c0.wr (j:=C) (by simp[lL];exact hlt);simp only[lL,EJ,bc]at d0 c2;subst e2;obtain⟨Y,d4⟩:=y;simp only at d0 c2;obtain⟨d,b8⟩:=nM (d4.encS);rw[b8]at c2;have du:d.size=256:=b8▸mN d4 (d7.o _ c1);obtain⟨N,a9,aq,ah,ai⟩:=b3.o;obtain⟨b,U⟩:=nM (v.chOk);obtain⟨z,aj⟩:=nM (v.wrP Y d);have bt:(lL l).drop C=(Y,d):: (lL l).drop (C+1):=by
    rw[CA (by simp[lL];exact hlt)];simp[lL,bc,b8]
   have dc:Hid (b=true->z.dy/\z.safe.length=D.fs.safe.length/\z.late.length=C+1/\z.fits/\D.fs.wrL (lL l)=z.wrL ((lL l).drop (C+1))):=λe=>by
    rw[e]at U;have bm:z=v.ch.put Y d:=by rw[<-aj,Fs.wrP,U,AU rfl]
    refine⟨aj▸Fs.wrP_dy N Y d,?_,?_,aj▸Fs.wrP_fits ah (by rw[a9];exact ce.o _ c1) d,?_⟩
    .rw[bm];show v.ch.safe.length=_;rw[DQ,a9]
    .rw[bm];show(v.ch.late++[_]).length=_;rw[DY,jK,aq];rfl
    .rw[ai,bt,Fs.wrL,U,AU rfl,bm]
   have da:Hid (b=false->D.fs.wrA (lL l) (m.ver % 2) P=(false,z)):=λe=>by
    rw[e]at U;have:D.fs.wrL (lL l)=(false,z):=by rw[ai,bt,Fs.wrL,<-aj,Fs.wrP,U];rfl
    rw[Fs.wrA,this];rfl
   have dd:Hid (∀X,bW wr X->cL 116 #[.pointer (some (aD D.β 0)),.int .i64 (Y:Int),.string d] X λe w'=>e=.returned (.bool b)/\WrF D a4 X z w'):=by
    intro X j;have cr:=b6.on (vV j b6.lies);refine(yJ D.β D.sv a4 v Y d X cr N.1 N.2.1 N.2.2.1 N.2.2.2 du (by rw[a9];exact ce.o _ c1) (by omega)).m ?_;rintro e w' ⟨ax,u,ar,T,au⟩;exact⟨U▸ax,u,aj▸ar,T,au,λk cs t a2 c f g=>T.heap a2 (fW cr a2 c f g)⟩
   obtain⟨dg,dh,dm,dn,dp,dq,dr,ds,c8,c9,aw,di,dj,dk,dl⟩:=eQ ad;obtain⟨a0,cv⟩:=nM (wr.alloc (.cells #[.int .i64 (Y:Int),.string d] 226));have a6:bW wr a0:=cv▸(bA _ _);have d5:a0.heap[wr.heap.size]?=some (.cells #[.int .i64 (Y:Int),.string d] 226):=cv▸aC wr _;have cm:=(a6.block _ (gL ad)).t ad;have de:=(a6.block _ (gL ak)).t ak;obtain⟨c6,c7⟩:=bY d5;have i:a0.cell? (aD D.d 2)=some (.pointer (some (aD D.β 0))):=by simp[World.cell?,cm]
   clear dg dh dm dn dp dq dr ds c8 c9 aw di dj dk dl b8 bc c0 N a9 aq ah ai U aj bt b3;cases b
   all_goals go_wp2
   all_goals go_region_held3 (λX=>X.cell? (aD D.d 2)=some (.pointer (some (aD D.β 0)))/\X.cell? (aD wr.heap.size 0)=some (.int .i64 (Y:Int))/\X.cell? (aD wr.heap.size 1)=some (.string d))
    ((first|(with_reducible exact⟨i,c6,c7⟩)|(simp[i,c6,c7])))
    (first
     |(go_at_call 116;(with_reducible refine Calls.m (dd.o _ ?_) ?_);(first|exact a6.drew|exact a6);rintro e a5 ⟨rfl,W,O,a3,a1,E⟩;have G:=E _ _ _ cm (by decide) (by decide) (by decide);have F:=E _ _ _ de (by decide) (by decide) (by decide);have ei:=E _ _ _ d5 (by decide) (by decide) (by decide);obtain⟨c6,c7⟩:=bY ei;have i:a5.cell? (aD D.d 2)=some (.pointer (some (aD D.β 0))):=(by simp[World.cell?,G])))
   all_goals go_wp2
   all_goals
    have L:Fr (fpF D.β D.sv a4) wr a5:=by first|exact(AB a6.drew).t a3|exact(AB a6).t a3
    have M:aJ w (fpF D.β D.sv D.lv) (fpF D.β D.sv W):=by
     have ep:=H.size;have eq:=a6.size;first|exact I.t (b:=a0.drew) (by show _<=a0.heap.size;omega) a1|exact I.t (b:=a0) (by omega) a1
    first
     |exact⟨⟨C+1,W,z,by simp,by omega,dc.o (by simp),O,H.grow L I,M,F⟩,by simp[intOf];omega⟩
     |(go_ret;obtain rfl:=cg.o.symm.t (da.o (by simp));exact⟨rfl,W,b2.o.refile O (H.grow L I),H.grow L I,M⟩)
  .obtain rfl:C=l.length:=by omega
   have dy:¬(l.length:Int)<(l.length:Int):=by omega
   obtain⟨N,a9,aq,ah,ai⟩:=b3.o;obtain⟨a7,br⟩:∃b,v.chOk=b:=⟨_,rfl⟩;obtain⟨J,aa⟩:∃z,v.wrS=z:=⟨_,rfl⟩;obtain⟨ae,ac⟩:∃b,J.chOk=b:=⟨_,rfl⟩;obtain⟨Z,av⟩:∃z,J.wrP (m.ver % 2) P=z:=⟨_,rfl⟩;obtain⟨af,bs⟩:∃b,Z.chOk=b:=⟨_,rfl⟩;obtain⟨bh,bp⟩:∃z,Z.wrS=z:=⟨_,rfl⟩;have bi:Hid (R=if a7 then (if ae then (af,bh) else (false,Z)) else (false,J)):=by
    have e:D.fs.wrL (lL l)=(true,v):=by rw[ai,List.drop_of_length_le (by simp[lL])];rfl
    show R=_
    rw[<-cg.o,Fs.wrA,e];show v.wrE _ _=_
    rw[Fs.wrE,aa,av,bp,br,ac,bs]
   have bx:m.ver % 2<J.safe.length:=by rw[<-aa,Fs.wrS_len,a9];omega
   have ag:J.dy:=aa▸Fs.wrS_dy N;have cl:Z.dy:=av▸Fs.wrP_dy ag _ _;have cn:J.fits:=aa▸Fs.wrS_fits ah;have co:Z.fits:=av▸Fs.wrP_fits cn bx _;have d1:J.late.length<1000000:=by have:=Fs.wrS_late v;rw[aa,aq]at this;omega
   have bl:Hid (∀X B a8 b bn,a8.chOk=b->a8.wrS=bn->aF X D.β D.sv B a8->a8.dy->a8.fits->cL 82 #[.pointer (some (aD D.β 0))] X λe w'=>e=.returned (.bool b)/\WrF D B X bn w'):=by
    rintro X B a8 b bn rfl rfl j bb dw;exact(Dn D.β D.sv B a8 X j bb.1 bb.2.1 bb.2.2.1 bb.2.2.2 dw).m λe w' ⟨ax,u,ar,T,au⟩=>⟨ax,u,ar,T,au,λk cs t a2 c f g=>T.heap a2 (fW j a2 c f g)⟩
   have ck:Hid (∀X B,aF X D.β D.sv B J->cL 116 #[.pointer (some (aD D.β 0)),.int .i64 ((m.ver:Int) % 2),.string P] X λe w'=>e=.returned (.bool ae)/\WrF D B X Z w'):=by
    intro X B j;have dz:(((m.ver % 2:Nat)):Int)=(m.ver:Int) % 2:=by simp
    rw[<-dz];exact(yJ D.β D.sv B J (m.ver % 2) P X j ag.1 ag.2.1 ag.2.2.1 ag.2.2.2 (d9.o▸mN _ cx) bx d1).m λe w' ⟨ax,u,ar,T,au⟩=>⟨ac▸ax,u,av▸ar,T,au,λk cs t a2 c f g=>T.heap a2 (fW j a2 c f g)⟩
   have cf:Hid (∀X,cL 159 #[.agg (mC m)] X λe w'=>e=.returned (.int .i64 ((m.ver:Int) % 2))/\bW X w'):=by
    intro X;have:=Am m X;rw[show(((m.ver % 2:Nat)):Int)=(m.ver:Int) % 2 by simp]at this;exact this
   have bj:=bl.o wr.drew a4 v a7 J br aa (b6.on (vV (AC _ wr).drew b6.lies)) N ah;have cj:Hid (∀X B,aF X D.β D.sv B Z->cL 82 #[.pointer (some (aD D.β 0))] X λe w'=>e=.returned (.bool af)/\WrF D B X bh w'):=λX B j=>bl.o X B Z af bh bs bp j cl co;obtain⟨o,c,f,g,p,q,r,s⟩:=bO ak;have i:wr.cell? (aD D.d 2)=some (.pointer (some (aD D.β 0))):=by simp[World.cell?,ad]
   go_wp2
   refine wp_region_held_drew (S:=(λX=>X.c D.d 2=some (.p D.β 0)/\X.c (w.heap.size+1) 0=some (.i 1)/\X.c (w.heap.size+1) 1=some (.i m.ver)/\X.c (w.heap.size+1) 2=some (.i m.root)/\X.c (w.heap.size+1) 3=some (.i 0)/\X.c (w.heap.size+1) 4=some (.s m.ka 0 m.kc)/\X.c (w.heap.size+1) 5=some (.s m.ia 0 m.ic)/\X.c (w.heap.size+1) 6=some (.s m.ea 0 m.ec)/\X.c (w.heap.size+1) 7=some .e)) (by kernel_rfl) ⟨i,o,c,f,g,p,q,r,s⟩ (λab=>?_);change wpAnyH _ _ _ _ _ 23 #[false,false,false,false,false,false,false,false,false,false,false,false,false,false,false,false,false,false,false,false,false,false,false] _ _
   refine cJ.take [(0,30,.p D.d 0),(1,31,.p D.d 0),(2,32,.p D.d 2),(3,33,.p D.β 0)] (n:=19) (by kernel_rfl) (by assumption) ?_;iterate 4 (refine⟨_,rfl,rfl,by kernel_rfl,λ_ _ _ h=>h,?_,?_⟩;first|exact .inl ⟨by rfl,λX j=>by(try dsimp only at j);go_simp⟩|exact .inr ⟨by rfl,rfl⟩;simp only[pS])
   rw[cJ];refine wH1 (i:=4) (by kernel_rfl) rfl λK A=>?_;go_simp;go_at_call 82;apply Calls.m bj;rintro e a5 ⟨rfl,W,O,a3,a1,E⟩;have G:=E _ _ _ ad (by decide) (by decide) (by decide);have F:=E _ _ _ ak (by decide) (by decide) (by decide);obtain⟨o,c,f,g,p,q,r,s⟩:=bO F;have i:a5.c D.d 2=some (.p D.β 0):=(by simp[World.cell?,G]);refine A.out _ _ ⟨i,o,c,f,g,p,q,r,s⟩ (λab=>?_);clear A K;try simp only[pS]
   have L:=H.grow ((AE _ wr).drew.t a3) I;have M:=I.t (b:=wr.drew) H.size a1;cases a7
   .refine cJ.take [(5,35,.bool false),(6,36,undef),(7,37,undef),(8,38,undef),(9,39,undef),(10,40,undef),(11,41,undef),(12,42,undef),(13,43,undef),(14,44,.bool false),(15,45,.bool false),(16,46,undef),(17,47,undef),(18,48,undef),(19,49,undef),(20,50,undef),(21,51,.bool false)] (n:=1) (by kernel_rfl) (by assumption) ?_;iterate 17 (refine⟨_,rfl,rfl,by kernel_rfl,λ_ _ _ h=>h,?_,?_⟩;first|exact .inl ⟨by rfl,λX j=>by(try dsimp only at j);go_simp⟩|exact .inr ⟨by rfl,rfl⟩;simp only[pS])
    rw[cJ];refine wH1 (i:=22) (by kernel_rfl) rfl λK A=>?_;go_simp;refine A.out _ _ ⟨i,o,c,f,g,p,q,r,s⟩ (λab=>?_);clear A K;try simp only[pS]
    refine wpAnyH_done (by kernel_rfl) ?_ _;go_wp2;obtain rfl:=bi.o;go_ret;exact⟨rfl,W,b2.o.refile O L,L,M⟩
   refine cJ.take [(5,35,.bool true),(6,36,.p D.d 0),(7,37,.p D.d 0),(8,38,.p D.d 2),(9,39,.p D.β 0),(10,40,.agg (mC m)),(12,42,.t P)] (n:=11) (by kernel_rfl) (by assumption) ?_;iterate 7 (refine⟨_,rfl,rfl,by kernel_rfl,λ_ _ _ h=>h,?_,?_⟩;first|exact .inl ⟨by rfl,λX j=>by(try dsimp only at j);go_simp⟩|exact .inr ⟨by rfl,rfl⟩;simp only[pS])
   rw[cJ];refine wH1 (i:=11) (by kernel_rfl) rfl λK A=>?_;go_simp;go_at_call 159;apply Calls.m (cf.o _);rintro e az ⟨rfl,V⟩;have ap:=(V.block _ (gL G)).t G;have ao:=(V.block _ (gL F)).t F;obtain⟨o,c,f,g,p,q,r,s⟩:=bO ao;have i:az.c D.d 2=some (.p D.β 0):=(by simp[World.cell?,ap]);have bu:=O.on (vV V O.lies);have bk:=ck.o az W bu;refine A.out _ _ ⟨i,o,c,f,g,p,q,r,s⟩ (λab=>?_);try simp only[pS]
   refine wH1 (i:=13) (by kernel_rfl) rfl λK A=>?_;go_simp;go_at_call 116;apply Calls.m bk;rintro e b0 ⟨rfl,bd,b9,bz,bv,ay⟩;have b5:=ay _ _ _ ap (by decide) (by decide) (by decide);have b4:=ay _ _ _ ao (by decide) (by decide) (by decide);obtain⟨o,c,f,g,p,q,r,s⟩:=bO b4;have i:b0.c D.d 2=some (.p D.β 0):=(by simp[World.cell?,b5]);have ch:=cj.o b0 bd b9;refine A.out _ _ ⟨i,o,c,f,g,p,q,r,s⟩ (λab=>?_);clear A K;try simp only[pS]
   have am:=L.t (AB V);have an:=am.grow bz M;have cd:=M.t am.size bv;cases ae
   .refine cJ.take [(14,44,.bool false),(15,45,.bool false),(16,46,undef),(17,47,undef),(18,48,undef),(19,49,undef),(20,50,undef),(21,51,.bool false)] (n:=1) (by kernel_rfl) (by assumption) ?_;iterate 8 (refine⟨_,rfl,rfl,by kernel_rfl,λ_ _ _ h=>h,?_,?_⟩;first|exact .inl ⟨by rfl,λX j=>by(try dsimp only at j);go_simp⟩|exact .inr ⟨by rfl,rfl⟩;simp only[pS])
    rw[cJ];refine wH1 (i:=22) (by kernel_rfl) rfl λK A=>?_;go_simp;refine A.out _ _ ⟨i,o,c,f,g,p,q,r,s⟩ (λab=>?_);clear A K;try simp only[pS]
    refine wpAnyH_done (by kernel_rfl) ?_ _;go_wp2;obtain rfl:=bi.o;go_ret;exact⟨rfl,bd,b2.o.refile b9 an,an,cd⟩
   refine cJ.take [(14,44,.bool true),(15,45,.bool true),(16,46,.p D.d 0),(17,47,.p D.d 0),(18,48,.p D.d 2),(19,49,.p D.β 0)] (n:=3) (by kernel_rfl) (by assumption) ?_;iterate 6 (refine⟨_,rfl,rfl,by kernel_rfl,λ_ _ _ h=>h,?_,?_⟩;first|exact .inl ⟨by rfl,λX j=>by(try dsimp only at j);go_simp⟩|exact .inr ⟨by rfl,rfl⟩;simp only[pS])
   rw[cJ];refine wH1 (i:=20) (by kernel_rfl) rfl λK A=>?_;go_simp;go_at_call 82;apply Calls.m ch;rintro e eh ⟨rfl,e4,dv,e1,dx,cw⟩;have dt:=cw _ _ _ b5 (by decide) (by decide) (by decide);have df:=cw _ _ _ b4 (by decide) (by decide) (by decide);obtain⟨o,c,f,g,p,q,r,s⟩:=bO df;have i:eh.c D.d 2=some (.p D.β 0):=(by simp[World.cell?,dt]);refine A.out _ _ ⟨i,o,c,f,g,p,q,r,s⟩ (λab=>?_);clear A K;try simp only[pS]
   refine cJ.take [(21,51,.bool af)] (n:=1) (by kernel_rfl) (by assumption) ?_;iterate 1 (refine⟨_,rfl,rfl,by kernel_rfl,λ_ _ _ h=>h,?_,?_⟩;first|exact .inl ⟨by rfl,λX j=>by(try dsimp only at j);go_simp⟩|exact .inr ⟨by rfl,rfl⟩;simp only[pS])
   rw[cJ];refine wH1 (i:=22) (by kernel_rfl) rfl λK A=>?_;go_simp;refine A.out _ _ ⟨i,o,c,f,g,p,q,r,s⟩ (λab=>?_);clear A K;try simp only[pS]
   have cc:=an.grow e1 cd;cases af
   all_goals refine wpAnyH_done (by kernel_rfl) ?_ _;go_wp2;obtain rfl:=bi.o;go_ret;exact⟨rfl,e4,b2.o.refile dv cc,cc,cd.t an.size dx⟩
def Fs.ch_failed(fs:Fs):fs.ch.failed=if fs.chOk then fs.failed else wrap64 (fs.failed+1):=by
 unfold Fs.ch;split<;>rfl
def Fs.wrS_failed(fs:Fs):fs.wrS.failed=if fs.chOk then fs.failed else wrap64 (fs.failed+1):=by
 rw[<-Fs.ch_failed];unfold Fs.wrS;split<;>rfl
def Fs.wrP_failed(fs:Fs)(m:Nat)(d:ByteArray):(fs.wrP m d).failed=if fs.chOk then fs.failed else wrap64 (fs.failed+1):=by
 rw[<-Fs.ch_failed];unfold Fs.wrP;split<;>rfl
def Ng:∀(L:List (Nat×ByteArray)) {F:Fs},F.well->(F.wrL L).1=true/\(F.wrL L).2.well
 |[],_,h=>⟨rfl,h⟩
 |x :: L,F,h=>by
  unfold Fs.wrL;rw[(ED h).1,(ED h).2,AU rfl];exact Ng L (F:=F.put x.1 x.2) h
def Xt:∀(L:List (Nat×ByteArray)) {F a:Fs}{b:Bool},F.dy->F.wrL L=(b,a)->a.dy/\a.safe=F.safe/\a.failed=(if b then F.failed else wrap64 (F.failed+1))/\∃k,a.late=F.late++L.take k/\(b=true->L.length<=k)
 |[],F,a,b,hd,h=>by
  obtain⟨rfl,rfl⟩:=FZ h;exact⟨hd,rfl,rfl,0,by simp,λ_=>jU _⟩
 |x :: L,F,a,b,hd,h=>by
  have c:=Fs.ch_failed F;unfold Fs.wrL at h;split at h
  .next hk =>
   have⟨d,e,f,k,g,i⟩:=Xt L (F:=F.ch.put x.1 x.2) (Fs.dy_ch hd) h;rw[AU hk]at c;refine⟨d,e.t (DQ F),by rw[f];show(if _ then F.ch.failed else wrap64 (F.ch.failed+1))=_;rw[c],k+1,?_,λj=>by have:=i j;rw[jB];omega⟩;rw[g];show(F.ch.late++[x])++L.take k=_;rw[DY];simp
  .next hk =>
   obtain⟨rfl,rfl⟩:=FZ h;exact⟨Fs.dy_ch hd,DQ F,by rw[c,AR hk];rfl,0,by rw[DY];simp,λh=>by simp at h⟩
structure WrR (fs:Fs) (l:List (Nat×Pg)) (m:Nat) (mt:Pg) (b:Bool) (fs':Fs):Prop where
 dy:fs'.dy
 failed:fs'.failed=if b then fs.failed else wrap64 (fs.failed+1)
 ok:b=true->fs'.safe=(fs.made l m mt).safe/\fs'.late=[]
 cut:b=false->Cut fs l m mt fs'
 well:fs.well->b=true
def qIp{fs v:Fs}{l:List (Nat×Pg)}{m:Nat}{mt:Pg}{b:Bool}(J:fs.late=[])(O:fs.dy)(h:fs.wrA (lL l) m mt.encS=(b,v)):WrR fs l m mt b v:=by
 have I:∀n,∀x∈(lL l).take n,∃q∈l,x=(q.1,q.2.encS):=λn x T=>by
  obtain⟨q,P,rfl⟩:=AW.1 (DC T);exact⟨q,P,rfl⟩
 have k:fs.well->b=true:=λw=>by
  have⟨Q,o⟩:=Ng (lL l) w;unfold Fs.wrA at h;rw[Q,AU rfl]at h;unfold Fs.wrE at h;have p:(fs.wrL (lL l)).2.wrS.well:=by unfold Fs.wrS;rw[(ED o).1,(ED o).2];exact o
  have S:((fs.wrL (lL l)).2.wrS.wrP m mt.encS).well:=by unfold Fs.wrP;rw[(ED p).1,(ED p).2];exact p
  rw[(ED o).1,(ED p).1,(ED S).1]at h;exact(FZ h).1.symm
 unfold Fs.wrA at h;have⟨⟨c,a⟩,H⟩:∃R,fs.wrL (lL l)=R:=⟨_,rfl⟩;rw[H]at h;have⟨G,z,g,n,i,M⟩:=Xt _ O H;rw[J,jE]at i;cases c
 .obtain⟨rfl,rfl⟩:=FZ h
  exact⟨G,g,λh=>by simp at h,λ_=>.inl ⟨z,by rw[i];exact I n⟩,k⟩
 .rw[CQ (M rfl)]at i
  replace h:a.wrE m mt.encS=(b,v):=h;replace g:a.failed=fs.failed:=g;unfold Fs.wrE at h;have j:=Fs.wrS_failed a;have f:=Fs.wrP_failed a.wrS m mt.encS;have u:=Fs.wrS_failed (a.wrS.wrP m mt.encS);have s:=Fs.wrS_dy G;have t:=Fs.wrP_dy s m mt.encS;cases b1:a.chOk
  .rw[b1]at h j
   obtain⟨rfl,rfl⟩:=FZ h;refine⟨s,by rw[j,g],λh=>by simp at h,λ_=>.inl ?_,k⟩;rw[Fs.wrS,b1];refine⟨(DQ a).t z,?_⟩;show ∀x∈a.ch.late,_;rw[DY,i];intro x T;exact I l.length x (by rw[CQ (by simp[lL])];exact T)
  .rw[b1]at h j
   have E:a.wrS=a.ch.synced:=by rw[Fs.wrS,b1,AU rfl]
   have B:a.wrS.safe=(fs.puts l).synced.safe:=by
    rw[E];show laid a.ch.safe a.ch.late=laid fs.safe (fs.late++_);rw[DQ,DY,z,i,J];rfl
   have C:a.wrS.late=[]:=by rw[E];rfl
   have y:a.wrS.failed=fs.failed:=by rw[j,<-g];rfl
   have⟨d,N⟩:=nM (a.wrS);rw[N]at h B C s t f u y;cases b2:d.chOk
   .rw[b2]at h f
    obtain⟨rfl,rfl⟩:=FZ h;refine⟨t,by rw[f,y],λh=>by simp at h,λ_=>.inr ?_,k⟩;rw[Fs.wrP,b2];exact⟨(DQ d).t B,.inl ((DY d).t C)⟩
   .rw[b2]at h f
    have F:d.wrP m mt.encS=d.ch.put m mt.encS:=by rw[Fs.wrP,b2,AU rfl]
    have⟨e,A⟩:=nM (d.wrP m mt.encS);have K:e.safe=(fs.puts l).synced.safe:=by rw[<-A,F];exact(DQ d).t B
    have L:e.late=[(m,mt.encS)]:=by rw[<-A,F];show d.ch.late++_=_;rw[DY,C];rfl
    have D:=Fs.wrS_dy t;rw[A]at h f u D;obtain⟨rfl,rfl⟩:=FZ h;refine⟨D,by rw[u,f,y];rfl,λr=>?_,λr=>.inr ?_,k⟩
    .rw[Fs.wrS,r,AU rfl]
     refine⟨?_,rfl⟩;show laid e.ch.safe e.ch.late=laid _ _;rw[DQ,DY,K,L];rfl
    .rw[Fs.wrS,r]
     exact⟨(DQ e).t K,.inr ((DY e).t L)⟩
def oU{X:World}{a:Int}{D:Db}(h:X.heap[D.d]?=some (dbO a D)):X.c D.d 2=some (.p D.β 0)/\X.c D.d 3=some (.i 1)/\X.c D.d 4=some (.i D.ver)/\X.c D.d 5=some (.i D.root)/\X.c D.d 6=some (.i 0)/\X.c D.d 7=some (.s D.ka 0 D.kc)/\X.c D.d 8=some (.s D.ia 0 D.ic)/\X.c D.d 9=some (.s D.ea 0 D.ec)/\X.c D.d 10=some .e:=by simp[World.cell?,h]
def Fs.fgZ(fs:Fs)(p:Nat)(d:ByteArray):Int:=if fs.chOk&&(fs.wrP p d).chOk&&!((fs.wrP p d).wrS.life==0) then 0 else 9
def Fs.fg(fs:Fs)(p:Nat)(d:ByteArray):Fs:=if fs.chOk then (fs.wrP p d).wrS else fs.wrP p d
variable {fs:Fs}
def Wk(D:Db)(j:Int)(p:Nat)(w:World)(h:aO w j D)(u:D.fs.dy)(a1:D.fs.late=[])(af:p<D.fs.safe.length)(U:(bK D.ver D.root).encE=0):
  cL 86 #[.p D.d 0,.i (p:Nat)] w λe w'=>e=.r (.i (D.fs.fgZ p (bK D.ver D.root).encS))/\∃f ab,(D.fs.fgZ p (bK D.ver D.root).encS=0->ab=D.root)/\aO w' j {D with lv:=f,fs:=D.fs.fg p (bK D.ver D.root).encS,aroot:=ab}/\Fr (λk=>k=D.d\/fpF D.β D.sv D.lv k) w w'/\aJ w (fpF D.β D.sv D.lv) (fpF D.β D.sv f):=by
 have⟨c,M⟩:=nM ((bK D.ver D.root).encS);have ag:c.size=256:=M▸mN _ U;have ai:Hid (∀X,cL 117 #[.agg #[.i 1,.i D.ver,.i D.root,.i 0,.s D.ka 0 D.kc,.s D.ia 0 D.ic,.s D.ea 0 D.ec,.e]] X λe w'=>e=.r (.t c)/\bW X w'):=λX=>by
  have:=tN (bK D.ver D.root) D.ka D.ia D.ea D.kc D.ic D.ec (λ_=>False) X ⟨.inl rfl,.inl rfl,.inl rfl⟩ (λ_ J=>J.elim) (Eu _ _) U;simp only[bK,jN,MK]at this;rw[<-M];exact this
 rw[M];have a8:Hid (∀X,bW w X->cL 116 #[.p D.β 0,.i (p:Int),.t c] X λe w'=>e=.r (.bool D.fs.chOk)/\∃f,aF w' D.β D.sv f (D.fs.wrP p c)/\Fr (fpF D.β D.sv D.lv) X w'/\aJ X (fpF D.β D.sv D.lv) (fpF D.β D.sv f)/\w'.heap[D.d]?=some (dbO j D)):=λX a =>
  have T:=h.on (vV a h.lies)
  (yJ D.β D.sv D.lv D.fs p c X T.file u.1 u.2.1 u.2.2.1 u.2.2.2 ag af (by rw[a1];decide)).m λe w' ⟨a0,f,C,l,R⟩=>⟨a0,f,C,l,R,l.heap T.box T.noFile⟩
 have B:=Fs.wrP_dy u p c;have a7:Hid (∀X d,aF X D.β D.sv d (D.fs.wrP p c)->X.heap[D.d]?=some (dbO j D)->cL 82 #[.p D.β 0] X λe w'=>e=.r (.bool (D.fs.wrP p c).chOk)/\∃f,aF w' D.β D.sv f (D.fs.wrP p c).wrS/\Fr (fpF D.β D.sv d) X w'/\aJ X (fpF D.β D.sv d) (fpF D.β D.sv f)/\w'.heap[D.d]?=some (dbO j D)):=λX d a J =>
  (Dn D.β D.sv d _ X a B.1 B.2.1 B.2.2.1 B.2.2.2 (Fs.wrP_fits (λx hx=>by rw[a1]at hx;simp at hx) af c)).m λe w' ⟨a0,f,C,l,R⟩=>⟨a0,f,C,l,R,l.heap J (fW a J (by decide) (by decide) (by decide))⟩
 have a5:Hid (∀X d,aF X D.β D.sv d (D.fs.wrP p c).wrS->cL 49 #[.p D.β 0] X λe w'=>e=.r (.bool ((D.fs.wrP p c).wrS.life==0))/\w'=X):=λX d a=>fU D.β D.sv d _ X a;have H:=h.box;have b5:Hid (aO w j D):=h;have y:Hid (D.fs.fgZ p c=if D.fs.chOk&&(D.fs.wrP p c).chOk&&!((D.fs.wrP p c).wrS.life==0) then 0 else 9):=rfl;have A:Hid (D.fs.fg p c=if D.fs.chOk then (D.fs.wrP p c).wrS else D.fs.wrP p c):=rfl;have⟨ba,Z⟩:∃z,D.fs.fgZ p c=z:=⟨_,rfl⟩;have⟨o,V⟩:=nM (D.fs.fg p c);have⟨al,t⟩:∃b,D.fs.chOk=b:=⟨_,rfl⟩;have⟨a3,s⟩:∃o,D.fs.wrP p c=o:=⟨_,rfl⟩;have⟨am,W⟩:∃b,a3.chOk=b:=⟨_,rfl⟩;have⟨N,m⟩:∃o,a3.wrS=o:=⟨_,rfl⟩;have⟨ac,Y⟩:∃b,(N.life==0)=b:=⟨_,rfl⟩;rw[Z,s,m,t,W,Y]at y;rw[V,s,m,t]at A;rw[Z,V];rw[t,s]at a8;rw[s,m,W]at a7;rw[s,m,Y]at a5;have⟨b4,aw,ax,ay,az,b0,b1,b2,b3⟩:=oU H;have ak:bW w w.drew:=(AC _ _).drew;have G:Hid (∀X d O,aF X D.β D.sv d O->Fr (fpF D.β D.sv D.lv) w X->aO X j {D with lv:=d,fs:=O}):=λX d O C l=>h.refile C l;clear h u a1 U M ag Z V t s W m Y B;go_enter Tryz.func86,Tryz.ntmps86;go_wp2;refine wp_region_held_drew (S:=(λX=>X.c D.d 2=some (.p D.β 0)/\X.c D.d 3=some (.i 1)/\X.c D.d 4=some (.i D.ver)/\X.c D.d 5=some (.i D.root)/\X.c D.d 6=some (.i 0)/\X.c D.d 7=some (.s D.ka 0 D.kc)/\X.c D.d 8=some (.s D.ia 0 D.ic)/\X.c D.d 9=some (.s D.ea 0 D.ec)/\X.c D.d 10=some .e)) (by kernel_rfl) (oU H) (λI=>?_);change wpAnyH _ _ _ _ _ 27 (.replicate 27 false) _ _;apply cJ.take [(0,5,.p D.d 0),(1,6,.p D.d 0),(2,7,.p D.d 2),(3,8,.p D.β 0),(4,9,.i (p:Int)),(5,10,.p D.d 0),(6,11,.p D.d 0),(7,12,.p D.d 3),(8,13,.agg #[.i 1,.i D.ver,.i D.root,.i 0,.s D.ka 0 D.kc,.s D.ia 0 D.ic,.s D.ea 0 D.ec,.e])] (n:=18) (by kernel_rfl) (by assumption);iterate 9 (refine⟨_,rfl,rfl,by kernel_rfl,λ_ _ _ h=>h,.inl ⟨by rfl,λX a=>by(try dsimp only at a);go_simp⟩,?_⟩;simp only[pS])
 rw[cJ];refine wH1 (i:=9) (by kernel_rfl) rfl λK g=>?_;go_simp;go_at_call 117;apply Calls.m (ai _);rintro e a9 ⟨rfl,t⟩;have E:bW w a9:=ak.t t;refine g _ _ (oU ((E.block _ (gL H)).t H)) (λI=>?_);clear g K;try simp only[pS]
 refine wH1 (i:=10) (by kernel_rfl) rfl λK g=>?_;go_simp;go_at_call 116;apply Calls.m (a8.o a9 E);rintro e aa ⟨rfl,a2,ae,m,aq,ad⟩;refine g _ _ (oU ad) (λI=>?_);clear g K;try simp only[pS]
 have F:Fr (fpF D.β D.sv D.lv) w aa:=(AB E).t m;have P:aJ w (fpF D.β D.sv D.lv) (fpF D.β D.sv a2):=(CR w _).t E.size aq;cases al
 .apply cJ.take [(11,16,.bool true),(12,17,.bool true),(13,18,undef),(14,19,undef),(15,20,undef),(16,21,undef),(17,22,undef),(18,23,undef),(19,24,.bool true),(20,25,.bool true),(21,26,undef),(22,27,undef),(23,28,undef),(24,29,undef),(25,30,undef),(26,31,.bool true)] (n:=0) (by kernel_rfl) (by assumption)
  iterate 16 (refine⟨_,rfl,rfl,by kernel_rfl,λ_ _ _ h=>h,?_,?_⟩;first|exact .inl ⟨by rfl,λX a=>by(try dsimp only at a);go_simp⟩|exact .inr ⟨by rfl,rfl⟩;simp only[pS])
  rw[cJ];refine wpAnyH_done (by kernel_rfl) ?_ _;go_wp2;go_ret;obtain rfl:=y.o;obtain rfl:=A.o;exact⟨rfl,a2,D.aroot,nofun,G _ _ _ ae F,F.m (λk i=>.inl (.inr i)),P⟩
 .apply cJ.take [(11,16,.bool false),(12,17,.bool false),(13,18,.p D.d 0),(14,19,.p D.d 0),(15,20,.p D.d 2),(16,21,.p D.β 0)] (n:=10) (by kernel_rfl) (by assumption)
  iterate 6 (refine⟨_,rfl,rfl,by kernel_rfl,λ_ _ _ h=>h,.inl ⟨by rfl,λX a=>by(try dsimp only at a);go_simp⟩,?_⟩;simp only[pS])
  rw[cJ];refine wH1 (i:=17) (by kernel_rfl) rfl λK g=>?_;go_simp;go_at_call 82;apply Calls.m (a7.o aa a2 ae ad);rintro e X3 ⟨rfl,v,L,ap,ar,r⟩;refine g _ _ (oU r) (λI=>?_);clear g K;try simp only[pS]
  have q:=F.grow ap P;have Q:=P.t F.size ar;cases am
  .apply cJ.take [(18,23,.bool true),(19,24,.bool true),(20,25,.bool true),(21,26,undef),(22,27,undef),(23,28,undef),(24,29,undef),(25,30,undef),(26,31,.bool true)] (n:=0) (by kernel_rfl) (by assumption)
   iterate 9 (refine⟨_,rfl,rfl,by kernel_rfl,λ_ _ _ h=>h,?_,?_⟩;first|exact .inl ⟨by rfl,λX a=>by(try dsimp only at a);go_simp⟩|exact .inr ⟨by rfl,rfl⟩;simp only[pS])
   rw[cJ];refine wpAnyH_done (by kernel_rfl) ?_ _;go_wp2;go_ret;obtain rfl:=y.o;obtain rfl:=A.o;exact⟨rfl,v,D.aroot,nofun,G _ _ _ L q,q.m (λk i=>.inl (.inr i)),Q⟩
  .apply cJ.take [(18,23,.bool false),(19,24,.bool false),(20,25,.bool false),(21,26,.p D.d 0),(22,27,.p D.d 0),(23,28,.p D.d 2),(24,29,.p D.β 0)] (n:=2) (by kernel_rfl) (by assumption)
   iterate 7 (refine⟨_,rfl,rfl,by kernel_rfl,λ_ _ _ h=>h,.inl ⟨by rfl,λX a=>by(try dsimp only at a);go_simp⟩,?_⟩;simp only[pS])
   rw[cJ];refine wH1 (i:=25) (by kernel_rfl) rfl λK g=>?_;go_simp;go_at_call 49;apply Calls.m (a5.o X3 v L);rintro e aj ⟨rfl,b8⟩;subst aj;refine g _ _ (oU r) (λI=>?_);clear g K;try simp only[pS]
   apply cJ.take [(26,31,.bool ac)] (n:=0) (by kernel_rfl) (by assumption);iterate 1 (refine⟨_,rfl,rfl,by kernel_rfl,λ_ _ _ h=>h,.inl ⟨by rfl,λX a=>by(try dsimp only at a);go_simp⟩,?_⟩;simp only[pS])
   rw[cJ];refine wpAnyH_done (by kernel_rfl) ?_ _;cases ac
   .have b7:=aA r
    have a4:=aB r 11 (.i (D.root:Nat));have a6:Fr (Bl.one D.d) X3 (X3.setCell (aD D.d 11) (.i (D.root:Nat))):=(AE (Bl.one D.d) X3).setCell (p:=(aD D.d 11)) (.inl rfl) _;have ah:Hid (aO (X3.setCell (aD D.d 11) (.i (D.root:Nat))) j {D with lv:=v,fs:=N,aroot:=D.root}):=(G _ _ _ L q).rebox (D':={D with lv:=v,fs:=N,aroot:=D.root}) a6 rfl rfl rfl rfl rfl rfl rfl (by simpa using a4);have⟨b4,aw,ax,ay,az,b0,b1,b2,b3⟩:=oU r;have⟨b9,b6⟩:∃x,X3.c D.d 11=some x:=⟨.i D.aroot,by simp[World.cell?,r]⟩;clear a4;go_wp2;go_ret;obtain rfl:=y.o;obtain rfl:=A.o;exact⟨rfl,v,D.root,λ_=>rfl,ah,(q.m (λk i=>.inl (.inr i))).t (a6.m (λk i=>.inl (.inl i))),Q⟩
   .go_wp2
    go_ret;obtain rfl:=y.o;obtain rfl:=A.o;exact⟨rfl,v,D.aroot,nofun,G _ _ _ L q,q.m (λk i=>.inl (.inr i)),Q⟩
abbrev Ta(p:Nat):MG:=⟨p,false,0,0,0,none,none,none,0,0,0⟩
def wB{s}(h:¬(s.size=256/\(dN s.data.toList).encE=0/\(dN s.data.toList).encS=s))(w:World):
  cL 143 #[.t s] w λe w'=>e=.r (.tuple #[.agg #[.i 0,.i 0,.i 0,.i 0,.n,.n,.n,.e],.i 2])/\bW w w' :=
 (wC s w).m λe w' ⟨d,b⟩=>b.elim (λa=>absurd ⟨a.1,a.2.1,a.2.2.1⟩ h) (λc=>⟨c.2,d⟩)
def Uz(β:Nat)(sv lv:Value)(fs:Fs)(L:(fs.life==0)=false)(p:Nat)(w:World)(K:aF w β sv lv fs)(N:p<fs.safe.length)(o:yI (fs.at p)):
  cL 112 #[.p β 0,.i p] w λe w'=>e=.r (.agg (Ta p).cells)/\bW w w':=by
 obtain⟨b,F⟩:=nM (w.alloc meta0);have m:bW w b:=F▸(bA _ _);have W:b.heap[w.heap.size]?=some meta0:=F▸aC w _;have a2:=K.on (vV m K.lies);have i:=mH β sv lv fs p b a2;have Q:fs.readS p=fs.at p:=by unfold Fs.readS;simp[N,L]
 have O:(decide (p<fs.safe.length)&&!(fs.life==0))=true:=by simp[N,L]
 rw[Q,O]at i;clear Q O;obtain⟨a4,hi,S,T,U⟩:=EX Kb;obtain⟨f,M,q,h⟩:=JP (P:=Tryz.prog) b 0 108 5 a4 (.int .u8 0) 1 Tryz.underlying108 hi S T .i64 .i64 256 (by omega) (by rw[U];omega) (by unfold maxLen;omega) (AG _);rw[vS]at q;have I:Buf f 0 (.q b.heap.size 256 256) (List.replicate 256 0):=by
  unfold Buf;rw[DP];exact q
 have J:=Buf.string I;have t:bW b f:=⟨h.os,h.tape,h.output,h.size,λV n=>h.block V n (by simp)⟩;have a9:(Instr.makeSlice 108 (.i 256) (.i 256)).run Tryz.prog b=.ok (.q b.heap.size 256 256) f:=M;obtain⟨l,r⟩:=nM (fH 256);have a8:(convert 108 9 (.q b.heap.size 256 256)).run Tryz.prog f=.ok (.t l) f:=by rw[<-r];exact J
 have k:=(t.block _ (gL W)).t W;obtain⟨u,x,y,z,A,B,C,D,c8,c9⟩:=mW k;have a0:=aA k;have X:bW w f:=m.t (t.m m.size);clear I q h J M hi S T U;have a3:((fs.at p).toList==l.toList)=false:=by rw[<-r];exact xM o.1
 obtain⟨s,R⟩:=nM (fs.at p);rw[R]at i o a3;clear r R;have E:=wB o.2 f;have a5:=(gL k);go_enter Tryz.func112,Tryz.ntmps112;go_wp2_with (first
  |(go_at_call 142;apply Calls.m i;rintro e a6 ⟨rfl,aa⟩;subst a6)
  |(go_at_call 143;apply Calls.m E;rintro e c ⟨rfl,H⟩;clear i E;obtain⟨a,G⟩:=nM (c.alloc (.cells #[.i 0,.i 0,.i 0,.i 0,.n,.n,.n,.e] 80));have d:cW a c.heap.size #[.i 0,.i 0,.i 0,.i 0,.n,.n,.n,.e] 80:=G▸aC c _;obtain⟨ab,ac,ad,ae,af,ag,ah,ai⟩:=bO d;have aj:=aA d;have al:a.setCell (aD c.heap.size 0) (.i 0)=a:=dI d rfl;have am:a.setCell (aD c.heap.size 1) (.i 0)=a:=dI d rfl;have an:a.setCell (aD c.heap.size 2) (.i 0)=a:=dI d rfl;have ao:a.setCell (aD c.heap.size 3) (.i 0)=a:=dI d rfl;have ap:a.setCell (aD c.heap.size 4) .n=a:=dI d rfl;have aq:a.setCell (aD c.heap.size 5) .n=a:=dI d rfl;have ar:a.setCell (aD c.heap.size 6) .n=a:=dI d rfl;have au:a.setCell (aD c.heap.size 7) .e=a:=dI d rfl;have g:bW f a:=H.t (G▸(AC _ _).alloc H.size _);have j:=(g.block _ a5).t k;clear u x y z A B C D c8 c9 a0;obtain⟨u,x,y,z,A,B,C,D,c8,c9⟩:=mW j;have ak:=aA j;have Y:Hid _:=g;have Z:Hid _:=j;clear g j d))
 have a7:=uE Z.o (.i p) (.bool false) (.i 0) (.i 0) (.i 0) (.i 0) .n .n .n .e;have a1:=wN a w.heap.size (.i p) (.bool false) (.i 0) (.i 0) (.i 0) (.i 0) .n .n .n .e;have g:=X.t (Y.o.m (by omega));refine BI (v:=.agg (Ta p).cells) ?_ rfl ⟨rfl,g.t (a1.below (by have:=g.size;omega) (oK (by omega)))⟩;exact EL (p:=4) rfl _ _ w.heap.size _ _ _ _ rfl a7 Tryz.underlying136 rfl (by kernel_rfl)
def Jg(m:MV)(p:Nat)(b:Bool)(w:World):
  cL 113 #[.agg (if b then Ta p else m.g).cells,.agg (if b then m.g else Ta p).cells] w λe w'=>e=.r (.bool b)/\bW w w':=by
 have g:∀a c:MG,((a=m.g/\c=Ta p/\b=false)\/(a=Ta p/\c=m.g/\b=true))->cL 113 #[.agg a.cells,.agg c.cells] w λe w'=>e=.r (.bool b)/\bW w w':=by
  intro a c k;have⟨d,f⟩:=nM ((w.alloc a.obj).alloc c.obj);have j:bW w d:=f▸(bA _ _).alloc (by simp) _;have i:d.heap[w.heap.size]?=some a.obj:=f▸aQ _ (aC w _);have h:d.heap[w.heap.size+1]?=some c.obj:=by
   rw[<-f];have:=aC (w.alloc a.obj) c.obj;simpa using this
  have⟨l,n,o,q,r,s,t,u,H,I⟩:=mW i;have⟨x,y,z,A,B,C,D,E,F,G⟩:=mW h;rcases k with⟨rfl,rfl,rfl⟩|⟨rfl,rfl,rfl⟩
  all_goals
   go_enter Tryz.func113,Tryz.ntmps113;go_wp2;refine BI (v:=.bool _) ?_ rfl ⟨rfl,j⟩;simp[results,Tryz.results113,go_sem]
 cases b
 .exact g _ _ (.inl ⟨rfl,rfl,rfl⟩)
 .exact g _ _ (.inr ⟨rfl,rfl,rfl⟩)
def Uy {q v o:Nat}(x:q<2)(n:gE fs q v o)(k:yI (fs.at (1-q)))(r:1<fs.safe.length)(β:Nat)(sv lv:Value)(j:(fs.life==0)=false)(w:World)(f:aF w β sv lv fs):
  cL 83 #[.p β 0] w λe w'=>∃(m:MV) (g:MG),e=.r (.tuple #[.agg m.cells,.agg g.cells])/\bW w w'/\m.ver=v/\m.root=o/\g=Ta (1-q):=by
 have l:∀b,b<2->yI (fs.at b)->∀X,bW w X->cL 112 #[.p β 0,.i (b:Nat)] X λe w'=>∃m:MG,e=.r (.agg m.cells)/\m=Ta b/\bW X w':=λb u c X s =>
  (Uz β sv lv fs j b X (f.on (vV s f.lies)) (by omega) c).m λe w' ⟨t,c⟩=>⟨_,t,rfl,c⟩
 rcases(by omega:q=0\/q=1) with rfl|rfl
 .refine(pQ β w _ _ false (xK (p:=0) j f (by omega) n) (l 1 (by omega) k) ?_).m ?_
  .rintro _ _ ⟨a,rfl,_⟩ rfl X
   exact Jg a 1 false X
  .rintro e w' ⟨m,g,rfl,c,⟨d,_⟩|⟨d,⟨q,rfl,p,h,i⟩,rfl⟩⟩
   .cases d
   .exact⟨q,_,rfl,c,h,i,rfl⟩
 .refine(pQ β w _ _ true (l 0 (by omega) k) (xK (p:=1) j f r n) ?_).m ?_
  .rintro _ _ rfl ⟨a,rfl,_⟩ X
   exact Jg a 0 true X
  .rintro e w' ⟨m,g,rfl,c,⟨d,⟨q,rfl,p,h,i⟩,rfl⟩|⟨d,_⟩⟩
   .exact⟨q,_,rfl,c,h,i,rfl⟩
   .cases d
def Ow {K o ao}(S:fA K n fs v o ao)(i:1<fs.safe.length)(β:Nat)(sv lv:Value)(k:(fs.life==0)=false)(w:World)(j:aF w β sv lv fs):
  cL 83 #[.p β 0] w λe w'=>∃m a:MV,e=.r (.tuple #[.agg m.cells,.agg a.cells])/\bW w w'/\m.ver=v/\m.root=rootOf o/\a.root=rootOf ao:=by
 have d:=S.meta0;have⟨F,f,b⟩:=S.meta1;rcases Nat.mod_two_eq_zero_or_one v with h|h
 .rw[h]at d
  have g:(v+1) % 2=1:=by omega
  rw[g]at f;apply(uV β sv lv fs k v (rootOf o) F (rootOf ao) w j i d f).m;rintro e w' ⟨m,a,rfl,c,h|h⟩
  .omega
  .exact⟨m,a,rfl,c,h.2.2.1,h.2.2.2.1,h.2.2.2.2.2.2⟩
 .rw[h]at d
  have g:(v+1) % 2=0:=by omega
  rw[g]at f;apply(uV β sv lv fs k F (rootOf ao) v (rootOf o) w j i f d).m;rintro e w' ⟨m,a,rfl,c,h|h⟩
  .exact⟨m,a,rfl,c,h.2.2.1,h.2.2.2.1,h.2.2.2.2.2.2⟩
  .rcases b with b|⟨rfl,b⟩
   .omega
   .exact⟨m,a,rfl,c,h.2.2.1,h.2.2.2.1.t b,h.2.2.2.2.2.2.t b.symm⟩
abbrev db0(st:Int)(β:Nat):Array Value:=#[.int .i32 st,.int .u32 0,.p β 0,.i 0,.i 0,.i 0,.i 0,.slice none 0 0,.slice none 0 0,.slice none 0 0,.string ⟨#[]⟩,.i 0,.bool false,.i 0,.slice none 0 0]
abbrev qEg(w:World)(b:Nat)(v3 v4 v5 v6 v7 v8 v9 v10 v11:Value):World:=((((((((w.setCell (aD b 3) v3).setCell (aD b 4) v4).setCell (aD b 5) v5).setCell (aD b 6) v6).setCell (aD b 7) v7).setCell (aD b 8) v8).setCell (aD b 9) v9).setCell (aD b 10) v10).setCell (aD b 11) v11
def qIv(w:World)(b:Nat)(v3 d e f g h i a c:Value):Fr (Bl.one b) w (qEg w b v3 d e f g h i a c):=
 (((((((((AE (Bl.one b) w).setCell (p:=(aD b 3)) (.inl rfl) _).setCell (p:=(aD b 4)) (.inl rfl) _).setCell (p:=(aD b 5)) (.inl rfl) _).setCell (p:=(aD b 6)) (.inl rfl) _).setCell (p:=(aD b 7)) (.inl rfl) _).setCell (p:=(aD b 8)) (.inl rfl) _).setCell (p:=(aD b 9)) (.inl rfl) _).setCell (p:=(aD b 10)) (.inl rfl) _).setCell (p:=(aD b 11)) (.inl rfl) _
def qEf {k l p s u v x y z A q r m n o t}(h:cW w b #[k,l,p,s,u,v,x,y,z,A,q,r,m,n,o] t)(v3 d e f g i j a c:Value):(qEg w b v3 d e f g i j a c).heap[b]?=some (.cells #[k,l,p,v3,d,e,f,g,i,j,a,c,m,n,o] t):=by
 have:=aB (aB (aB (aB (aB (aB (aB (aB (aB h 3 v3) 4 d) 5 e) 6 f) 7 g) 8 i) 9 j) 10 a) 11 c;simpa using this
abbrev qIw(w:World)(b:Nat)(v3 v4 v5 v6 v7 v8 v9 v10:Value):World:=(((((((w.setCell (aD b 3) v3).setCell (aD b 4) v4).setCell (aD b 5) v5).setCell (aD b 6) v6).setCell (aD b 7) v7).setCell (aD b 8) v8).setCell (aD b 9) v9).setCell (aD b 10) v10
def c8 (a:b≠k)(h:w.c k i=some x):(qIw w b v3 d e f g j l c).c k i=some x :=
 cH a (cH a (cH a (cH a (cH a (cH a (cH a (cH a h)))))))
def c8d (a:b≠k)(h:w.cell? (aD k i)=some x):(qIw w b v3 d e f g j l c).drew.cell? (aD k i)=some x:=by
 rw[zS];exact c8 a h
def c9 (a:b≠k)(h:w.c k i=some x):(qEg w b v3 e f g j l m c d).c k i=some x:=cH a (c8 a h)
def c9d (a:b≠k)(h:w.cell? (aD k i)=some x):(qEg w b v3 e f g j l m c d).drew.cell? (aD k i)=some x:=by
 rw[zS];exact c9 a h
def Zq(d β:Nat)(sv lv:Value)(fs:Fs)(v:Nat)(o:Option (Nat×T))(ar:Nat)(w w':World):Prop:=∃D:Db,aO w' 1 D/\D.fs=fs/\D.aroot=ar/\D.d=d/\D.β=β/\D.sv=sv/\D.ver=v/\D.root=rootOf o/\D.failed=false/\D.last=0/\D.ov=.slice none 0 0/\D.ts=[]/\Fr (Bl.or (Bl.one d) (fpF β sv lv)) w w'/\aJ w (fpF β sv lv) (fpF β sv D.lv)
def Gl {cp fs:Fs}{o ao:Option (Nat×T)}(j:Nat)(df:j<2)(right:Bool)(bk:fs.late=[])(av:Tr [] fs o)(bq:right=true->bQ fs (rootOf ao) ao)(p:2<=fs.safe.length)(br:fs.dy)(hal:(fs.life==0)=false)(d β:Nat)(sv lv:Value)(w:World)(a9:cW w d (db0 1 β) 83)(bj:aF w β sv lv cp)(bg:cL 82 #[.p β 0] w λe w'=>e=.r (.bool true)/\∃bs,aF w' β sv bs fs/\Fr (fpF β sv lv) w w'/\aJ w (fpF β sv lv) (fpF β sv bs))(bf:∀g X,aF X β sv g fs->cL 83 #[.p β 0] X λe w'=>∃(m:MV) (b:MG),e=.r (.tuple #[.agg m.cells,.agg b.cells])/\bW X w'/\m.ver=v/\m.root=rootOf o/\b.ok=right/\(right=true->b.root=rootOf ao)/\(right=false->b.p=j)):
  cL 33 #[.p d 0] w λe w'=>(right=true/\e=.r (.i 0)/\Zq d β sv lv fs v o (rootOf ao) w w')\/(right=false/\e=.r (.i (fs.fgZ j (bK (v:Nat) (rootOf o:Nat)).encS))/\∃t,(fs.fgZ j (bK (v:Nat) (rootOf o:Nat)).encS=0->t=rootOf o)/\Zq d β sv lv (fs.fg j (bK (v:Nat) (rootOf o:Nat)).encS) v o t w w'):=by
 have bd:(bK (v:Nat) (rootOf o:Nat)).encE=0:=tO (v:Nat) _ (by omega) (av.root.imp (λh=>by rw[h];rfl) id);have bz:Hid (∀g X,aF X β sv g fs->cL 83 #[.p β 0] X λe w'=>∃(m:MV) (b:MG),e=.r (.tuple #[.agg m.cells,.agg b.cells])/\bW X w'/\m.ver=v/\m.root=rootOf o/\b.ok=right/\(right=true->b.root=rootOf ao)/\(right=false->b.p=j)):=bf;have cx:¬fpF β sv lv d:=fW bj a9 (by decide) (by decide) (by decide);obtain⟨S,U,a0,a1,a2,J,a3,a4,c8,c9,c10,I,V,W,Z⟩:=eQ a9;have bb:Hid (bQ fs (rootOf o) o):=av.rooted;have ba:Hid (right=true->bQ fs (rootOf ao) ao):=bq;have bx:Hid (fs.late=[]):=bk;have bv:Hid ((bK (v:Nat) (rootOf o:Nat)).encE=0):=bd;have c3:Hid fs.dy:=br;clear S U a1 a2 J a3 a4 c8 c9 c10 I V W Z bf bk bd av bq;go_enter Tryz.func33,Tryz.ntmps33;go_wp2_with (first
  |(go_at_call 82;apply Calls.m bg;rintro e R ⟨rfl,g,r,ae,b6⟩;have K:=ae.heap a9 cx;obtain⟨S,U,a0,a1,a2,J,a3,a4,c8,c9,c10,I,V,W,Z⟩:=eQ K;clear S U a1 a2 J a3 a4 c8 c9 c10 I V W Z;have am:=fU β sv g fs R r;rw[hal]at am;have be:=bz.o g R r)
  |(go_at_call 49;apply Calls.m am;rintro e c5 ⟨rfl,dd⟩;subst c5)
  |(go_at_call 83;apply Calls.m be;rintro e f ⟨m,b,rfl,au,bo,bm,bp,bn,bl⟩;have ai:Hid _:=bo;have Q:Hid _:=bm;have c0:Hid _:=bp;have b8:Hid (right=true->b.root=rootOf ao):=bn;have ah:Hid (right=false->b.p=j):=bl;clear bo bm bn bp bl))
 obtain⟨X3,L⟩:=nM ((f.alloc m.obj).alloc b.obj);rw[L];have al:bW f X3:=L▸(bA _ _).alloc (by simp) _;have bu:X3.heap[f.heap.size]?=some m.obj:=L▸aQ _ (aC f _);have aa:X3.heap[f.heap.size+1]?=some b.obj:=by rw[<-L];have:=aC (f.alloc m.obj) b.obj;simpa using this
 have dg:=(gL aa);have co:=(gL K);have db:=au.size;have a5:=(al.block d (by omega)).t ((au.block d co).t K);have O:bW R X3:=au.t (al.m db);obtain⟨d0,d1,y,z,A,B,C,D,E,F⟩:=mW bu;obtain⟨d2,d3,d4,d5,G,d6,d7,d8,d9,da⟩:=mW aa;obtain⟨c6,c7,cf,cg,ch,ci,cj,ck,cl,cm,ca,cb,cc,cd,ce⟩:=eQ a5;have cn:=aA a5;clear be am bg L;go_region_held3 (λX=>X.c f.heap.size 2=some (.i 1)/\X.c f.heap.size 3=some (.i m.ver)/\X.c f.heap.size 4=some (.i m.root)/\X.c f.heap.size 5=some (.i 0)/\X.c f.heap.size 6=some (.s m.ka 0 m.kc)/\X.c f.heap.size 7=some (.s m.ia 0 m.ic)/\X.c f.heap.size 8=some (.s m.ea 0 m.ec)/\X.c f.heap.size 9=some .e/\X.cell? (aD (f.heap.size+1) 4)=some (.i b.root))
  ((first|(with_reducible exact⟨y,z,A,B,C,D,E,F,G⟩)|(with_reducible exact⟨c8 (by omega) y,c8 (by omega) z,c8 (by omega) A,c8 (by omega) B,c8 (by omega) C,c8 (by omega) D,c8 (by omega) E,c8 (by omega) F,c8 (by omega) G⟩)|(with_reducible exact⟨c8d (by omega) y,c8d (by omega) z,c8d (by omega) A,c8d (by omega) B,c8d (by omega) C,c8d (by omega) D,c8d (by omega) E,c8d (by omega) F,c8d (by omega) G⟩)|(with_reducible exact⟨c9 (by omega) y,c9 (by omega) z,c9 (by omega) A,c9 (by omega) B,c9 (by omega) C,c9 (by omega) D,c9 (by omega) E,c9 (by omega) F,c9 (by omega) G⟩)|(with_reducible exact⟨c9d (by omega) y,c9d (by omega) z,c9d (by omega) A,c9d (by omega) B,c9d (by omega) C,c9d (by omega) D,c9d (by omega) E,c9d (by omega) F,c9d (by omega) G⟩)|(simp[y,z,A,B,C,D,E,F,G])))
  (fail)
 rename_i hHeld1;clear hHeld1 d0 d1 y z A B C D E F d2 d3 d4 d5 G d6 d7 d8 d9 da c6 c7 cf cg ch ci cj ck cl cm ca cb cc cd ce cn a0;obtain⟨a,a8⟩:=nM ((qEg X3 d (.i 1) (.i m.ver) (.i m.root) (.i 0) (.s m.ka 0 m.kc) (.s m.ia 0 m.ic) (.s m.ea 0 m.ec) .e (.i b.root)).drew);rw[a8];have a6:Fr (Bl.one d) X3 a:=a8▸(qIv X3 d _ _ _ _ _ _ _ _ _).drew;have bc:a.heap[d]?=some (dbO 1 ⟨d,β,sv,g,fs,m.ver,m.root,b.root,m.ka,m.ia,m.ea,m.kc,m.ic,m.ec,false,0,.n,[]⟩):=by
  rw[<-a8,GX];exact qEf a5 _ _ _ _ _ _ _ _ _
 have b2:a.heap[f.heap.size+1]?=some b.obj:=a6.heap aa (oN (by omega));have bt:¬fpF β sv g d:=fW r K (by decide) (by decide) (by decide);have P:aO a 1 ⟨d,β,sv,g,fs,m.ver,m.root,b.root,m.ka,m.ia,m.ea,m.kc,m.ic,m.ec,false,0,.n,[]⟩:=by
  refine⟨bc,?_,AL _ _ _ _,by simp,.nil⟩;exact(r.on (vV O r.lies)).on (a6.on (λi c=>⟨jY (r.lies i c) O.size,λe=>bt (by simp only[Bl.one]at e;exact e▸c)⟩))
 have b5:Fr (Bl.or (Bl.one d) (fpF β sv lv)) w a:=((ae.m (λi c=>.inl (.inr c))).t (AB O)).t (a6.m (λi c=>.inl (.inl c)));obtain⟨b3,de,a7,u⟩:=Jn a;have l:Hid (∀X,bW a X->aO X 1 ⟨d,β,sv,g,fs,m.ver,m.root,b.root,m.ka,m.ia,m.ea,m.kc,m.ic,m.ec,false,0,.n,[]⟩/\X.c d 2=some (.p β 0)/\X.c d 5=some (.i m.root)/\X.c d 11=some (.i b.root)/\X.cell? (aD (f.heap.size+1) 1)=some (.bool right)/\X.cell? (aD (f.heap.size+1) 0)=some (.i b.p)):=by
  intro X q;have n:=P.on (vV q P.lies);obtain⟨S,U,a0,a1,a2,J,a3,a4,c8,c9,c10,I,V,W,Z⟩:=eQ n.box;have p:=(q.block _ (gL b2)).t b2;exact⟨n,a0,J,I,c0.o▸(mW p).2.1,(mW p).1⟩
 obtain⟨_,N,az,ay,b1,b0⟩:=l.o b3 u;have cy:fs.safe.length<=4096:=r.small;have bh:=oB d β m.root b3 N;have af:Hid _:=b5;have ag:Hid _:=b6;have b7:Hid _:=P;have dc:Hid (∀X,Fr (Bl.one a.heap.size) b3 X->bW a X):=λX q=>u.t (q.below u.size (oK (by omega)));clear a8 bj a9 r ae b6 K a5 bc bu aa b2 al O a6 bt P b5 br;have b9:Hid (∀X,aF X β sv g fs->bB X a.heap.size (List.replicate 4096 false)->cL 84 #[.agg #[.p β 0,.i (m.root:Nat),.n],.q a.heap.size 4096 4096] X λe w'=>(∃v,e=.r v)/\bB w' a.heap.size (marks (List.replicate 4096 false) (cR o))/\Fr (Bl.one a.heap.size) X w'):=by
  intro X n p;rw[Q.o];exact Hh β sv g fs hal (rootOf o) none 0 0 a.heap.size o _ X bb.o (vN _ _) DP n p
 have bw:Hid (right=false->∀X,bW a X->cL 86 #[.p d 0,.i (b.p:Nat)] X λe w'=>e=.r (.i (fs.fgZ j (bK (v:Nat) (rootOf o:Nat)).encS))/\∃t,(fs.fgZ j (bK (v:Nat) (rootOf o:Nat)).encS=0->t=rootOf o)/\Zq d β sv lv (fs.fg j (bK (v:Nat) (rootOf o:Nat)).encS) v o t w w'):=by
  intro aw X q;obtain⟨ax,_⟩:=l.o X q;have aq:=Wk _ 1 b.p X ax c3.o bx.o (by rw[ah.o aw];show _<fs.safe.length;omega) (by show(bK (m.ver:Nat) (m.root:Nat)).encE=0;rw[ai.o,Q.o];exact bv.o);dsimp only at aq;rw[ah.o aw,ai.o,Q.o]at aq;rw[ah.o aw];refine aq.m ?_;rintro e ab ⟨rfl,dh,t,cw,cr,ap,ct⟩;refine⟨rfl,t,cw,_,cr,rfl,rfl,rfl,rfl,rfl,rfl,rfl,rfl,rfl,rfl,rfl,(af.o.t (AB q)).grow ap (λi c=>?_),aJ.t ag.o (vJ af.o.size q.size) ct⟩;rcases c with c|c
  .exact .inl (.inl c)
  .exact(ag.o i c).imp (λh=>.inr h) id
 cases right
 .go_wp2_with (first
   |(go_at_call 36;apply Calls.m bh;rintro e k ⟨rfl,M⟩;have s:bW a k:=u.t (M.m u.size);have aj:bB k a.heap.size (List.replicate 4096 false):=a7.on (Y:=Bl.one a.heap.size) (vV M (λi c=>by simp only[Bl.one]at c;have:=a7.lt;omega)) rfl;have ar:=b9.o k (l.o k s).1.file aj)
   |(go_at_call 84;apply Calls.m ar;rintro e x ⟨⟨cz,rfl⟩,ak,an⟩;have H:bW a x:=s.t (an.below s.size (oK (by omega)));obtain⟨ax,N,az,ay,b1,b0⟩:=l.o x H;clear ax;have cs:=bw.o (by simp) x H)
   |(go_at_call 86;apply Calls.m cs;rintro e ab ⟨rfl,c1⟩))
  go_ret;exact⟨rfl,c1⟩
 have c2:Hid (∀X,aF X β sv g fs->bB X a.heap.size (marks (List.replicate 4096 false) (cR o))->cL 85 #[.agg #[.p β 0,.i (b.root:Nat),.n],.q a.heap.size 4096 4096] X λe w'=>e=.r (.bool true)/\Fr (Bl.one a.heap.size) X w'):=by
  intro X n p;rw[b8.o rfl];exact(Tv β sv g fs hal (rootOf ao) none 0 0 a.heap.size ao _ X (ba.o rfl) (Ap (ba.o rfl) bb.o (by rw[DP];exact cy) (vN _ _)) (by rw[gP,DP]) n p p.lt).m λe w' ⟨n,_,cq⟩=>⟨n,cq⟩
 go_wp2_with (first
  |(go_at_call 36;apply Calls.m bh;rintro e k ⟨rfl,M⟩;have s:bW a k:=u.t (M.m u.size);have aj:bB k a.heap.size (List.replicate 4096 false):=a7.on (Y:=Bl.one a.heap.size) (vV M (λi c=>by simp only[Bl.one]at c;have:=a7.lt;omega)) rfl;have ar:=b9.o k (l.o k s).1.file aj)
  |(go_at_call 84;apply Calls.m ar;rintro e x ⟨⟨cz,rfl⟩,ak,an⟩;have H:bW a x:=s.t (an.below s.size (oK (by omega)));obtain⟨_,N,az,ay,b1,b0⟩:=l.o x H;have cv:=oB d β b.root x N)
  |(go_at_call 36;apply Calls.m cv;rintro e b4 ⟨rfl,bi⟩;have ac:bW a b4:=H.t (bi.m H.size);have c4:=ak.on (Y:=Bl.one a.heap.size) (vV bi (λi c=>by simp only[Bl.one]at c;have:=ak.lt;omega)) rfl;have cu:=c2.o b4 (l.o b4 ac).1.file c4)
  |(go_at_call 85;apply Calls.m cu;rintro e ab ⟨rfl,ap⟩;have ad:bW a ab:=ac.t (ap.below ac.size (oK (by omega)));obtain⟨_,N,az,ay,b1,b0⟩:=l.o ab ad))
 go_ret;refine⟨rfl,_,b7.o.on (vV ad b7.o.lies),rfl,?_,rfl,rfl,rfl,?_,?_,rfl,rfl,rfl,rfl,af.o.t (AB ad),ag.o⟩
 .exact b8.o (by simp)
 .show((m.ver:Nat):Int)=_;rw[ai.o]
 .exact Q.o
def Fs.wrS_well (h:fs.well):fs.wrS.well:=by unfold Fs.wrS;rw[(ED h).1,(ED h).2];exact h
def Fs.fgZ_well (h:fs.well)(p:Nat)(d:ByteArray):fs.fgZ p d=0/\(fs.fg p d).well:=by
 have a:(fs.wrP p d).well:=by unfold Fs.wrP;rw[(ED h).1,(ED h).2];exact h
 unfold Fs.fgZ Fs.fg;rw[(ED h).1,(ED a).1,LF (Fs.wrS_well a)];exact⟨rfl,Fs.wrS_well a⟩
def qLo {ms:ByteArray}(p:fs.late=[])(H:iE n fs.safe [] v o C)(u:2<=n)(m:Cb ms v (rootOf o))(x:fs.dy):(fs.fg ((v+1) % 2) ms).dy /\
    ((fs.fgZ ((v+1) % 2) ms=0/\fA [] n (fs.fg ((v+1) % 2) ms) v o o/\((fs.fg ((v+1) % 2) ms).life==0)=false/\(fs.fg ((v+1) % 2) ms).failed=fs.failed) \/
     (fs.fgZ ((v+1) % 2) ms=9/\(((fs.fg ((v+1) % 2) ms).life=0/\(fs.fg ((v+1) % 2) ms).failed=fs.failed)\/(fs.fg ((v+1) % 2) ms).failed=wrap64 (fs.failed+1))/\∃f,iE n (fs.fg ((v+1) % 2) ms).safe (fs.fg ((v+1) % 2) ms).late v o f/\∀v' t,f v' t->C v' t\/(v'=v/\t=o))):=by
  have c:=H.put u m;rw[jE]at c;unfold Fs.fgZ Fs.fg;have g:=Fs.wrP_dy x ((v+1) % 2) ms;have b:=Fs.wrP_failed fs ((v+1) % 2) ms;cases b1:fs.chOk
  . rw[b1]at b
    refine⟨g,.inr ⟨rfl,.inr b,C,?_,λ_ _ h=>.inl h⟩⟩;show iE n (fs.wrP _ _).safe (fs.wrP _ _).late _ _ _
    rw[Fs.wrP,b1];show iE n fs.ch.safe fs.ch.late _ _ _
    rw[DQ,DY,p];exact H
  . rw[b1]at b
    have k:fs.wrP ((v+1) % 2) ms=fs.ch.put ((v+1) % 2) ms:=by rw[Fs.wrP,b1,AU rfl]
    have r:(fs.wrP ((v+1) % 2) ms).safe=fs.safe:=by rw[k];exact DQ fs
    have i:(fs.wrP ((v+1) % 2) ms).late=[((v+1) % 2,ms)]:=by rw[k];show fs.ch.late++_=_;rw[DY,p];rfl
    have⟨a,w⟩:=nM (fs.wrP ((v+1) % 2) ms);rw[w]at g b r i⊢;rw[<-r,<-i]at c;have e:=Fs.wrS_failed a;refine⟨Fs.wrS_dy g,?_⟩;show((if (true&&a.chOk&&!(a.wrS.life==0))=true then (0:Int) else 9)=0/\fA [] n a.wrS v o o/\_)\/((if (true&&a.chOk&&!(a.wrS.life==0))=true then (0:Int) else 9)=9/\_/\∃f,iE n a.wrS.safe a.wrS.late v o f/\_)
    cases b2:a.chOk
    . rw[b2]at e
      refine .inr ⟨rfl,.inr (e.t (by rw[b];rfl)),_,?_,λ_ _ h=>h⟩;rw[Fs.wrS,b2];show iE n a.ch.safe a.ch.late _ _ _
      rw[DQ,DY];exact c
    . rw[b2]at e
      have l:a.wrS=a.ch.synced:=by rw[Fs.wrS,b2,AU rfl]
      have s:a.wrS.safe=laid a.safe a.late:=by rw[l];show laid a.ch.safe a.ch.late=_;rw[DQ,DY]
      have j:a.wrS.late=[]:=by rw[l];rfl
      have d:=c.laid;rw[<-s,<-j]at d;cases b3:a.wrS.life==0
      . have⟨y,q,_⟩:=d.view
        refine .inl ⟨rfl,⟨j,d.len,y,⟨v,?_,.inr ⟨rfl,rfl⟩⟩,q,q,d.size⟩,b3,e.t (by rw[b];rfl)⟩;have:a.wrS.at ((v+1) % 2)=ms:=by
          unfold Fs.at;rw[j,s,Me _ _ _ c.fits,i];simp[qM]
        unfold gE;rw[this];exact m
      . exact .inr ⟨rfl,.inl ⟨by simpa using b3,e.t (by rw[b];rfl)⟩,_,d,λ_ _ h=>h⟩
def Kv(n:Nat)(d β:Nat)(sv lv:Value)(fs:Fs)(v:Nat)(o:Option (Nat×T))(C:Nat->Option (Nat×T)->Prop)(w:World)(z:Int)(w':World):Prop :=
  (∃cs',w'.heap[d]?=some (.cells cs' 83)/\cs'[0]?=some (.int .i32 1))/\Fr (Bl.or (Bl.one d) (fpF β sv lv)) w w' /\
  ((z=9/\∃fs' lv' C',aF w' β sv lv' fs'/\aJ w (fpF β sv lv) (fpF β sv lv')/\fs'.dy/\¬fs.well/\((fs'.life=0/\fs'.failed=fs.failed)\/fs'.failed=wrap64 (fs.failed+1))/\iE n fs'.safe fs'.late v o C'/\∀v' t,C' v' t->C v' t\/(v'=v/\t=o)) \/
   (z=0/\∃fs' v1 o1 ao1,Zq d β sv lv fs' v1 o1 (rootOf ao1) w w'/\fs'.dy/\(fs'.life==0)=false/\fs'.failed=fs.failed/\(fs.chOk=true/\(fs.well->fs'.well))/\fA [] n fs' v1 o1 ao1/\((v1=v/\o1=o/\(ao1=o\/∃v',v'≠v+1/\C v' ao1))\/(v1=v+1/\ao1=o/\C (v+1) o1))))
def Wv (H:iE n fs.safe fs.late v o C)(B:2<=n)(az:v+1<9223372036854775808)(x:fs.dy)(d β:Nat)(sv lv:Value)(w:World)(u:cW w d (db0 1 β) 83)(E:aF w β sv lv fs):
  cL 33 #[.p d 0] w λe w'=>∃z,e=.r (.i z)/\Kv n d β sv lv fs v o C w z w':=by
 have j:=Dn β sv lv fs w E x.1 x.2.1 x.2.2.1 x.2.2.2 H.fits;have i:=Fs.wrS_dy x;have f:=Fs.wrS_failed fs;have U:=fW E u (by decide) (by decide) (by decide);have F:∀X,Fr (fpF β sv lv) w X->cW X d (db0 1 β) 83:=λX l=>l.heap u U;have ab:=(eQ u).2.2.1;change Calls _ _ _ _ (λe w'=>e=.r (.bool fs.chOk)/\∃al,aF w' β sv al fs.wrS/\_) at j;cases b1:fs.chOk
 .have W:¬fs.well:=λh=>by rw[(ED h).1]at b1;cases b1
  rw[b1]at j f;have O:iE n fs.wrS.safe fs.wrS.late v o C:=by rw[Fs.wrS,b1];show iE n fs.ch.safe fs.ch.late _ _ _;rw[DQ,DY];exact H
  obtain⟨b,r⟩:=nM (fs.wrS);rw[r]at j f O i;have K:Hid (∀X a,aF X β sv a b->Fr (fpF β sv lv) w X->aJ w (fpF β sv lv) (fpF β sv a)->Kv n d β sv lv fs v o C w 9 X):=λX a g c y=>⟨⟨_,F X c,rfl⟩,c.m (λk R=>.inl (.inr R)),.inl ⟨rfl,b,a,C,g,y,i,W,.inr f,O,λ_ _ h=>.inl h⟩⟩;go_enter Tryz.func33,Tryz.ntmps33;go_wp2_with (go_at_call 82;apply Calls.m j;rintro e L ⟨rfl,a,g,c,y⟩);go_ret;exact⟨9,rfl,K.o _ _ g c y⟩
 .rw[b1]at j f
  have a1:fs.wrS=fs.ch.synced:=by rw[Fs.wrS,b1,AU rfl]
  have av:fs.wrS.safe=laid fs.safe fs.late:=by rw[a1];show laid fs.ch.safe fs.ch.late=_;rw[DQ,DY]
  have A:fs.wrS.late=[]:=by rw[a1];rfl
  have p:=H.laid;rw[<-av]at p;obtain⟨b,r⟩:=nM (fs.wrS);rw[r]at j f p i A;replace f:b.failed=fs.failed:=f;cases b2:b.life==0
  .have ay:=p.len
   have a4:∀{D:Db} {w'},aO w' 1 D->D.d=d->∃a0,cW w' d a0 83/\a0[0]?=some (.int .i32 1):=λh e=>⟨_,e▸h.box,rfl⟩;have a6:∀v1 o1 ao1,fA [] n b v1 o1 ao1->((v1=v/\o1=o/\(ao1=o\/∃v',v'≠v+1/\C v' ao1))\/(v1=v+1/\ao1=o/\C (v+1) o1))->cL 33 #[.p d 0] w λe w'=>∃z,e=.r (.i z)/\Kv n d β sv lv fs v o C w z w':=λv1 o1 ao1 S ai=>by
    refine(Gl (v:=v1) (o:=o1) (ao:=ao1) 0 (by decide) true A S.sure (λ_=>S.ahead.rooted) (by omega) i b2 d β sv lv w u E j (λa X l=>(Ow S (by omega) β sv a b2 X l).m λe w' ⟨m,V,Q,P,M,B,J⟩=>⟨m,V.g,Q,P,M,B,rfl,λ_=>J,nofun⟩)).m ?_;rintro e w' (⟨_,rfl,s⟩|⟨h,_⟩)
    .refine⟨0,rfl,?_,?_,.inr ⟨rfl,b,v1,o1,ao1,s,i,b2,f,⟨b1,λh=>r▸Fs.wrS_well h⟩,S,ai⟩⟩
     .obtain⟨D,g,_,_,c,_⟩:=s;exact a4 g c
     .obtain⟨D,_,_,_,_,_,_,_,_,_,_,_,_,q,_⟩:=s;exact q
    .cases h
   rcases p.two A B with⟨v',t,ak,N,S⟩|⟨t,N,S⟩|ad
   .exact a6 v o t S (.inl ⟨rfl,rfl,.inr ⟨v',ak,N⟩⟩)
   .exact a6 (v+1) t o S (.inr ⟨rfl,rfl,N⟩)
   .have a8:iE n b.safe b.late v o C:=by rw[A];exact p
    obtain⟨g,c,_⟩:=a8.view;have ag:=tO (v:Nat) (rootOf o:Nat) (by omega) (c.root.imp (λh=>by rw[h];rfl) id);obtain⟨a2,ac⟩:=qLo A p B (.inr (xV _ (by show((v:Nat):Int)<_;omega) ag)) i;refine(Gl (v:=v) (o:=o) (ao:=o) ((v+1) % 2) (MI _ (by decide)) false A c (λh=>by cases h) (by omega) i b2 d β sv lv w u E j (λa X l=>(Uy (q:=v % 2) (MI _ (by decide)) g (by rw[show 1-v % 2=(v+1) % 2 by omega];exact ad) (by omega) β sv a b2 X l).m λe w' ⟨m,V,Q,P,M,B,J⟩=>⟨m,V,Q,P,M,B,by rw[J],nofun,λ_=>by rw[J];show 1-v % 2=_;omega⟩)).m ?_;rintro e w' (⟨h,_⟩|⟨_,rfl,aw,aj,s⟩)
    .cases h
    have ah:=s;obtain⟨D,a5,am,b0,an,ap,aq,_,_,_,_,_,_,ar,au⟩:=ah;refine⟨_,rfl,a4 a5 an,ar,?_⟩;rcases ac with⟨G,Y,I,Z⟩|⟨G,Y,I⟩
    .rw[aj G]at s
     rw[G];exact .inr ⟨rfl,_,v,o,o,s,a2,I,Z.t f,⟨b1,λh=>(Fs.fgZ_well (r▸Fs.wrS_well h) _ _).2⟩,Y,.inl ⟨rfl,rfl,.inl rfl⟩⟩
    .obtain⟨a7,I,Z⟩:=I
     have a3:=a5.file;rw[ap,aq,am]at a3;exact .inl ⟨G,_,_,a7,a3,au,a2,λh=>by rw[(Fs.fgZ_well (r▸Fs.wrS_well h) _ _).1]at G;omega,f▸Y,I,Z⟩
  .have W:¬fs.well:=λh=>by rw[LF (r▸Fs.wrS_well h)]at b2;cases b2
   have af:Hid (∀X a,aF X β sv a b->cL 49 #[.p β 0] X λe w'=>e=.r (.bool true)/\w'=X):=λX a l=>by
    have:=fU β sv a b X l;rw[b2]at this;exact this
   have K:Hid (∀X a,aF X β sv a b->Fr (fpF β sv lv) w X->aJ w (fpF β sv lv) (fpF β sv a)->Kv n d β sv lv fs v o C w 9 X):=λX a g c y=>⟨⟨_,F X c,rfl⟩,c.m (λk R=>.inl (.inr R)),.inl ⟨rfl,b,a,C,g,y,i,W,.inl ⟨by simpa using b2,f⟩,by rw[A];exact p,λ_ _ h=>.inl h⟩⟩;have a9:Hid (∀X,Fr (fpF β sv lv) w X->X.c d 2=some (.p β 0)):=λX l=>(eQ (F X l)).2.2.1;go_enter Tryz.func33,Tryz.ntmps33;go_wp2_with (first
    |(go_at_call 82;apply Calls.m j;rintro e L ⟨rfl,a,g,c,y⟩;have ab:=a9.o L c;have ae:=af.o L a g)
    |(go_at_call 49;apply Calls.m ae;rintro e aa ⟨rfl,ax⟩;subst aa))
   go_ret;exact⟨9,rfl,K.o _ _ g c y⟩
def aO.beside {a D}(h:aO w a D)(b:¬fpD D k)(v:Value):aO (w.setCell (aD k i) v) a D :=
 h.on ((CN (fpD D) w).setCell (p:=(aD k i)) b v)
def Cx(D:Db)(g:Nat)(first q:Array Value)(A:∀args w,(callFunc g args).run Tryz.prog w=.ok (.enter g args) w)(w:World)(h:aO w 0 D)(R:Int->Db->Prop)(C:∀a,aO a 1 D->Fr (Bl.one D.d) w a->w.heap.size<a.heap.size->cL g (first++q) a λe w'=>∃z D',e=.r (.i z)/\aO w' 1 D'/\D'.d=D.d/\Fr (fpD D) a w'/\aJ a (fpD D) (fpD D')/\R z D'):
  cL 32 #[.p D.d 0,.func (.func g) first q] w λe w'=>∃z D',e=.r (.i z)/\aO w' 0 D'/\D'.d=D.d/\Fr (fpD D) w w'/\aJ w (fpD D) (fpD D')/\R z D':=by
 have H:=(gL h.box);obtain⟨b,m⟩:=nM (w.setCell (aD D.d 0) (.int .i32 1));have t:aO b 1 D:=m▸h.lock;have y:Fr (Bl.one D.d) w b:=m▸(AE (Bl.one D.d) w).setCell (p:=(aD D.d 0)) (.inl rfl) _;have F:b.heap.size=w.heap.size:=by rw[<-m];simp
 obtain⟨a,o⟩:=nM (b.alloc (.cells #[.i 0] 48));have r:bW b a:=o▸(bA _ _);have x:cW a w.heap.size #[.i 0] 48:=by rw[<-o,<-F];exact aC b _
 have B:=t.on (vV r t.lies);have s:=y.t (AB r);have G:=(gL x);have v:¬fpD D w.heap.size:=λc=>by have:=h.lies _ c;omega
 refine(Gi D.d g first q A w (λz W=>∃D',aO W 1 D'/\D'.d=D.d/\Fr (fpD D) a W/\aJ a (fpD D) (fpD D')/\R z D') _ h.box rfl ?_).m ?_
 .rw[m,o]
  refine(C a B s G).m ?_;rintro e w' ⟨z,D',rfl,j,f,k,l,n⟩;exact⟨z,rfl,k.heap x v,⟨_,f▸j.box,rfl⟩,D',j,f,k,l,n⟩
 .rintro e w' ⟨z,W,rfl,⟨D',j,f,k,l,n⟩,rfl⟩
  have E:¬fpD D' w.heap.size:=λc=>by
   rcases l _ c with d|d
   .exact v d
   .omega
  refine⟨z,D',rfl,?_,f,?_,?_,n⟩
  .have:=(j.beside (i:=0) E (.i z)).lock (st':=0)
   rw[f]at this;exact this
  .exact(((s.m (λu c=>.inl (.inl c))).t k).setCell (p:=(aD w.heap.size 0)) (.inr (jU _)) _).setCell (p:=(aD D.d 0)) (.inl (.inl rfl)) _
  .intro u c
   rcases l u c with d|d
   .exact .inl d
   .exact .inr (by omega)
def qKy(n β:Nat)(sv lv:Value)(fs:Fs)(v:Nat)(o:Option (Nat×T))(C:Nat->Option (Nat×T)->Prop)(w:World)(e:Ending)(w':World):Prop :=
  Fr (fpF β sv lv) w w' /\
  ((e=.returned (.tuple #[.pointer none,.i 9])/\∃fs' lv' C',aF w' β sv lv' fs'/\aJ w (fpF β sv lv) (fpF β sv lv')/\fs'.dy/\¬fs.well/\((fs'.life=0/\fs'.failed=fs.failed)\/fs'.failed=wrap64 (fs.failed+1))/\iE n fs'.safe fs'.late v o C'/\∀v' t,C' v' t->C v' t\/(v'=v/\t=o)) \/
   (∃(D:Db) (v1:Nat) (o1 ao1:Option (Nat×T)),e=.returned (.tuple #[.p D.d 0,.i 0])/\aO w' 0 D/\D.β=β/\D.sv=sv/\D.ver=v1/\D.root=rootOf o1/\D.aroot=rootOf ao1/\D.failed=false/\D.last=0/\D.ts=[]/\D.fs.dy/\(D.fs.life==0)=false/\D.fs.failed=fs.failed/\(fs.chOk=true/\(fs.well->D.fs.well))/\fA [] n D.fs v1 o1 ao1/\((v1=v/\o1=o/\(ao1=o\/∃v',v'≠v+1/\C v' ao1))\/(v1=v+1/\ao1=o/\C (v+1) o1))/\aJ w (fpF β sv lv) (fpD D)))
def Oo (H:iE n fs.safe fs.late v o C)(m:40<=n)(ac:v+1<9223372036854775808)(K:fs.dy)(β:Nat)(sv lv:Value)(w:World)(k:aF w β sv lv fs):
  cL 11 #[.p β 0] w (qKy n β sv lv fs v o C w):=by
 obtain⟨e,x⟩:=nM (w.alloc (.cells (db0 0 β) 83));have R:bW w e:=x▸(bA _ _);have O:cW e w.heap.size (db0 0 β) 83:=x▸aC w _;have P:e.heap.size=w.heap.size+1:=by rw[<-x];simp
 obtain⟨f,q⟩:=nM (e.setCell (aD w.heap.size 0) (.int .i32 1));have an:cW f w.heap.size (db0 1 β) 83:=by rw[<-q];have:=aB O 0 (.int .i32 1);simpa using this
 have U:Fr (Bl.one w.heap.size) e f:=q▸(AE (Bl.one w.heap.size) e).setCell (p:=(aD w.heap.size 0)) (.inl rfl) _;have Q:f.heap.size=w.heap.size+1:=by rw[<-q];simp[P]
 obtain⟨d,r⟩:=nM (f.alloc (.cells #[.i 0] 48));have z:bW f d:=r▸(bA _ _);have ap:cW d (w.heap.size+1) #[.i 0] 48:=by rw[<-r,<-Q];exact aC f _
 have ao:=(z.block w.heap.size (by omega)).t an;have ar:d.heap.size=w.heap.size+2:=by rw[<-r];simp[Q]
 have A:bW w d:=(R.t (U.below (by omega) (oK (by omega)))).t (z.m (by omega));have ab:=k.on (vV A k.lies);have J:=Wv H (by omega) ac K w.heap.size β sv lv d ao ab;have a8:=nN β sv lv fs w k;have hn:¬((fs.safe.length:Int)<40):=by rw[H.len];omega
 have a7:=Gi w.heap.size 33 #[.p w.heap.size 0] #[] (enters_of Tryz.func33 (by kernel_rfl) rfl) e (Kv n w.heap.size β sv lv fs v o C d) _ O rfl (by
  rw[q,r,P];refine J.m ?_;rintro g w' ⟨b,rfl,j⟩;refine⟨b,rfl,j.2.1.heap ap ?_,j.1,j⟩;rintro(a|a)
  .simp only[Bl.one]at a;omega
  .have:=k.lies _ a;omega)
 have Y:Hid (∀b W,Kv n w.heap.size β sv lv fs v o C d b W->(b=9\/b=0)/\∀g,g=.r (.tuple #[if b=0 then .p w.heap.size 0 else .pointer none,.i b])->qKy n β sv lv fs v o C w g ((W.setCell (aD (w.heap.size+1) 0) (.i b)).setCell (aD w.heap.size 0) (.int .i32 0))):=λb W ⟨_,a6,j⟩=>by
  have V:=(AB A).grow a6 (λc a=>by
   rcases a with a|a
   .exact .inr (by simp only[Bl.one]at a;omega)
   .exact .inl a)
  have B:=(V.setCell (p:=(aD (w.heap.size+1) 0)) (.inr (by show w.heap.size<=w.heap.size+1;omega)) (.i b)).setCell (p:=(aD w.heap.size 0)) (.inr (jU _)) (.int .i32 0);rcases j with⟨rfl,E,L,S,al,N,am⟩|⟨rfl,E,v1,o1,ao1,⟨D,a5,Z,a2,l,m,u,a0,a1,a3,a4,F,s,_,I⟩,af,ag,ah,ak,ai,aj⟩
  .have M:∀c,c=w.heap.size\/c=w.heap.size+1->¬fpF β sv L c:=λc a aa=>by
    rcases N c aa with h|h
    .have:=k.lies c h;omega
    .omega
   refine⟨.inl rfl,λg y=>⟨B,.inl ⟨y,E,L,S,?_,λc a=>(N c a).imp id (λh=>by omega),am⟩⟩⟩;exact al.on (((CN _ W).setCell (p:=(aD (w.heap.size+1) 0)) (M _ (.inr rfl)) _).setCell (p:=(aD w.heap.size 0)) (M _ (.inl rfl)) _)
  .have ae:¬fpD D (w.heap.size+1):=by
    rintro(a|a|a|⟨t,ht,a⟩)
    .rw[l]at a;omega
    .rw[m,u]at a
     rcases I _ a with a|a
     .have:=k.lies _ a;omega
     .omega
    .rw[F]at a;simp[Value.ownBlock]at a
    .rw[s]at ht;simp at ht
   have G:=(a5.beside (i:=0) ae (.i 0)).lock (st':=0);rw[l]at G;subst Z;refine⟨.inr rfl,λg y=>⟨B,.inr ⟨D,v1,o1,ao1,by rw[l];exact y,G,m,u,a0,a1,a2,a3,a4,s,af,ag,ah,ak,ai,aj,?_⟩⟩⟩;rintro c (a|a|a|⟨t,ht,a⟩)
   .exact .inr (by rw[l]at a;omega)
   .rw[m,u]at a
    exact(I _ a).imp id (λh=>by omega)
   .rw[F]at a;simp[Value.ownBlock]at a
   .rw[s]at ht;simp at ht
 go_enter Tryz.func11,Tryz.ntmps11;go_wp2_with (first
  |(go_at_call 31;apply Calls.m a8;rintro g w' ⟨rfl,aq⟩;subst w')
  |(go_at_call 32;apply Calls.m a7;rintro g X ⟨b,W,rfl,j,rfl⟩;obtain⟨ad,a9⟩:=Y.o b W j;rcases ad with rfl|rfl))
 all_goals go_ret2
 all_goals refine a9 _ ?_
 all_goals simp
open Go.MuLone
abbrev qMo(z:Int):List PanicEntry:=[{v:=.iface 172 (.agg #[.int .i64 z]),recovered:=true}]
def Mv(b z w)(f:cW w b #[.i 0] 48):
  CallsD Tryz.prog 110 #[.p b 0] (.panicking (kH z)) w λe h w'=>e=.r (.tuple #[])/\h=.panicking (qMo z)/\w'=(w.alloc (.cells #[.i z] 172)).setCell (aD b 0) (.i z):=by
 obtain⟨a,c,-,i,-⟩:=al1 w (.cells #[.int .i64 z] 172);have d:cW a b #[.int .i64 0] 48:=c▸aQ _ f;have j:a.cell? (aD w.heap.size 0)=some (.int .i64 z):=by simp[World.cell?,i]
 have k:a.cell? (aD b 0)=some (.int .i64 0):=by simp[World.cell?,d]
 have n:=aA d;have o:∀X,(Instr.typeAssert (.iface 172 (.agg #[.int .i64 z])) 20 172 true).run Tryz.prog X=.ok (.tuple #[.agg #[.int .i64 z],.bool true]) X:=λX=>by kernel_rfl
 refine callsD_of_wpS Tryz.func110 rfl λm l g=>?_;apply wpS_seq;apply wpS_region;simp[wpOpsS,go_sem,recoverD,g,Tryz.ntmps110,Exit.thenS];apply wpS_of_wp;simp only[jR,jO,jP,jT,jE,jF,jV,jZ,jX];go_wp2;rw[c];simp[bodyPostS,results,Tryz.results110]
def Sr(g:Nat)(first d)(m:∀args w,(callFunc g args).run Tryz.prog w=.ok (.enter g args) w)(z w)(R:World->Prop)(h:cL g (first++d) (w.alloc (.cells #[.i 0] 48)) λe w'=>e=.panicked (kH z)/\cW w' w.heap.size #[.i 0] 48/\R w'):
  cL 81 #[.func (.func g) first d] w λe w'=>e=.r (.i z)/\∃W,R W/\w'=(W.alloc (.cells #[.i z] 172)).setCell (aD w.heap.size 0) (.i z):=by
 have n:∀(b:Fn) (first a:Array Value) (w:World),(Instr.makeFunc b first a).run Tryz.prog w=.ok (.func b first a) w:=λ_ _ _ _=>rfl;go_enter_defers Tryz.func81,Tryz.ntmps81;go_wp2_with (fail);apply h.m;rintro e W ⟨rfl,c,i⟩;apply JD (f:=110) (args:=#[.p w.heap.size 0]) (by simp) (by simp[go_sem]);apply(Mv w.heap.size z W c).m;rintro e o p ⟨rfl,rfl,rfl⟩;have l:(W.alloc (.cells #[.i z] 172)).heap[w.heap.size]?=some (.cells #[.i 0] 48):=aQ _ c;have j:(W.alloc (.cells #[.i z] 172)).c w.heap.size 0=some (.i 0):=by simp[World.cell?,l]
 have k:((W.alloc (.cells #[.i z] 172)).setCell (aD w.heap.size 0) (.i z)).c w.heap.size 0=some (.i z):=World.cell?_setCell_same _ _ _ j;simp only[Leaves,settle];refine⟨.i z,?_,rfl,W,i,rfl⟩;simp[results,Tryz.results81,go_sem,k]
def Kh(d)(g:Nat)(first c)(k:∀args w,(callFunc g args).run Tryz.prog w=.ok (.enter g args) w)(z w)(R:World->Prop)(cs)(b:cW w d cs 83)(m:cs[0]?=some (.int .i32 0))(h:cL g (first++c) ((w.setCell (aD d 0) (.int .i32 1)).alloc (.cells #[.i 0] 48)) λe w'=>e=.panicked (kH z)/\cW w' w.heap.size #[.i 0] 48/\(∃a,cW w' d a 83/\a[0]?=some (.int .i32 1))/\R w'):
  cL 32 #[.p d 0,.func (.func g) first c] w λe w'=>e=.r (.i z)/\∃W,R W/\w'=((W.alloc (.cells #[.i z] 172)).setCell (aD w.heap.size 0) (.i z)).setCell (aD d 0) (.int .i32 0):=by
 have j:w.cell? (aD d 0)=some (.int .i32 0):=by simp[World.cell?,b,m]
 have l:w.frozen? (aD d 0)=false:=by simp[World.frozen?,b]
 have r:d<w.heap.size:=(gL b);go_enter_defers Tryz.func32,Tryz.ntmps32;go_wp2_with (first
  |(go_at_call 34;apply(lock_free uX (aD d 0) _ j l).m;rintro e w' ⟨rfl,rfl⟩)
  |(go_at_call 81;apply (Sr g first c k z (w.setCell (aD d 0) (.int .i32 1)) (λw'=>(∃a,cW w' d a 83/\a[0]?=some (.int .i32 1))/\R w') (by simpa using h)).m;rintro e w' ⟨rfl,W,⟨⟨a,q,n⟩,p⟩,rfl⟩))
 have i:(W.alloc (.cells #[.int .i64 z] 172)).heap[d]?=some (.cells a 83):=aQ _ q;apply JD (f:=35) (args:=#[.pointer (some (aD d 0))]) (by simp) (by simp[go_sem]);refine(unlock_deferred uX (aD d 0) .returning _ ?_ ?_).m ?_
 .rw[DV _ _ _ _ (by simp;omega)]
  simp[World.cell?,i,n]
 .rw[World.frozen?_setCell]
  simp[World.frozen?,i]
 rintro e s t ⟨rfl,rfl,rfl⟩;exact⟨_,MJ rfl _ _ _,rfl,W,p,rfl⟩
open Go.Shelf
attribute [local go_sem] CM
def Up(g:Nat)(lb:Array Value)(W:World):Prop:=∀l,CallsIn Fence.wide 0 Tryz.prog g (#[.func (.yield l) #[] #[]]++lb) W λe W'=>e=.panicked (kH 9)/\bW W W'
def sT{n:Nat}{g:Operand}{ps:Array Tmp}{assign body:Code}{Q:Exit->Act->World->Prop}{a:Act}{w:World}{gf:Nat}{lb:Array Value}(hg:a.eval g=.func (.func gf) #[] lb)(eg:∀args w,(callFunc gf args).run Tryz.prog w=.ok (.enter gf args) w)(h:∀W,bW w W->Up gf lb W)(hQ:∀D W,w.heap.size<=D->bW w W->W.heap[D]?=some (.deferred (some []))->Q (.panic (kH 9)) {a with defers:={target:=.collected D,args:=#[]}:: a.defers} W):
  (Code.rangeFunc g ps assign body).wpIn Fence.wide n Tryz.prog Q a w:=by
 apply wpIn_rangeFunc;intro fn L;have⟨rec,H⟩:∃rec:Loop,rec = {state:=.ready,pending:=none,fn,tmps:=a.tmps,params:=ps,assign,body,defers:=w.heap.size}:=⟨_,rfl⟩;have⟨W1,x⟩:=nM ((w.alloc (.deferred (some []))).alloc (.loop rec));have E:W1.heap[w.heap.size]?=some (.deferred (some [])):=by
  rw[<-x];exact(DA _ _ _ (by simp)).t (World.alloc_heap_new w _)
 have I:bW w W1:=x▸(bA _ _).alloc (by simp) _;refine⟨w.heap.size+1,[{target:=.collected w.heap.size,args:=#[]}],W1,{target:=.fn (.func gf) lb,args:=#[.func (.yield (w.heap.size+1)) #[] #[]]},W1,gf,
  #[.func (.yield (w.heap.size+1)) #[] #[]]++lb,W1,by rw[<-x,H];exact run_enterLoop_outer _ _ _ _ _,?_,by intro N M;trivial,by simp[invoke,go_sem,eg],λh=>by simp[Fence.wide]at h,?_⟩
 .simp only[resolve,hg]
  simp[go_sem]
 .refine tR (CallsIn.m (h W1 I (w.heap.size+1)) ?_)
  rintro e W ⟨rfl,J⟩;exact hQ w.heap.size W (jU _) (I.t (J.m I.size)) ((J.block _ (gL E)).t E)
def Rm{n:Nat}{f:Func}{c:Array Value}{R:Ending->World->Prop}{B:Nat}{a:List Deferred}{w:World}(b:Marks B a w)(h:∀w',mP B w w'->R (.panicked (kH 9)) w'):LeavesInM Fence.wide n Tryz.prog f c R a (.panicking (kH 9)) w :=
 iR (by simp) b (λw' o=>h w' o)
def qBx(β:Nat)(sv lv:Value)(fs:Fs)(root:Int)(b:Option Addr)(d c:Nat)(p:Nat)(w:World)(h:aF w β sv lv fs)(n:(fs.life==0)=true):
  cL 138 #[.agg #[.p β 0,.i root,.s b d c],.i p] w λe w'=>e=.panicked (kH 9)/\bW w w':=by
 have⟨a,j⟩:=nM ((w.alloc (.cells #[.p β 0,.i root,.s b d c] 90)).alloc Ls);have f:bW w a:=j▸(bA _ _).alloc (by simp) _;have g:=h.on (vV f h.lies);have i:=fU β sv lv fs a g;rw[n]at i;have o:cW a w.heap.size #[.p β 0,.i root,.s b d c] 90:=j▸aQ _ (aC w _);have q:a.c w.heap.size 0=some (.p β 0):=by simp[World.cell?,o]
 go_enter Tryz.func138,Tryz.ntmps138;go_wp2_with (first
  |(go_at_call 142;apply (mH β sv lv fs p a g).m;rintro e w' ⟨rfl,k⟩;subst w')
  |(go_at_call 49;apply i.m;rintro e w' ⟨rfl,k⟩;subst w')
  |(go_at_call 139;apply (Fy 9 a).m;rintro e w' ⟨rfl,k⟩;subst w'))
 exact⟨rfl,rfl,f⟩
def qBj(β:Nat)(sv lv:Value)(fs:Fs)(root:Int)(b:Option Addr)(d c:Nat)(p:Nat)(s:Sp)(w:World)(h:aF w β sv lv fs)(k:(fs.life==0)=true):
  cL 144 #[.agg #[.p β 0,.i root,.s b d c],.i p,.agg #[.t s.lo,.t s.hi]] w λe w'=>e=.panicked (kH 9)/\bW w w':=by
 have⟨a,g⟩:=nM (((w.alloc (.cells #[.p β 0,.i root,.s b d c] 90)).alloc (.cells #[.t s.lo,.t s.hi] 154)).alloc Ls);have f:bW w a:=g▸((bA _ _).alloc (by simp) _).alloc (by simp;omega) _;have l:cW a w.heap.size #[.p β 0,.i root,.s b d c] 90:=g▸aQ _ (aQ _ (aC w _));have⟨n,o,q⟩:=eC l;go_enter Tryz.func144,Tryz.ntmps144;go_wp2_with (go_at_call 138;apply (qBx β sv lv fs root b d c p a (h.on (vV f h.lies)) k).m;rintro e m ⟨rfl,j⟩);exact⟨rfl,rfl,f.t (j.m f.size)⟩
def Pf(β:Nat)(sv lv:Value)(fs:Fs)(t:(fs.life==0)=true)(root:Int)(g:Option Addr)(j i:Nat)(p:Nat)(s:Sp)(e c f:Nat)(vq:Value)(W:World)(v:cW W e #[.p β 0,.i root,.s g j i] 90)(u:cW W c #[.i p] 3)(w:cW W f #[.t s.lo,.t s.hi] 154)(k:aF W β sv lv fs):Up 161 #[.p e 0,.p c 0,.p f 0,vq] W:=by
 intro l;refine BX Tryz.func161 rfl trivial ?_ rfl;simp only[Tryz.ntmps161,jA,jB,jN,Nat.reduceAdd,Nat.reduceSub,jR,jO,jP,jT,jE,jF];have⟨a,q⟩:=nM (W.alloc (.cells #[.func (.yield l) #[] #[]] 228));have b:bW W a:=q▸(bA _ _);have d:∀{m:Nat}{o:Obj},W.heap[m]?=some o->a.heap[m]?=some o:=λh=>(b.block _ (gL h)).t h;have⟨y,z,A⟩:=eC (d v);have B:a.c c 0=some (.i p):=by simp[World.cell?,d u]
 have⟨C,D⟩:=bY (d w);gi_wp2_with (refine⟨trivial,rfl,?_⟩;gi_at_call 144;apply(AZ.2 (qBj β sv lv fs root g j i p s a (k.on (vV b k.lies)) t)).m;rintro E x ⟨rfl,r⟩);exact⟨rfl,b.t (r.m b.size)⟩
def Ah(β:Nat)(sv lv:Value)(fs:Fs)(z:(fs.life==0)=true)(root:Nat)(hr:root≠0)(g:Option Addr)(k j:Nat)(q:Sp)(n m:Nat)(W:World)(G:cW W n #[.p β 0,.i root,.s g k j] 90)(F:cW W m #[.t q.lo,.t q.hi] 154)(r:aF W β sv lv fs):Up 134 #[.p n 0,.p m 0] W:=by
 intro l;refine BX Tryz.func134 rfl trivial ?_ rfl;simp only[Tryz.ntmps134,jA,jB,jN,Nat.reduceAdd,Nat.reduceSub,jR,jO,jP,jT,jE,jF];have⟨b,w⟩:=nM (W.alloc (.cells #[.func (.yield l) #[] #[]] 200));have e:bW W b:=w▸(bA _ _);have t:∀{a:Nat}{o:Obj},W.heap[a]?=some o->b.heap[a]?=some o:=λh=>(e.block _ (gL h)).t h;have⟨H,I,J⟩:=eC (t G);have⟨K,L⟩:=bY (t F);have N:((root:Int)==0)=false:=by simp;omega
 gi_wp2_with (refine⟨trivial,rfl,?_⟩;gi_at_call 135;apply(AZ.2 (tE root root β g k j Sp.all q b)).m;rintro M f ⟨rfl,A,C,E,O,x⟩);have c:bW W f:=e.t (x.m e.size);refine sT rfl (enters_of Tryz.func161 (by kernel_rfl) rfl) (λX d=>?_) (λD X u d y=>Rm (B:=f.heap.size) ⟨[D],rfl,by simp,λT h=>by rw[AJ.1 h];exact⟨u,y⟩⟩ (λU v=>⟨rfl,c.t ((d.t v.below).m c.size)⟩))
 .have a:∀{i:Nat}{s:Obj},f.heap[i]?=some s->X.heap[i]?=some s:=λh=>(d.block _ (gL h)).t h
  exact Pf β sv lv fs z root g k j root Sp.all _ _ _ _ X (a A) (a C) (a E) (r.on (vV (c.t (d.m c.size)) r.lies))
def qBc(a:Nat)(j:Array Value)(p:∀args w,(callFunc a args).run Tryz.prog w=.ok (.enter a args) w)(f:Option Addr)(i g:Nat)(d e:Nat)(W:World)(h:∀X,bW W X->Up a j X)(m:cW W d #[.s f i g] 88)(n:cW W e #[.func (.func a) #[] j] 151):Up 195 #[.p d 0,.p e 0] W:=by
 intro l;refine BX Tryz.func195 rfl trivial ?_ rfl;simp only[Tryz.ntmps195,jA,jB,jN,Nat.reduceAdd,Nat.reduceSub,jR,jO,jP,jT,jE,jF];have⟨c,s⟩:=nM ((W.alloc (.cells #[.func (.yield l) #[] #[]] 200)).alloc (.cells #[.s f i g] 88));have b:bW W c:=s▸(bA _ _).alloc (by simp) _;have u:W.c d 0=some (.s f i g):=by simp[World.cell?,m]
 have x:W.c e 0=some (.func (.func a) #[] j):=by simp[World.cell?,n]
 have o:bW W (W.alloc (.cells #[.func (.yield l) #[] #[]] 200)):=bA _ _;have v:(W.alloc (.cells #[.func (.yield l) #[] #[]] 200)).cell? (aD d 0)=some (.s f i g):=by simp[World.cell?,(o.block _ (gL m)).t m]
 have y:c.c e 0=some (.func (.func a) #[] j):=by simp[World.cell?,(b.block _ (gL n)).t n]
 gi_wp2;refine sT rfl p (λX k=>h X (b.t (k.m b.size))) (λD X q k t=>?_);exact Rm (B:=c.heap.size) ⟨[D],rfl,by simp,λE h=>by rw[AJ.1 h];exact⟨q,t⟩⟩ (λH r=>⟨rfl,b.t ((k.t r.below).m b.size)⟩)
def Mk(β:Nat)(sv lv:Value)(fs:Fs)(C:(fs.life==0)=true)(root:Nat)(hr0:root≠0)(d:Option Addr)(f:Nat)(cs:List Ch)(q:Sp)(S:Bl)(w:World)(u:aF w β sv lv fs)(y:aH w S d (cs.flatMap Ch.cells))(z:lW S w)(hr:cF cs)(hn:cs.length<=1000000)(A:cs.length<=f)(B:(d=none/\f=0)\/∃b D,d=some (aD b D)):
  cL 165 #[.agg #[.p β 0,.i root,.s d cs.length f],.t q.lo,.t q.hi] w λe w'=>∃m,e=.r (.func (.func 195) #[] m)/\(∀X,bW w' X->Up 195 m X)/\bW w w' :=
 Bn β root d f cs q S w y z hr hn A B (λm w'=>∀X,bW w' X->Up 195 m X) (λE n t s I H x a c L G F r J K X k=>by
  have l:∀{j:World}{i:Nat}{g:Obj},bW n j->n.heap[i]?=some g->j.heap[i]?=some g:=λo h=>(o.block _ (gL h)).t h;have v:∀{i:Nat}{g:Obj},E.heap[i]?=some g->n.heap[i]?=some g:=λh=>(x.block _ (gL h)).t h;refine qBc _ _ (enters_of Tryz.func134 (by kernel_rfl) rfl) a _ c (s+1) s X (λj o=>?_) (l k F) (l k G);have p:=k.t (o.m k.size);exact Ah β sv lv fs C root hr0 d cs.length f q t (t+1) j (l p (v I)) (l p (v H)) (u.on (vV (r.t (p.m r.size)) u.lies)))
def Gu{w:World}{b a o o':Nat}{v u:Value}(c:a≠b)(h:w.cell? (aD b o)=some u):(w.setCell (aD a o') v).cell? (aD b o)=some u:=by
 rw[DV _ _ _ _ (by simp[c])];exact h
def qCz(β:Nat)(sv lv:Value)(fs:Fs)(ka:Option Addr)(kc:Nat)(keep:List Int)(S:Bl)(w:World)(h:aF w β sv lv fs)(hsz:∀p (h:p<fs.safe.length),(fs.safe[p]).size=256)(hlz:∀x∈fs.late,x.2.size=256)(hfit:fs.fits)(hR:aH w S ka (keep.map (.int .i64)))(hS:∀k,S k->k<w.heap.size/\¬fpF β sv lv k)(hkn:keep.length<=9223372036854775807):
  cL 16 #[.p β 0,.s ka keep.length kc] w λe w'=>(∃v,e=.r v)/\∃safe',jM fs.safe fs.late safe'/\aF w' β sv .n {fs with safe:=safe',late:=[],wait:=-1,life:=-1}/\Fr (fpF β sv lv) w w':=by
 obtain⟨sa,sc,rfl⟩:=aG h.safe;obtain⟨la,lc,rfl⟩:=aG h.late;have hsm:=h.small;have hfw:=h.few;go_enter Tryz.func16,Tryz.ntmps16;go_wp2;go_loopw [4] (λi wr=>∃(j:Nat) (cur:List ByteArray),i=.i j/\j<=fs.late.length/\Hid (jM fs.safe fs.late cur)/\aF wr β (.s sa fs.safe.length sc) (.s la fs.late.length lc) {fs with safe:=cur}/\Fr (fpF β (.s sa fs.safe.length sc) (.s la fs.late.length lc)) w wr) (λi _=>fs.late.length-(intOf i).toNat)
 case atStart=>exact⟨0,fs.safe,rfl,AG _,Mq hsz,h,AE _ _⟩
 case round =>
  obtain⟨j,cur,rfl,hj,HC,hf,hF⟩:=hrel;have⟨c0,c1,c2,c3,c4⟩:=cV hf.box;by_cases hlt:j<fs.late.length
  .have hlti:(j:Int)<(fs.late.length:Int):=by omega
   have⟨q1,q2⟩:=tU (l:=fs.late) (j:=j) hlt;have⟨g,hg,hglt,hgc,hgv⟩:=iO hf.late q1;have⟨g',hg',_,_,hgv'⟩:=iO hf.late q2;subst hg;cases hg'
   have hp:=hfit _ (AA hlt);have⟨x,hx⟩:=nM (fs.late[j]);rw[hx]at hgv hgv' hp;have nB:=aC wr (.cells #[.i x.1,.t x.2] 104);have⟨W0,hW0⟩:=nM (wr.alloc (.cells #[.i x.1,.t x.2] 104));have b0:bW wr W0:=hW0▸(bA _ _);rw[hW0]at nB;have HX:Hid (x∈fs.late):=hx▸AA hlt;go_wp2;have⟨bx,hbx⟩:=nM (wr.heap.size);rw[hbx]at nB⊢;have HBX:Hid (w.heap.size<=bx):=by have:=hF.size;show _<=_;omega
   go_loopw [6] (λkk wr=>∃(m:Nat) (cur:List ByteArray),kk=.i m/\m<=4/\Hid (jM fs.safe fs.late cur)/\Hid (aF wr β (.s sa fs.safe.length sc) (.q g fs.late.length lc) {fs with safe:=cur})/\Hid (Fr (fpF β (.s sa fs.safe.length sc) (.q g fs.late.length lc)) w wr)/\Hid (cW wr bx #[.i x.1,.t x.2] 104)) (λkk _=>4-(intOf kk).toNat)
   case atStart=>exact⟨0,cur,rfl,by omega,HC,hf.on (vV b0 hf.lies),hF.t (AB b0),nB⟩
   case round =>
    obtain⟨m,cur,rfl,hm,HC,HF,HFr,HB⟩:=hrel;by_cases hm4:m<4
    .have hmi:(m:Int)<4:=by omega
     by_cases hn:4 * j+m<keep.length
     .have hni:¬((keep.length:Int)<=4 * (j:Int)+(m:Int)):=by omega
      have hn4:4 * (j:Int)+(m:Int)<(keep.length:Int):=by omega
      have⟨y,hy⟩:=nM (keep[4 * j+m]'hn);have hRw:=hR.on (HFr.on (λk hk=>hS k hk));rcases hRw with h0|⟨rb,off,rfl,hrb,hRc⟩
      .have:=CI List.length h0
       rw[AF,jN]at this;omega
      have hcell:=hRc _ _ (by rw[BN,jQ hn,hy];rfl);have htn:(4 * (j:Int)+(m:Int)).toNat=4 * j+m:=by omega
      clear hRc hy;have hxl:x.1<cur.length:=by rw[HC.o.len];exact hp
      have hSr:wr.ownsRow 0 9 1 (.s sa fs.safe.length sc) fs.safe.length (cur.map .string):=by have:=HF.safe;simp only[HC.o.len]at this;exact this
      have⟨sg,hsg,hsl,hsc,hsv⟩:=iO hSr (j:=x.1) (u:=.t cur[x.1]) (by simp[hxl]);subst hsg;have hxi:(x.1:Int)<(fs.safe.length:Int):=by omega
      have⟨d0,d1,d2,d3,d4⟩:=cV HF.box;have⟨e0,e1⟩:wr.c bx 0=some (.i x.1)/\wr.c bx 1=some (.t x.2):=by simp[World.cell?,HB.o]
      have sfr:=KP (w:=wr) hSr;have hS256:(cur[x.1]).size=256:=HC.size _ hxl;have hD256:x.2.size=256:=hlz x HX;have⟨s,hs⟩:=nM (cur[x.1]);rw[hs]at hsv hS256;have HSS:Hid (cur[x.1]=s):=hs;clear hs;go_wp2
      .exact⟨⟨m+1,cur,by go_num,by omega,HC,HF,HFr,HB⟩,by simp[intOf];omega⟩
      .go_region_held3 (λX=>X.c β 0=some (.q sg fs.safe.length sc)/\X.c bx 0=some (.i x.1)/\X.c bx 1=some (.t x.2)/\X.cell? (aD sg x.1)=some (.t s))
        ((first|exact⟨d0,e0,e1,hsv⟩))
        (fail)
       all_goals go_wp2
       have h64:(m:Int) * 256 / 4=((64 * m:Nat):Int):=by omega
       have⟨f,hf64⟩:=nM (64 * m);have HF64:Hid (64 * m=f):=hf64;rw[h64,hf64];have hb0:(0:Int)<=(f:Int):=by omega
       have hb1:(f:Int)<=(s.size:Int):=by omega
       have hb2:(f:Int)<=(f:Int)+64:=by omega
       have hb3:(f:Int)+64<=(x.2.size:Int):=by omega
       have hb4:(f:Int)+64<=(s.size:Int):=by omega
       have hb5:(0:Int)<=(f:Int)+64:=by omega
       have HS256:Hid (s.size=256):=hS256;have HD256:Hid (x.2.size=256):=hD256;have nsb:sg≠β:=λe=>aP hSr HF.box (by decide) (by rw[e];rfl);have nsx:sg≠bx:=λe=>aP hSr HB (by decide) (by rw[e];rfl);have hq1:¬(9223372036854775807<min f s.size+(min (f+64) x.2.size-f)):=by omega
       have hq2:¬(9223372036854775807<min f s.size+(min (f+64) x.2.size-f)+(s.size-(f+64))):=by omega
       have hfn:((f:Int)+64).toNat=f+64:=by omega
       clear hS256 hD256 hf64 h64;refine wp_region_held_drew (S:=(λX=>X.c β 0=some (.q sg fs.safe.length sc)/\X.c bx 0=some (.i x.1)/\X.c bx 1=some (.t x.2))) (by kernel_rfl) ⟨d0,e0,e1⟩ (λhHeld=>?_);change wpAnyH _ _ _ _ _ 21 (.replicate 21 false) _ _;apply cJ.take [(0,60,.p β 0),(1,61,.p β 0),(2,62,.p β 0),(3,63,.q sg fs.safe.length sc),(4,64,.p bx 0),(5,65,.i x.1),(6,66,.t s),(7,67,.i f),(8,68,.t (s.extract 0 f)),(9,69,.p bx 1),(10,70,.t x.2),(11,71,.i f),(12,72,.i (f+64)),(13,73,.t (x.2.extract f (f+64))),(14,74,.t (s.extract 0 f++x.2.extract f (f+64))),(15,75,.t s),(16,76,.i (f+64)),(17,77,.t (s.extract (f+64) s.size)),(18,78,.t (s.extract 0 f++x.2.extract f (f+64)++s.extract (f+64) s.size)),(19,79,.pointer (some (aD sg x.1)))] (n:=1) (by kernel_rfl) (by assumption);iterate 20 (refine⟨_,rfl,rfl,by kernel_rfl,λ_ _ _ h=>h,.inl ⟨by rfl,λX hX=>by(try dsimp only at hX);go_simp⟩,?_⟩;simp only[pS])
       rw[cJ];refine wH1 (i:=20) (by kernel_rfl) rfl λK hK=>?_;go_simp;refine hK _ _ ⟨Gu nsb d0,Gu nsx e0,Gu nsx e1⟩ (λhHeld=>?_);clear hK K;refine wpAnyH_done (by kernel_rfl) ?_ _
       all_goals go_wp2
       have hto:s.extract 0 f++x.2.extract f (f+64)++s.extract (f+64) s.size=Hm s x.2 m:=by rw[HS256.o,<-HF64.o];exact Ts s x.2 m HS256 HD256 hm4
       rw[hto];refine⟨⟨m+1,cur.set x.1 (Hm s x.2 m),by go_num,by omega,?_,(HF.o.stored (p:=x.1) (data:=Hm s x.2 m) HC.o.len.symm).on (CN _ _).drew.drew,((HFr.setCell (p:=(aD sg x.1)) (.inl (.inr (.inl rfl))) _).drew).drew,(CY wr (aD sg x.1) _ bx (λe=>nsx e.symm)).t HB⟩,by simp[intOf];omega⟩;have:=HC.step HX HD256 hxl hm4;rw[HSS.o]at this;exact this
     .have hni:(keep.length:Int)<=4 * (j:Int)+(m:Int):=by omega
      go_wp2;exact⟨⟨m+1,cur,by go_num,by omega,HC,HF,HFr,HB⟩,by simp[intOf];omega⟩
    .obtain rfl:m=4:=by omega
     go_wp2;exact⟨⟨j+1,cur,by go_num,by omega,HC,HF,HFr⟩,by simp[intOf];omega⟩
  .obtain rfl:j=fs.late.length:=by omega
   have b1:=aB hf.box 1 .n;have b2:=aB b1 2 (.i (-1));have b3:=aB b2 3 (.i (-1));have hfr:=aA hf.box;have F:Fr (Bl.one β) wr (((wr.setCell (aD β 1) .n).setCell (aD β 2) (.i (-1))).setCell (aD β 3) (.i (-1))):=(((AE (Bl.one β) wr).setCell (p:=(aD β 1)) (.inl rfl) _).setCell (p:=(aD β 2)) (.inl rfl) _).setCell (p:=(aD β 3)) (.inl rfl) _;have hne:(Value.slice sa fs.safe.length sc).ownBlock≠some β:=aP hf.safe hf.box (by decide);have HFF:Hid (aF (((wr.setCell (aD β 1) .n).setCell (aD β 2) (.i (-1))).setCell (aD β 3) (.i (-1))) β (.s sa fs.safe.length sc) .n {fs with safe:=cur,late:=[],wait:=-1,life:=-1}):=
    ⟨by simpa using b3,aS hf.safe (F.on (Z:=λk=>Value.ownBlock _=some k) (λk hk=>⟨aK hf.safe hk,λe=>by cases e;exact hne hk⟩)) (λk hk=>hk),AL _ _ _ _,hf.small,by simp⟩
   have HFr:Hid (Fr (fpF β (.s sa fs.safe.length sc) (.s la fs.late.length lc)) w (((wr.setCell (aD β 1) .n).setCell (aD β 2) (.i (-1))).setCell (aD β 3) (.i (-1)))):=hF.t (F.m (λk hk=>.inl (.inl hk)));clear b1 b2 b3 F hne hf hF;go_wp2;go_end0;exact⟨⟨_,rfl⟩,cur,HC,HFF,HFr⟩
