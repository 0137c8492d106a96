import Derived.Shelf.RegionOpen
import Derived.LoopNIn
import Derived.LoopIn
import Derived.Test.YtdhgdcjmhofhaaaGreatD18
import Derived.Test.YtdhgdcjmhofhaaaGreatD19
set_option linter.all false
set_option maxRecDepth 100000
set_option maxHeartbeats 8000000
namespace Go.Proofs.YtdhgdcjmhofhaaaGreat.Tree
open Go.RowKit Go.Shelf Pages
attribute [local go_sem] CM
def rI(x:Int×Sp)(args:Array Value)(S:Bl)(w:World):Prop:=args=#[.int .i64 x.1,spV x.2]
theorem mY(bw bp s kind ver root next ka ia ea kc ic en ec data keys kids Rd w)(hw:w.heap[bw]?=some (.cells #[.string s.lo,.string s.hi] 154))(hp:w.heap[bp]?=some (.cells #[.i kind,.i ver,.i root,.i next,.slice ka keys.length kc,.slice ia kids.length ic,.slice ea en ec,.string data] 80))(hK:aD w Rd ka (keys.map .string))(hI:aD w Rd ia (kids.map (.int .i64)))(rw_:Rd bw)(rp:Rd bp)(hkn:keys.length<=1000)(hin:kids.length<=1000)(hkc:keys.length<=kc)(hic:kids.length<=ic):
  oD Tryz.prog 167 #[.p bw 0,.p bp 0] rI (parts s keys kids) Rd w:=by
 intro l J Jx Y W hon hRd sJ lJ sJx lJx hY h0;refine JS Tryz.func167 rfl trivial ?_ rfl;simp only[Tryz.ntmps167,jA,jB,jN,Nat.reduceAdd,Nat.reduceSub,jR,jO,jP,jT,jE,jF];have hw1:=hon.heap hw rw_;have hp1:=hon.heap hp rp;have⟨a0,a1⟩:=bS hw1;have⟨e0,e1,e2,e3,e4,e5,e6,e7⟩:=bM hp1;have lw:=(hRd bw rw_).2;have lp:=(hRd bp rp).2;have hF0:∀Z v,Fr Z W (W.alloc (.cells v 154)):=λZ v=>(AF Z W).alloc _;have hb0:=aA W (.cells #[.string s.lo,.string s.hi] 154);have lY:=lJ [] Y W h0;have HA:Hid (∀j (hj:j<kids.length),(parts s keys kids)[j]?=some (kids[j],⟨kV s keys j,pF s keys j⟩)):=λj hj=>fH s keys kids j hj;have HL:Hid ((parts s keys kids).length=kids.length):=cI s keys kids;gi_wp2;gi_loopw [11] (λi wr=>∃(j:Nat) (Yr:Bl) (hi:ByteArray),j<=kids.length/\i=.i j/\J ((parts s keys kids).take j) Yr wr/\Fr Y W wr/\aJ W Y Yr/\¬Yr W.heap.size /\
   wr.heap[W.heap.size]?=some (.cells #[.string (kV s keys j),.string hi] 154)) (λi _=>kids.length-(intOf i).toNat)
 case atStart =>
  exact⟨0,Y,s.hi,AH _,rfl,by simpa using sJ _ _ _ _ h0 ((CJ Y W).alloc lY _),hF0 _ _,CQ _ _,λh=>Nat.lt_irrefl _ (lY _ h),hb0⟩
 case round =>
  obtain⟨j,Yr,hi,hj,rfl,hJ,hF,hG,hn,hbox⟩:=hrel;have oR:On Rd W wr:=hF.on (λk hk=>⟨(hRd k hk).2,(hRd k hk).1⟩);have⟨b0,b1⟩:=bS (oR.heap hw1 rw_);have⟨f0,f1,f2,f3,f4,f5,f6,f7⟩:=bM (oR.heap hp1 rp);have⟨d0,d1⟩:=bS hbox;have dfr:=aB hbox;have lwr:=hF.size;clear a0 a1 e0 e1 e2 e3 e4 e5 e6 e7 hb0 hF0;by_cases hlt:j<kids.length
  ·have⟨ib,io,hia,hib,hic2⟩:=((hI.on hon).on oR).at hlt
   subst hia;have nbw:W.heap.size≠bw:=by omega
   have nbp:W.heap.size≠bp:=by omega
   have nib:W.heap.size≠ib:=by have:=(hRd ib hib).2;omega
   by_cases hk:j<keys.length
   ·have⟨kb,ko,hka,hkb,hkc2⟩:=((hK.on hon).on oR).at hk
    subst hka;have nkb:W.heap.size≠kb:=by have:=(hRd kb hkb).2;omega
    have⟨w1,hw1d⟩:=nM ((wr.setCell ⟨W.heap.size,1,none⟩ (.string s.hi)).setCell ⟨W.heap.size,1,none⟩ (.string keys[j]));have hhi:pF s keys j=keys[j]:=by simp[pF,hk]
    have x1:w1.heap[W.heap.size]?=some (.cells #[.string (kV s keys j),.string (keys[j])] 154):=by
     rw[<-hw1d];have:=aC (aC hbox 1 (.string s.hi)) 1 (.string keys[j]);simpa using this
    have f1r:Fr (Bl.one W.heap.size) wr w1:=by rw[<-hw1d];exact((AF (Bl.one W.heap.size) wr).setCell (p:=⟨W.heap.size,1,none⟩) (.inl rfl) _).setCell (p:=⟨W.heap.size,1,none⟩) (.inl rfl) _
    have f1:Fr Y W w1:=hF.grow f1r (λk hk=>.inr (by simp only[Bl.one]at hk;omega));have o1:On Yr wr w1:=f1r.on (λk hk=>⟨lJ _ _ _ hJ k hk,λh=>by simp only[Bl.one]at h;subst h;exact hn hk⟩);have pA:=HA j hlt;have⟨fn,tmps,assign,body,hy,hR⟩:=hY _ _ _ #[.i kids[j],.agg #[.string (kV s keys j),.string (keys[j])]] Bl.none Yr w1 (rT pA) (sJ _ _ _ _ hJ o1) (by simp[rI,spV,hhi]) (λ_ h=>h.elim) f1 hG;have⟨m0,m1⟩:=bS x1;have⟨p0,p1,p2,p3,p4,p5,p6,p7⟩:=bM (f1r.heap (oR.heap hp1 rp) (λh=>nbp h.symm));gi_wp2;clear hy;refine⟨rfl,(dM hR).mono ?_⟩;have tk:=nG pA;have HT:Hid ((parts s keys kids).take (j+1)=(parts s keys kids).take j++[(kids[j],⟨kV s keys j,pF s keys j⟩)]):=tk;have HHI:Hid (pF s keys j=keys[j]):=hhi;clear tk hhi pA;rintro e W3 (⟨rfl,Y3,hJ3,hF3,hG3⟩|⟨rfl,Y3,hJ3,hF3,hG3⟩)
    ·have x3:=hF3.heap x1 hn
     have⟨g0,g1⟩:=bS x3;have gfr:=aB x3;have n3:¬Y3 W.heap.size:=λh=>by
      rcases hG3 _ h with h'|h'
      ·exact hn h'
      ·have:=(gL x1);omega
     have F3:Fr Y W W3:=f1.grow hF3 hG;have G3:aJ W Y Y3:=hG.trans f1.size hG3;have y3:=aC x3 0 (.string (keys[j]));clear d0 d1 dfr b0 b1 f0 f1r f2 f3 f4 f5 f6 f7 hbox hJ hI hK;gi_wp2;go_roundw
     case rel =>
      refine⟨j+1,Y3,keys[j],by omega,by go_num,?_,F3.setCell (.inr (jU _)) _,G3,n3,?_⟩
      ·rw[HT.out]
       exact sJ _ _ _ _ hJ3 ((CJ _ _).setCell n3 _)
      ·rw[Ih,HHI.out]
       simpa using y3
     case measure=>simp[intOf];omega
    ·clear d0 d1 dfr b0 b1 f0 f1r f2 f3 f4 f5 f6 f7 hbox hJ hI hK
     gi_wp2;apply BI (EG rfl _ _ _) rfl;exact⟨⟨_,rfl⟩,Y3,f1.grow hF3 hG,hG.trans f1.size hG3,.inr ⟨_,by rw[<-HT.out];exact JL _ _,by simp,hJ3⟩⟩
   ·skip
    have⟨w1,hw1d⟩:=nM (wr.setCell ⟨W.heap.size,1,none⟩ (.string s.hi));have hhi:pF s keys j=s.hi:=by simp[pF,hk]
    have x1:w1.heap[W.heap.size]?=some (.cells #[.string (kV s keys j),.string (s.hi)] 154):=by
     rw[<-hw1d];have:=aC hbox 1 (.string s.hi);simpa using this
    have f1r:Fr (Bl.one W.heap.size) wr w1:=by rw[<-hw1d];exact(AF (Bl.one W.heap.size) wr).setCell (p:=⟨W.heap.size,1,none⟩) (.inl rfl) _
    have f1:Fr Y W w1:=hF.grow f1r (λk hk=>.inr (by simp only[Bl.one]at hk;omega));have o1:On Yr wr w1:=f1r.on (λk hk=>⟨lJ _ _ _ hJ k hk,λh=>by simp only[Bl.one]at h;subst h;exact hn hk⟩);have pA:=HA j hlt;have⟨fn,tmps,assign,body,hy,hR⟩:=hY _ _ _ #[.i kids[j],.agg #[.string (kV s keys j),.string (s.hi)]] Bl.none Yr w1 (rT pA) (sJ _ _ _ _ hJ o1) (by simp[rI,spV,hhi]) (λ_ h=>h.elim) f1 hG;have⟨m0,m1⟩:=bS x1;have⟨p0,p1,p2,p3,p4,p5,p6,p7⟩:=bM (f1r.heap (oR.heap hp1 rp) (λh=>nbp h.symm));gi_wp2;clear hy;refine⟨rfl,(dM hR).mono ?_⟩;have tk:=nG pA;have HT:Hid ((parts s keys kids).take (j+1)=(parts s keys kids).take j++[(kids[j],⟨kV s keys j,pF s keys j⟩)]):=tk;have HHI:Hid (pF s keys j=s.hi):=hhi;clear tk hhi pA;rintro e W3 (⟨rfl,Y3,hJ3,hF3,hG3⟩|⟨rfl,Y3,hJ3,hF3,hG3⟩)
    ·have x3:=hF3.heap x1 hn
     have⟨g0,g1⟩:=bS x3;have gfr:=aB x3;have n3:¬Y3 W.heap.size:=λh=>by
      rcases hG3 _ h with h'|h'
      ·exact hn h'
      ·have:=(gL x1);omega
     have F3:Fr Y W W3:=f1.grow hF3 hG;have G3:aJ W Y Y3:=hG.trans f1.size hG3;have y3:=aC x3 0 (.string (s.hi));clear d0 d1 dfr b0 b1 f0 f1r f2 f3 f4 f5 f6 f7 hbox hJ hI hK;gi_wp2;go_roundw
     case rel =>
      refine⟨j+1,Y3,s.hi,by omega,by go_num,?_,F3.setCell (.inr (jU _)) _,G3,n3,?_⟩
      ·rw[HT.out]
       exact sJ _ _ _ _ hJ3 ((CJ _ _).setCell n3 _)
      ·rw[Ih,HHI.out]
       simpa using y3
     case measure=>simp[intOf];omega
    ·clear d0 d1 dfr b0 b1 f0 f1r f2 f3 f4 f5 f6 f7 hbox hJ hI hK
     gi_wp2;apply BI (EG rfl _ _ _) rfl;exact⟨⟨_,rfl⟩,Y3,f1.grow hF3 hG,hG.trans f1.size hG3,.inr ⟨_,by rw[<-HT.out];exact JL _ _,by simp,hJ3⟩⟩
  ·obtain rfl:j=kids.length:=by omega
   have HJ:Hid (J (parts s keys kids) Yr wr):=by
    have e:(parts s keys kids).take kids.length=parts s keys kids:=by rw[<-HL.out];exact BG
    rw[e]at hJ;exact hJ
   clear hJ;gi_wp2;go_end0;exact⟨⟨_,rfl⟩,Yr,hF,hG,.inl HJ⟩
attribute [local go_sem] CM
def fA(fs:Fs):Nat->Nat->List (Nat×Pg)->Prop
 |_,rest,[]=>rest=0
 |place,rest,x :: l=>x.1=place/\0<rest/\fs.has place x.2/\x.2.kind=4/\x.2.data.size=min rest 240/\∃nx:Nat,x.2.next=nx/\(nx=0↔rest-x.2.data.size=0)/\fA fs nx (rest-x.2.data.size) l
def qGl(x:Nat×Pg)(args:Array Value)(S:Bl)(w:World):Prop:=∃v,args=#[.int .i64 x.1,v]/\qBn w S x.2 v
theorem eQ{w:World}{β a b c t}(h:w.heap[β]?=some (.cells #[a,b,c] t)):w.c β 0=some a/\w.c β 1=some b/\w.c β 2=some c:=by
 simp[World.cell?,h]
theorem Fi(be bt β sv lv fs root ca cn cc k v size over xs Rd w)(he:w.heap[be]?=some (.cells #[.string k,.string v,.i size,.i over] 69))(ht:w.heap[bt]?=some (.cells (tA β root ca cn cc) 90))(hf:aH w β sv lv fs)(hl:(fs.life==0)=false)(re:Rd be)(rt:Rd bt)(rf:∀k,fpF β sv lv k->Rd k)(hsz:size<=1000000)(ho:(over=0/\xs=[])\/(0<over/\fA fs over size xs)):
  oD Tryz.prog 137 #[.p be 0,.p bt 0] qGl xs Rd w:=by
 intro l J Jx Y W hon hRd sJ lJ sJx lJx hY h0;refine JS Tryz.func137 rfl trivial ?_ rfl;simp only[Tryz.ntmps137,jA,jB,jN,Nat.reduceAdd,Nat.reduceSub,jR,jO,jP,jT,jE,jF];have⟨a0,a1,a2,a3⟩:=iM (hon.heap he re);have le_:=(hRd be re).2;have lt_:=(hRd bt rt).2;have lY:=lJ [] Y W h0;rcases ho with⟨rfl,rfl⟩|⟨hov,hch⟩
 ·gi_wp2
  apply BI (EG rfl _ _ _) rfl;exact⟨⟨_,rfl⟩,Y,AF _ _,CQ _ _,.inl h0⟩
 ·have hovb:((over:Int)==0)=false:=by simp;omega
  have HC:Hid (fA fs over size xs):=hch;clear hch;gi_wp2;gi_loopw [4,5] (λpl rs wr=>∃(q r:Nat) (pre post:List (Nat×Pg)) (Yr:Bl),pl=.i q/\rs=.i r/\r<=1000000/\xs=pre++post/\fA fs q r post/\J pre Yr wr/\Fr Y W wr/\aJ W Y Yr) (λ_ rs _=>(intOf rs).toNat)
  case atStart=>exact⟨over,size,[],xs,Y,rfl,rfl,hsz,rfl,HC,h0,AF _ _,CQ _ _⟩
  case round =>
   obtain⟨q,r,pre,post,Yr,rfl,rfl,hr,hx,hch,hJ,hF,hG⟩:=hrel;have oR:=hF.on (λk hk=>⟨(hRd k hk).2,(hRd k hk).1⟩);have ht2:=oR.heap (hon.heap ht rt) rt;have hf2:=(hf.on (hon.mono rf)).on (oR.mono rf);have⟨b0,b1,b2⟩:=eQ ht2;cases post with
   |nil =>
    obtain rfl:r=0:=hch;have HX:Hid (J xs Yr wr):=by show J xs Yr wr;grind
    gi_wp2;go_end0;exact⟨⟨_,rfl⟩,Yr,hF,hG,.inl HX⟩
   |cons x post =>
    obtain⟨rfl,hr0,hhas,hk4,hds,nx,hnx,hiff,hrest⟩:=hch;have⟨q,g⟩:=x;dsimp only at *;have hrp:(0:Int)<(r:Int):=by omega
    have k4:(g.kind==4)=true:=by simp[hk4]
    have⟨m,hm⟩:∃m,m=r-g.data.size:=⟨_,rfl⟩;rw[<-hm]at hrest hiff;have⟨bz,hbz⟩:∃bz,bz=decide (m=0):=⟨_,rfl⟩;have e1:(g.next==0)=bz:=by
     grind
    have e2:((m:Int)==0)=bz:=by
     grind
    have hsub:(r:Int)-(g.data.size:Int)=(m:Int):=by omega
    have HM:Hid (m<r/\m<=1000000):=by show _/\_;omega
    have HNX:Hid (g.next=(nx:Int)):=hnx;have HX:Hid (xs=pre++(q,g):: post):=hx;have HREST:Hid (fA fs nx m post):=hrest;have hLd:=Dx β sv lv fs root ca cn cc q g wr hf2 hl hhas;have hsplit:(r<=240/\((g.data.size:Int) != (r:Int))=false)\/(240<r/\((g.data.size:Int) != 240)=false):=by
     grind
    have HK:Hid (g.kind=4):=hk4;clear hk4 hds hnx hx hrest hiff hm hbz hhas;rcases hsplit with⟨hr2,hne⟩|⟨hr2,hne⟩
    all_goals
     gi_wp2_with (refine⟨trivial,rfl,?_⟩;gi_at_call 138;apply(BK.2 hLd).mono;rintro e W2 ⟨vv,rfl,⟨ka,ia,ea,kc,ic,ec,rfl,q1,q2,q3,qq⟩,hb2⟩;obtain⟨W3,hW3,-,x3,-⟩:=al1 W2 (pgO g ka ia ea kc ic ec);have⟨m0,m1,m2,m3,m4,m5,m6,m7⟩:=bM x3;have f3:Fr Bl.none wr W3:=(AA hb2).trans (hW3▸(AF _ W2).alloc _);have F3:Fr Y W W3:=hF.trans (f3.mono (λ_ h=>h.elim));have hJ3:=sJ _ _ _ _ hJ (f3.on (λk hk=>⟨lJ _ _ _ hJ k hk,λh=>h⟩));have o3:On (New wr W2) W2 W3:=hW3▸(CJ _ W2).alloc (λk hk=>hk.2) _;have l3:∀k,New wr W2 k->¬Yr k/\k<W3.heap.size:=(λk hk=>⟨λhy=>by have:=lJ _ _ _ hJ k hy;have:=hk.1;omega,jY hk.2 o3.size⟩);obtain⟨fn,tmps,assign,body,hy,hR⟩:=hY pre (q,g) post #[.i q,.agg #[.i 4,.i g.ver,.i g.root,.i g.next,.slice ka g.keys.length kc,.slice ia g.kids.length ic,.slice ea g.ents.length ec,.string g.data]] (New wr W2) Yr W3 HX hJ3 ⟨_,rfl,ka,ia,ea,kc,ic,ec,by rw[HK.out],q1.on o3,q2.on o3,q3.on o3,qq⟩ l3 F3 hG);refine⟨rfl,(dM hR).mono ?_⟩;clear hy hR hLd;rintro e W4 (⟨rfl,Y4,hJ4,hF4,hG4⟩|⟨rfl,Y4,hJ4,hF4,hG4⟩)
     ·have⟨n0,n1,n2,n3,n4,n5,n6,n7⟩:=bM (hF4.heap x3 (λhy=>by have:=lJ _ _ _ hJ _ hy;have:=hb2.size;omega));gi_wp2;go_roundw
      case rel=>exact⟨nx,m,pre++[(q,g)],post,Y4,by rw[HNX.out],rfl,HM.2,by rw[HX.out];simp,HREST,hJ4,F3.grow hF4 hG,hG.trans F3.size hG4⟩
      case measure=>have:=HM.1;simp[intOf];omega
     ·clear m0 m1 m2 m3 m4 m5 m6 m7 b0 b1 b2 x3
      gi_wp2;apply BI (EG rfl _ _ _) rfl;exact⟨⟨_,rfl⟩,Y4,F3.grow hF4 hG,hG.trans F3.size hG4,.inr ⟨_,⟨post,by rw[HX.out];simp⟩,by simp,hJ4⟩⟩
variable {fs:Fs} {g:Pg} {h p:Nat} {ks:List ByteArray} {s:Sp} {u:List Bool}
structure En where
 e:Ent
 ch:List (Nat×Pg)
inductive T where
 |leaf (place:Nat) (es:List En)
 |branch (place:Nat) (ks:List ByteArray) (kids:List T)
def T.place:T->Nat
 |.leaf p _=>p
 |.branch p _ _=>p
def En.ok(fs:Fs)(x:En):Prop:=∃size over:Nat,x.e.size=size/\x.e.over=over/\size<=400/\((over=0/\x.ch=[])\/(0<over/\fA fs over size x.ch))
def En.pages(x:En):List Nat:=x.ch.map (·.1)
def aU(fs:Fs):Nat->T->Sp->Prop
 |0,.leaf p es,s=>∃g,fs.has p g/\g.kind=3/\g.ents=es.map (·.e)/\es≠[]/\(∀x∈es,s.has x.e.key=true)/\∀x∈es,x.ok fs
 |h+1,.branch p ks kids,s=>∃g,fs.has p g/\g.kind=2/\g.keys=ks/\g.kids=kids.map (λt=>(t.place:Int))/\kids.length=ks.length+1 /\
   (∃h0:0<ks.length,lt s.lo ks[0]=true/\s.has (ks[ks.length-1])=true)/\∀x∈parts s ks kids,aU fs h x.1 x.2
 |_,_,_=>False
def T.pages:Nat->T->List Nat
 |_,.leaf p es=>p :: es.flatMap En.pages
 |0,.branch p _ _=>[p]
 |h+1,.branch p _ kids=>p :: kids.flatMap (T.pages h)
def T.subs:Nat->T->List (Nat×T)
 |0,t=>[(0,t)]
 |h+1,.leaf p es=>[(h+1,.leaf p es)]
 |h+1,.branch p ks kids=>(h+1,.branch p ks kids):: kids.flatMap (T.subs h)
variable {t:T}
theorem qEs{s g a}(h:Rz s g)(b:Rz s a):g=a:=h.2.2.2.trans b.2.2.2.symm
theorem tS {g a}(h:fs.has p g)(b:fs.has p a):g=a:=qEs h.2 b.2
theorem Jj:∀{l a:List (Nat×Pg)}{p r:Nat},fA fs p r l->fA fs p r a->l=a
 |[],[],_,_,_,_=>rfl
 |[],x :: a,_,r,h,h'=>by
  have⟨_,o,_⟩:=h';have:r=0:=h;omega
 |x :: l,[],_,r,h,h'=>by
  have⟨_,o,_⟩:=h;have:r=0:=h';omega
 |x :: l,x' :: a,p,r,h,h'=>by
  have⟨d,t,e,u,v,q,f,w,g⟩:=h;have⟨i,y,j,z,A,s,k,B,c⟩:=h';have b:=tS e j;have m:q=s:=by grind
  subst m;rw[<-b]at c;have n:x=x':=Prod.ext (d.trans i.symm) b;rw[n,Jj g c]
theorem vK (a:aU fs h t s):∃g,fs.has t.place g/\((h=0/\g.kind=3)\/(0<h/\g.kind=2)):=by
 cases h with
 |zero =>
  cases t with
  |leaf p es=>have⟨g,b,c,_⟩:=a;exact⟨g,b,.inl ⟨rfl,c⟩⟩
  |branch p ks kids=>exact a.elim
 |succ h =>
  cases t with
  |leaf p es=>exact a.elim
  |branch p ks kids=>have⟨g,b,c,_⟩:=a;exact⟨g,b,.inr ⟨by omega,c⟩⟩
theorem qFj:∀{l a:List En},(∀x∈l,x.ok fs)->(∀x∈a,x.ok fs)->l.map (·.e)=a.map (·.e)->l=a
 |[],[],_,_,_=>rfl
 |[],x :: a,_,_,h=>by simp at h
 |x :: l,[],_,_,h=>by simp at h
 |x :: l,x' :: a,h,h',e=>by
  simp only[BD,GC]at e;have⟨b,q⟩:=e;have⟨A,y,k,m,_,n⟩:=h x (by simp);have⟨B,z,o,p,_,i⟩:=h' x' (by simp);have t:A=B:=by grind
  have s:y=z:=by grind
  subst t s;have j:x.ch=x'.ch:=by
   rcases n with⟨v,c⟩|⟨v,c⟩
   ·grind
   ·rcases i with⟨w,_⟩|⟨_,d⟩
    ·omega
    ·exact Jj c d
  have u:x=x':=by
   cases x;cases x';simp only at b j;rw[b,j]
  rw[u,qFj (λg f=>h g (by simp[f])) (λg f=>h' g (by simp[f])) q]
theorem Cj:∀{h b:Nat}{t t':T}{s n:Sp},aU fs h t s->aU fs b t' n->t.place=t'.place->h=b/\t=t':=by
 intro h;induction h with
 |zero =>
  intro b t t' s n m c l;cases t with
  |branch p ks kids=>exact m.elim
  |leaf p es =>
   have⟨g,i,q,C,P,_,J⟩:=m;cases b with
   |zero =>
    cases t' with
    |branch p' ks' kids'=>exact c.elim
    |leaf p' es' =>
     have⟨o,e,r,D,Q,_,K⟩:=c;have f:p=p':=l;subst f;refine⟨rfl,?_⟩;rw[qFj J K (by rw[<-C,<-D,tS i e])]
   |succ b =>
    cases t' with
    |leaf p' es'=>exact c.elim
    |branch p' ks' kids' =>
     have⟨o,e,r,_⟩:=c;have f:p=p':=l;subst f;have d:=tS i e;grind
 |succ h ih =>
  intro b t t' s n m c l;cases t with
  |leaf p es=>exact m.elim
  |branch p ks kids =>
   have⟨g,i,q,G,E,N,_,A⟩:=m;cases b with
   |zero =>
    cases t' with
    |branch p' ks' kids'=>exact c.elim
    |leaf p' es' =>
     have⟨o,e,r,_⟩:=c;have f:p=p':=l;subst f;have d:=tS i e;grind
   |succ b =>
    cases t' with
    |leaf p' es'=>exact c.elim
    |branch p' ks' kids' =>
     have⟨o,e,r,H,F,O,_,B⟩:=c;have f:p=p':=l;subst f;have d:=tS i e;subst d;have y:ks=ks':=G.symm.trans H;subst y;have u:=E.symm.trans F;have I:kids.length=kids'.length:=by omega
     have v:∀a (j:a<kids.length) (k:a<kids'.length),h=b/\kids[a]=kids'[a]:=λa j k=>by
      have w:=BL (fH s ks kids a j);have x:=BL (fH n ks kids' a k);have M:((kids[a]).place:Int)=((kids'[a]).place:Int):=by
       have:=BZ (λL=>L[a]?) u;grind
      grind
     have z:0<kids.length:=by omega
     refine⟨by rw[(v 0 z (by omega)).1],?_⟩;rw[FO I (λa j k=>(v a j k).2)]
theorem uF{a k}(h:gO a k=true):lt a k=true/\k.size<=24:=by
 unfold gO at h;simpa[lt] using h
theorem vN:∀{ks:List ByteArray}{e:ByteArray},fS e ks=true->ks.Pairwise (λa b=>lt a b=true)/\∀k∈ks,lt e k=true/\k.size<=24
 |[],_,_=>⟨.nil,by simp⟩
 |k :: r,e,h=>by
  simp only[fS,AN]at h;have⟨g,i⟩:=uF h.1;have⟨j,f⟩:=vN h.2;refine⟨BC.2 ⟨λd c=>(f d c).1,j⟩,λd c=>?_⟩;rcases AR.1 c with rfl|c
  ·grind
  ·exact⟨eV g (f d c).1,(f d c).2⟩
theorem Dy:∀{es:List Ent}{f:ByteArray},fV f es=true->es.Pairwise (λa b=>lt a.key b.key=true)/\∀e∈es,lt f e.key=true/\e.key.size<=24/\pI e.val e.size e.over=true
 |[],_,_=>⟨.nil,by simp⟩
 |e :: r,f,h=>by
  simp only[fV,AN]at h;have⟨i,j⟩:=uF h.1.1;have⟨k,g⟩:=Dy h.2;refine⟨BC.2 ⟨λd c=>(g d c).1,k⟩,λd c=>?_⟩;rcases AR.1 c with rfl|c
  ·grind
  ·exact⟨eV i (g d c).1,(g d c).2⟩
theorem tR (h:fs.has p g):eG g.kind g.ver g.root g.next g.keys g.kids g.ents g.data=true:=by
 obtain⟨_,_,a,_,rfl⟩:=h;unfold Pg.encE dO at a;grind
theorem Uo (h:fs.has p g)(d:g.kind=2):g.keys.Pairwise (λa b=>lt a b=true)/\∀k∈g.keys,lt ⟨#[]⟩ k=true/\k.size<=24:=by
 have c:=tR h;unfold eG at c;rw[d]at c;simp only[show ¬((2:Int)=1) by decide,KH,LO,AN,gP]at c;exact vN c.2.2
theorem Pi (h:fs.has p g)(d:g.kind=3):g.ents.Pairwise (λa b=>lt a.key b.key=true)/\∀e∈g.ents,lt ⟨#[]⟩ e.key=true/\e.key.size<=24/\pI e.val e.size e.over=true:=by
 have c:=tR h;unfold eG at c;rw[d]at c;simp only[show ¬((3:Int)=1) by decide,show ¬((3:Int)=2) by decide,KH,LO,AN]at c;exact Dy c.2.2
def on(u:List Bool)(p:Nat):Prop:=u[p]?=some true
def marks(u:List Bool)(ps:List Nat):List Bool:=ps.foldl (λu p=>u.set p true) u
theorem tO(u):marks u []=u:=rfl
theorem uU(u p ps):marks u (p :: ps)=marks (u.set p true) ps:=rfl
theorem kT(u ps qs):marks u (ps++qs)=marks (marks u ps) qs:=by simp[marks]
theorem gE:∀(ps:List Nat) (u:List Bool),(marks u ps).length=u.length
 |[],_=>rfl
 |p :: ps,u=>by rw[uU,gE ps];simp
theorem qDy {p q}:on (u.set p true) q↔on u q\/(q=p/\p<u.length):=by
 unfold on;grind
theorem Dh:∀{ps:List Nat}{u:List Bool}{q:Nat},on (marks u ps) q↔on u q\/(q∈ps/\q<u.length)
 |[],u,q=>by simp[tO]
 |p :: ps,u,q=>by
  rw[uU,Dh,qDy];grind
theorem qIx (h:on u p):u.set p true=u:=by
 have⟨d,a⟩:=AD.1 h;apply FO (by simp);grind
theorem Dt:∀{ps:List Nat}{u:List Bool},(∀p∈ps,on u p)->marks u ps=u
 |[],_,_=>rfl
 |p :: ps,u,h=>by
  rw[uU,qIx (h p (by simp))];exact Dt (λq a=>h q (by simp[a]))
theorem Jk:∀{l:List (Nat×Pg)}{p r:Nat},fA fs p r l->∀x∈l,∃g,fs.has x.1 g/\g.kind=4
 |[],_,_,_,x,a=>by simp at a
 |y :: l,p,r,h,x,a=>by
  have⟨b,f,c,d,i,m,j,k,e⟩:=h;rcases AR.1 a with rfl|a
  ·grind
  ·exact Jk e x a
theorem wL {x:En}(h:x.ok fs):∀p∈x.pages,∃g,fs.has p g/\g.kind=4:=by
 intro p c;have⟨f,e,_,_,_,h⟩:=h;simp only[En.pages,AY]at c;obtain⟨d,b,rfl⟩:=c;rcases h with⟨_,a⟩|⟨_,a⟩
 ·grind
 ·exact Jk a d b
theorem lX {a}(h:t∈a):∃d,(t,d)∈parts s ks a:=by
 obtain⟨c,b,rfl⟩:=AU h;exact⟨_,BL (fH s ks a c b)⟩
theorem oH:∀{h:Nat}{t:T}{s:Sp},aU fs h t s->∀x∈T.subs h t,∃c,aU fs x.1 x.2 c/\x.1<=h:=by
 intro h;induction h with
 |zero =>
  intro t s b x a;simp only[T.subs,AS]at a;grind
 |succ h ih =>
  intro t s b x a;cases t with
  |leaf p es=>exact b.elim
  |branch p ks kids =>
   simp only[T.subs,AR,AV]at a;rcases a with rfl|⟨l,f,a⟩
   ·grind
   ·have⟨g,_,_,_,_,_,_,e⟩:=b
    have⟨c,i⟩:=lX (s:=s) (ks:=ks) f;grind
theorem Cz:∀{h:Nat}{t:T}{s:Sp},aU fs h t s->∀p∈T.pages h t,(∃x∈T.subs h t,x.2.place=p)\/∃g,fs.has p g/\g.kind=4:=by
 intro h;induction h with
 |zero =>
  intro t s b p a;cases t with
  |branch q ks kids=>exact b.elim
  |leaf q es =>
   have⟨g,_,_,_,_,_,j⟩:=b;simp only[T.pages,AR,AV]at a;rcases a with rfl|⟨x,c,a⟩
   ·exact .inl ⟨(0,.leaf p es),by simp[T.subs],rfl⟩
   ·exact .inr (wL (j x c) p a)
 |succ h ih =>
  intro t s b p a;cases t with
  |leaf q es=>exact b.elim
  |branch q ks kids =>
   have⟨g,_,_,_,_,_,_,f⟩:=b;simp only[T.pages,AR,AV]at a;rcases a with rfl|⟨l,d,a⟩
   ·exact .inl ⟨(h+1,.branch p ks kids),by simp[T.subs],rfl⟩
   ·have⟨m,k⟩:=lX (s:=s) (ks:=ks) d
    rcases ih (f _ k) p a with⟨x,c,i⟩|e
    ·exact .inl ⟨x,by simp only[T.subs,AR,AV];grind,i⟩
    grind
theorem Nb (b:aU fs h t s):∀p∈T.pages h t,p<fs.safe.length:=by
 intro p c;rcases Cz b p c with⟨f,e,rfl⟩|⟨g,a,_⟩
 ·have⟨i,d,_⟩:=oH b f e
  have⟨g,a,_⟩:=vK d;exact a.1
 ·exact a.1
def Shut(u:List Bool)(h:Nat)(t:T):Prop:=∀x∈T.subs h t,on u x.2.place->∀p∈T.pages x.1 x.2,on u p
theorem Yi:∀x∈T.subs h t,∀p∈T.pages x.1 x.2,p∈T.pages h t:=by
 induction h generalizing t with
 |zero=>intro x a p b;simp only[T.subs,AS]at a;grind
 |succ h ih =>
  intro x a p b;cases t with
  |leaf q es=>simp only[T.subs,AS]at a;grind
  |branch q ks kids =>
   simp only[T.subs,AR,AV]at a;rcases a with rfl|⟨d,c,a⟩
   ·exact b
   ·simp only[T.pages,AR,AV]
    grind
theorem Shut.after {h c t t' s B}(z:aU fs h t s)(i:aU fs c t' B)(A:fs.safe.length<=u.length)(x:Shut u h t):Shut (marks u (T.pages c t')) h t:=by
 intro f j a p d;rw[Dh]at a⊢;rcases a with a|⟨w,_⟩
 ·exact .inl (x f j a p d)
 ·have⟨F,e,_⟩:=oH z f j
  have v:∃b∈T.subs c t',b.2.place=f.2.place:=by
   rcases Cz i _ w with n|⟨g,q,D⟩
   ·exact n
   ·have⟨C,r,E⟩:=vK e
    have:=tS q r;grind
  have⟨b,k,o⟩:=v;have⟨G,y,_⟩:=oH i b k;have⟨l,m⟩:=Cj e y o.symm;refine .inr ⟨Yi b k p (by grind),jY (Nb e p d) A⟩
theorem Shut.kid {a}(c:Shut u (h+1) (.branch p ks a)){k}(b:k∈a):Shut u h k:=by
 intro e d;exact c e (by simp only[T.subs,AR,AV];grind)
theorem Shut.down {b}(d:aU fs (h+1) (.branch p ks b) s)(n:Shut u (h+1) (.branch p ks b)){k}(c:k∈b):Shut (u.set p true) h k:=by
 intro f e a q m;rw[qDy]at a⊢;rcases a with a|⟨j,_⟩
 ·exact .inl (n.kid c f e a q m)
 ·have⟨g,_,_,_,_,_,_,i⟩:=d;have⟨w,o⟩:=lX (s:=s) (ks:=ks) c;have⟨x,r,v⟩:=oH (i _ o) f e;have⟨t,_⟩:=Cj r d j;omega
variable {B a p:Nat} {Y:Bl} {fs:Fs} {g:Pg} {u:List Bool} {w w':World}
theorem mZ(g)(s:Sp)(f c a h d b w):
  cL 145 #[.agg #[.i g.kind,.i g.ver,.i g.root,.i g.next,.slice f g.keys.length h,.slice c g.kids.length d,.slice a g.ents.length b,.string g.data],.agg #[.string s.lo,.string s.hi]] w λe w' =>
   e=.returned (.func (.func 167) #[] #[.p (w.heap.size+1) 0,.p w.heap.size 0]) /\
   w'.heap[w.heap.size]?=some (pgO g f c a h d b)/\w'.heap[w.heap.size+1]?=some (.cells #[.string s.lo,.string s.hi] 154)/\bW w w':=by
 have B:bW w ((w.alloc (pgO g f c a h d b)).alloc (.cells #[.string s.lo,.string s.hi] 154)):=(bA _ _).alloc (by simp) _;have i:((w.alloc (pgO g f c a h d b)).alloc (.cells #[.string s.lo,.string s.hi] 154)).heap[w.heap.size]?=some (pgO g f c a h d b):=aI _ (aA w _);have j:((w.alloc (pgO g f c a h d b)).alloc (.cells #[.string s.lo,.string s.hi] 154)).heap[w.heap.size+1]?=some (.cells #[.string s.lo,.string s.hi] 154):=by
  have:=aA (w.alloc (pgO g f c a h d b)) (.cells #[.string s.lo,.string s.hi] 154);simpa using this
 go_enter Tryz.func145,Tryz.ntmps145;go_wp2;go_ret;simp_all
theorem Fj(root β a c b k v size d w):
  cL 99 #[.agg (tA β root a c b),.agg #[.string k,.string v,.i size,.i d]] w λe w' =>
   e=.returned (.func (.func 137) #[] #[.p (w.heap.size+1) 0,.p w.heap.size 0]) /\
   w'.heap[w.heap.size]?=some (.cells (tA β root a c b) 90)/\w'.heap[w.heap.size+1]?=some (.cells #[.string k,.string v,.i size,.i d] 69)/\bW w w':=by
 have B:bW w ((w.alloc (.cells (tA β root a c b) 90)).alloc (.cells #[.string k,.string v,.i size,.i d] 69)):=(bA _ _).alloc (by simp) _;have f:((w.alloc (.cells (tA β root a c b) 90)).alloc (.cells #[.string k,.string v,.i size,.i d] 69)).heap[w.heap.size]?=some (.cells (tA β root a c b) 90):=aI _ (aA w _);have g:((w.alloc (.cells (tA β root a c b) 90)).alloc (.cells #[.string k,.string v,.i size,.i d] 69)).heap[w.heap.size+1]?=some (.cells #[.string k,.string v,.i size,.i d] 69):=by
  have:=aA (w.alloc (.cells (tA β root a c b) 90)) (.cells #[.string k,.string v,.i size,.i d] 69);simpa using this
 go_enter Tryz.func99,Tryz.ntmps99;go_wp2;go_ret;simp_all
attribute [local go_sem] CM
def aY(w:World)(ub:Nat)(u:List Bool):Prop:=w.ownsRow 0 4 1 (.slice (some ⟨ub,0,none⟩) 4096 4096) 4096 (u.map .bool)
theorem aY.cell (h:aY w a u)(b:p<4096)(c:u.length=4096):w.cell? ⟨a,p,none⟩=some (.bool (u[p]'(by omega))):=by
 have:=World.ownsRow.cellAt (w:=w) h p (by omega);rw[this];simp[c,b]
theorem aY.free (h:aY w a u)(p):w.frozen? ⟨a,p,none⟩=false:=World.ownsRow.frozenAt (w:=w) h p
theorem aY.set (h:aY w a u)(p):aY (w.setCell ⟨a,p,none⟩ (.bool true)) a (u.set p true):=by
 have:=(World.ownsRow.stored (w:=w) h p (.bool true)).1;unfold aY;rw[List.map_set];exact this
theorem aY.on (h:aY w a u)(c:On Y w w')(d:Y a):aY w' a u:=aS h c (λe b=>by simp[Value.ownBlock]at b;subst b;exact d)
theorem aY.lt (h:aY w a u):a<w.heap.size:=aM h (k:=a) rfl
theorem aY.fr (h:aY w a u)(f:Fr Y w w')(c:¬Y a):aY w' a u:=h.on (f.on (Z:=Bl.one a) (λd b=>by simp only[Bl.one]at b;subst b;exact⟨h.lt,c⟩)) rfl
theorem aY.apart {e β sv lv}(h:aY w e u)(a:aH w β sv lv fs):¬fpF β sv lv e:=by
 have⟨_,i⟩:=id h;rcases i with⟨f,_⟩|⟨g,j,k,d,_,b,_⟩
 ·simp at f
 ·simp only[AP,AX,CA,DA,CT]at d
  obtain⟨rfl,_⟩:=d;rintro(rfl|c|c)
  ·have:=a.box;rw[b]at this;simp at this
  ·exact aQ a.safe b (by decide) c
  ·exact aQ a.late b (by decide) c
theorem aY.nodef {c}(h:aY w c u)(d:w.heap[c]?=some (.deferred (some []))):False:=by
 have⟨_,a⟩:=h;rcases a with⟨a,_⟩|⟨g,e,f,a,_,b,_⟩
 ·simp at a
 ·simp at a
  obtain⟨rfl,_⟩:=a;rw[d]at b;simp at b
theorem sD {e z v n xs C}(h:w.ownsRow B e z v n xs)(j:mF C w w'):w'.ownsRow B e z v n xs:=by
 have⟨d,a⟩:=h;refine⟨d,?_⟩;rcases a with a|⟨g,b,c,rfl,f,i,r⟩
 ·exact .inl a
 ·exact .inr ⟨g,b,c,rfl,f,j.cells _ _ _ _ i,r⟩
theorem aY.took (h:aY w a u)(b:mF B w w'):aY w' a u:=sD h b
theorem Fr.took {a w w'}(h:Fr Y a w)(b:mF B w w')(f:a.heap.size<=B):Fr Y a w' :=
 ⟨b.os.trans h.os,b.tape.trans h.tape,b.output.trans h.output,by rw[b.size];exact h.size,λc d e=>(b.low c (by omega)).trans (h.block c d e)⟩
theorem rZ (h:fs.has p g)(a:g.kind=3):g.keys=[]/\g.kids=[]:=by
 obtain⟨_,_,_,_,rfl⟩:=h;revert a;unfold eO oJ;split
 ·intro h;simp at h
 ·split
  ·intro h;simp at h
  ·split
   ·intro _;exact⟨rfl,rfl⟩
   ·split
    ·intro h;simp at h
    ·rename_i h3 _
     intro h;simp only at h;omega
theorem pN (h:fs.has p g)(a:g.kind=2):g.ents=[]:=by
 obtain⟨_,_,_,_,rfl⟩:=h;revert a;unfold eO oJ;split
 ·intro h;simp at h
 ·split
  ·intro _;rfl
  ·split
   ·intro h;simp at h
   ·split
    ·intro h;simp at h
    ·intro _;rfl
theorem gB (h:fs.has p g):g.keys.length<=1000/\g.kids.length<=1000/\g.ents.length<=1000:=by
 obtain⟨_,_,_,_,rfl⟩:=h;have a:=((fs.at p).data.toList.getD (bB (fs.at p).data.toList 0 1) 0).toNat_lt;unfold eO oJ;split
 ·simp
 ·split
  ·exact⟨(by simp only[Is];omega),(by simp only[Ir];omega),by simp⟩
  ·split
   ·refine⟨by simp,by simp,?_⟩
    simp only[Ja];omega
   ·split<;>simp
theorem Shut.afters {h t s}:∀{l:List T}{u:List Bool},(∀k∈l,∃a,aU fs h k a)->aU fs h t s->fs.safe.length<=u.length->Shut u h t->Shut (marks u (l.flatMap (T.pages h))) h t
 |[],u,_,_,_,hs=>hs
 |k :: l,u,hl,ht,hu,hs=>by
  have⟨a,c⟩:=hl k (by simp);rw[AJ,kT];exact Shut.afters (λk b=>hl k (by simp[b])) ht (by rw[gE];exact hu) (hs.after ht c hu)
theorem Nm(β sv lv fs)(hl:(fs.life==0)=false)(root ca cn cc ub h)(ih:∀(t:T) (s:Sp) (u:List Bool) (w:World),aU fs h t s->Shut u h t->u.length=4096->aH w β sv lv fs->aY w ub u ->
   cL 114 #[.agg (tA β root ca cn cc),.i t.place,.agg #[.string s.lo,.string s.hi],.q ub 4096 4096] w λe w' =>
    (∃v,e=.returned v)/\aY w' ub (marks u (T.pages h t))/\Fr (Bl.one ub) w w')(p ks kids s u w)(ht:aU fs (h+1) (.branch p ks kids) s)(hs:Shut u (h+1) (.branch p ks kids))(hu:u.length=4096)(hf:aH w β sv lv fs)(hU:aY w ub u)(hnot:¬on u p):
  cL 114 #[.agg (tA β root ca cn cc),.i p,.agg #[.string s.lo,.string s.hi],.q ub 4096 4096] w λe w' =>
    (∃v,e=.returned v)/\aY w' ub (marks u (T.pages (h+1) (.branch p ks kids)))/\Fr (Bl.one ub) w w':=by
 have⟨g,hg,hk2,hks,hkd,hlen,⟨h0,c1,c2⟩,hall⟩:=ht;have hp:p<4096:=jY hg.1 hf.small;have hpi:(p:Int)<4096:=by omega
 have⟨W1,hW1,B1,t1,s1,b1,z1⟩:=al3 w (.cells (tA β root ca cn cc) 90) (.cells #[.string s.lo,.string s.hi] 154) (.cells #[.q ub 4096 4096] 139); have hU1:aY W1 ub u:=hU.on (vV B1 (Y:=Bl.one ub) (λk hk=>by simp only[Bl.one]at hk;subst hk;exact hU.lt)) rfl;have hcu:=hU1.cell hp hu;have hval:u[p]'(by omega)=false:=by
  cases hv:u[p]'(by omega) with
  |false=>rfl
  |true=>exact absurd (AD.2 ⟨by omega,hv⟩) hnot
 rw[hval]at hcu;have hfz:=hU1.free;have⟨W2,hW2⟩:=nM (W1.setCell ⟨ub,p,none⟩ (.bool true));have lub:=hU.lt;have f2:Fr (Bl.one ub) W1 W2:=hW2▸(AF (Bl.one ub) W1).setCell (p:=⟨ub,p,none⟩) (.inl rfl) _;have hU2:aY W2 ub (u.set p true):=hW2▸hU1.set p;have t2:=f2.heap t1 (oN (by omega));have s2:=f2.heap s1 (oN (by omega));have b2:=f2.heap b1 (oN (by omega));have⟨tc0,tc1,tc2⟩:=eQ t2;have⟨sc0,sc1⟩:=bS s2;have bc0:W2.c (w.heap.size+1+1) 0=some (.q ub 4096 4096):=by simp[World.cell?,b2]
 have bc1:W1.c (w.heap.size+1+1) 0=some (.q ub 4096 4096):=by simp[World.cell?,b1]
 have hf1:aH W1 β sv lv fs:=hf.on (vV B1 hf.lies);have hf2:aH W2 β sv lv fs:=hf1.on (f2.on (λk hk=>⟨hf1.lies k hk,λh=>by simp only[Bl.one]at h;subst h;exact hU1.apart hf1 hk⟩));have⟨sm1,sm2,sm3⟩:=gB hg;have hNd:=oM β sv lv fs root ca cn cc p s g W2 hf2 hl hg (by simp[hk2]) (by rw[hks];exact h0) (by simp only[hks];exact c1) (by simp only[hks];exact c2) sm1 sm3;have HK2:Hid (g.kind=2):=hk2;have HKS:Hid (g.keys=ks):=hks;have HKD:Hid (g.kids=kids.map (λt=>(t.place:Int))):=hkd;have HLN:Hid (kids.length=ks.length+1):=hlen;have HU:Hid (u.length=4096):=hu;clear hk2 hks hkd hlen hu hval z1;refine(BK (n:=0)).1 (CN Tryz.func114 rfl trivial ?_ rfl);simp only[Tryz.ntmps114,jA,jB,jN,Nat.reduceAdd,Nat.reduceSub,jR,jO,jP,jT,jE,jF];gi_wp2_with (first
  |(refine⟨trivial,rfl,?_⟩;gi_at_call 144;apply(BK.2 hNd).mono;clear hNd;rintro e W3 ⟨vv,rfl,⟨ka,ia,ea,kc,ic,ec,rfl,q1,q2,q3,qq⟩,hb3⟩;obtain⟨W4,hW4,-,x4,-⟩:=al1 W3 (pgO g ka ia ea kc ic ec);have⟨m0,m1,m2,m3,m4,m5,m6,m7⟩:=bM x4;have f4:Fr Bl.none W2 W4:=(AA hb3).trans (hW4▸(AF _ W3).alloc _);have⟨sd0,sd1⟩:=bS (f4.heap s2 (λh=>h));have hKc:=mZ g s ka ia ea kc ic ec W4)
  |(refine⟨trivial,rfl,?_⟩;gi_at_call 145;apply(BK.2 hKc).mono;clear hKc;rintro e W5 ⟨rfl,y1,y2,hb5⟩))
 have f5:Fr Bl.none W2 W5:=f4.trans (AA hb5);have z4:W3.heap.size<W4.heap.size:=(gL x4);have z3:=hb3.size;have hU5:aY W5 ub (u.set p true):=hU2.fr f5 (λh=>h);have hf5:aH W5 β sv lv fs:=hf2.on (f5.on (λk hk=>⟨hf2.lies k hk,λh=>h⟩));have z5:W4.heap.size+1<W5.heap.size:=(gL y2);have zW2:w.heap.size+1+1<W2.heap.size:=(gL b2);have o35:On (New W2 W3) W3 W5:=(hW4▸(CJ _ W3).alloc (λk hk=>hk.2) _:On (New W2 W3) W3 W4).trans (vV hb5 (λk hk=>by have:=hk.2;omega));let Rd:Bl:=λk=>k=W4.heap.size\/k=W4.heap.size+1\/New W2 W3 k;have hxs:parts s g.keys g.kids=(parts s ks kids).map (λx=>((x.1.place:Int),x.2)):=by rw[HKS.out,HKD.out,mR]
 let I:List (Int×Sp)->Bl->World->Prop:=λpre Y W=>aY W ub (marks (u.set p true) ((kids.take pre.length).flatMap (T.pages h)))/\Y=Bl.one ub;refine fF (P:=Tryz.prog) (Has:=rI) (Rd:=Rd) rfl (enters_of Tryz.func167 (by kernel_rfl) rfl) (mY (W4.heap.size+1) W4.heap.size s g.kind g.ver g.root g.next ka ia ea kc ic g.ents.length ec g.data g.keys g.kids Rd W5 y2 y1 ((q1.on o35).mono (λk hk=>.inr (.inr hk))) ((q2.on o35).mono (λk hk=>.inr (.inr hk))) (.inr (.inl rfl)) (.inl rfl) sm1 sm2 qq.1 qq.2.1) (λx args S W hH=>by rw[hH];rfl) I (λ_ _ _ _=>False) ?_ (λ_ _ _ _ _ h=>h.elim) ?_ (λ_ _ _ _ h=>h.elim) (Bl.one ub) ⟨by simpa[tO] using hU5,rfl⟩ ?_ ?_ ?_ (λ_ _ _ _ _ _ _ _ _ h=>h.elim)
 ·rintro pre Y W W' ⟨h1,rfl⟩ ho
  exact⟨h1.on ho rfl,rfl⟩
 ·rintro pre Y W ⟨h1,rfl⟩ k hk
  simp only[Bl.one]at hk;subst hk;exact h1.lt
 ·rintro k (rfl|rfl|hk)
  ·exact⟨oN (by omega),by omega⟩
  ·exact⟨oN (by omega),by omega⟩
  ·exact⟨λh=>by simp only[Bl.one]at h;have:=hk.1;omega,by have:=hk.2;omega⟩
 ·
  rintro l pre x rest args S Y' W hx ⟨hUp,rfl⟩ hH hS hFW hGW hl0 hl1 hl2 ⟨r,hr⟩;have hjl:pre.length<kids.length:=by
   have:=BZ List.length hx;rw[hxs]at this;simp[cI]at this;omega
  have⟨kid,hkid⟩:=nM (kids[pre.length]'hjl);have⟨sp,hsp⟩:=nM ((⟨kV s ks pre.length,pF s ks pre.length⟩:Sp));have hpa:=fH s ks kids pre.length hjl;rw[hkid,hsp]at hpa;have hxe:x=((kid.place:Int),sp):=by
   have h1:(parts s g.keys g.kids)[pre.length]?=some x:=by rw[hx];simp
   rw[hxs,BN,hpa]at h1;simpa using h1.symm
  have hst:aU fs h kid sp:=hall _ (BL hpa);have hkm:kid∈kids:=hkid▸AB hjl;subst hxe;have hH':args=#[.i kid.place,.agg #[.string sp.lo,.string sp.hi]]:=hH;subst hH';have zW:W5.heap.size<=W.heap.size:=hFW.size;have⟨um,hum⟩:=nM (marks (u.set p true) ((kids.take pre.length).flatMap (T.pages h)));rw[hum]at hUp;have hlm:um.length=4096:=by rw[<-hum,gE];simpa using HU.out
  have hsh:Shut um h kid:=by
   rw[<-hum];exact Shut.afters (fs:=fs) (λk hk=>by have⟨s',hs'⟩:=lX (s:=s) (ks:=ks) (CZ hk);exact⟨s',hall _ hs'⟩) hst (by simp[HU.out];exact hf.small) (hs.down ht hkm)
  have tW:=hFW.heap (f5.heap t2 (λh=>h)) (oN (by omega));have bW:=hFW.heap (f5.heap b2 (λh=>h)) (oN (by omega));have hfW:aH W β sv lv fs:=hf5.on (hFW.on (λk hk=>⟨hf5.lies k hk,λh=>by simp only[Bl.one]at h;subst h;exact hU5.apart hf5 hk⟩));have HM:Hid (marks um (T.pages h kid)=marks (u.set p true) ((kids.take (pre.length+1)).flatMap (T.pages h))):=by
   show _=_
   rw[<-hum,<-kT,AK hjl,BU,hkid];simp
  have ihk:=λW' hf' hU'=>ih kid sp um W' hst hsh hlm hf' hU';clear hum hlm hkid hsp hpa hxs hx hsh;unfold iN;gi_wp2;refine⟨(AF _ W).alloc _,?_⟩;intro W₂ hT;have aW:Fr Bl.none W (W.alloc (.cells #[.string sp.lo,.string sp.hi] 154)):=(AF _ W).alloc _;have bX:=hT.heap (aW.heap bW (λh=>h)) (by omega);have fX:Fr (Bl.one l) W W₂:=(aW.mono (λ_ h=>h.elim)).trans hT.fr;have hUX:aY W₂ ub um:=hUp.fr fX (oN (by omega));have hfX:aH W₂ β sv lv fs:=hfW.on (fX.on (λk hk=>⟨hfW.lies k hk,λh=>by simp only[Bl.one]at h;have:=hf5.lies k hk;omega⟩));have⟨d0,d1,d2⟩:=eQ (hT.heap (aW.heap tW (λh=>h)) (by omega));have⟨e0,e1⟩:=bS (hT.heap (aA W (.cells #[.string sp.lo,.string sp.hi] 154)) (by omega));have c0:W₂.c (w.heap.size+1+1) 0=some (.q ub 4096 4096):=by simp[World.cell?,bX]
  have hC:=ihk W₂ hfX hUX;clear ihk;gi_wp2_with (refine⟨trivial,rfl,?_⟩;gi_at_call 114;refine(DU l (BK.2 hC)).mono ?_;rintro e W₃ ⟨⟨v,rfl⟩,hU3,f3⟩);refine⟨Bl.one ub,⟨?_,rfl⟩,f3,CQ _ _⟩;rw[jK,AM,<-HM.out];exact hU3
 ·rintro D Y' W hD hYD ⟨hUp,rfl⟩ hFW hGW hDW;have xW:=hFW.heap ((hb5.block _ z4).trans x4) (oN (by omega));have⟨n0,n1,n2,n3,n4,n5,n6,n7⟩:=bM xW;have he0:g.ents.length=0:=by rw[pN hg HK2.out];rfl
  have hm:Marks w.heap.size [mk D] W:=(FJ w.heap.size W5).cons (λD' _ h=>hFW.heap h (λe=>by simp only[Bl.one]at e;subst e;exact hU5.nodef h)) (by have:=B1.size;omega) hDW hD;have F0:Fr (Bl.one ub) w W:=((AA B1).trans f2).trans ((f5.mono (λ_ h=>h.elim)).trans hFW);have HX:Hid (marks (u.set p true) ((kids.take (parts s g.keys g.kids).length).flatMap (T.pages h))=marks u (T.pages (h+1) (.branch p ks kids))):=by
   show _=_
   rw[cI,show g.kids.length=kids.length by rw[HKD.out];simp,BG];rfl
  have HU':Hid (aY W ub (marks u (T.pages (h+1) (.branch p ks kids)))):=by rw[<-HX.out];exact hUp
  clear hUp HX hxs;gi_wp2;gi_loopw [38] (λi wr=>i=.i 0/\wr=W) (λ_ _=>0)
  case atStart=>exact⟨rfl,rfl⟩
  case round =>
   obtain⟨rfl,hwr⟩:=hrel;subst wr;gi_wp2;apply qFg rfl hm;intro w' ht';exact⟨⟨_,rfl⟩,HU'.took ht',F0.took ht' (jU _)⟩
attribute [local go_sem] CM
theorem Zw(β sv lv fs)(bs:(fs.life==0)=false)(root x z y d p es s u w)(bv:aU fs 0 (.leaf p es) s)(fa:Shut u 0 (.leaf p es))(aw:u.length=4096)(a8:aH w β sv lv fs)(ai:aY w d u)(dl:¬on u p):
  cL 114 #[.agg (tA β root x z y),.i p,.agg #[.string s.lo,.string s.hi],.q d 4096 4096] w λe w' =>
    (∃v,e=.returned v)/\aY w' d (marks u (T.pages 0 (.leaf p es)))/\Fr (Bl.one d) w w':=by
 have fb:=bv;obtain⟨g,a9,aa,a4,dk,dd,dm⟩:=bv;have dn:p<4096:=jY a9.1 a8.small;have f7:(p:Int)<4096:=by omega
 obtain⟨r,a3,V,e3,dz,b3,eb⟩:=al3 w (.cells (tA β root x z y) 90) (.cells #[.string s.lo,.string s.hi] 154) (.cells #[.q d 4096 4096] 139); have a6:aY r d u:=ai.on (vV V (Y:=Bl.one d) (λf c=>by simp only[Bl.one]at c;subst c;exact ai.lt)) rfl;have d9:=a6.cell dn aw;have bx:u[p]'(by omega)=false:=by
  cases hv:u[p]'(by omega) with
  |false=>rfl
  |true=>exact absurd (AD.2 ⟨by omega,hv⟩) dl
 rw[bx]at d9;have f2:=a6.free;obtain⟨k,bj⟩:=nM (r.setCell ⟨d,p,none⟩ (.bool true));have fg:=ai.lt;have Z:Fr (Bl.one d) r k:=bj▸(AF (Bl.one d) r).setCell (p:=⟨d,p,none⟩) (.inl rfl) _;have d6:aY k d (u.set p true):=bj▸a6.set p;have c8:=Z.heap e3 (oN (by omega));have c5:=Z.heap dz (oN (by omega));have ag:=Z.heap b3 (oN (by omega));obtain⟨g3,g4,g5⟩:=eQ c8;obtain⟨fz,g0⟩:=bS c5;have ed:k.c (w.heap.size+1+1) 0=some (.q d 4096 4096):=by simp[World.cell?,ag]
 have ee:r.c (w.heap.size+1+1) 0=some (.q d 4096 4096):=by simp[World.cell?,b3]
 have ao:aH r β sv lv fs:=a8.on (vV V a8.lies);have ap:aH k β sv lv fs:=ao.on (Z.on (λf c=>⟨ao.lies f c,λb=>by simp only[Bl.one]at b;subst b;exact a6.apart ao c⟩));obtain⟨c7,e1,e2⟩:=gB a9;have da:0<g.ents.length:=by rw[a4,AE];exact BR.2 dk
 have bo:g.ents.length=es.length:=by rw[a4,AE]
 have bq:∀e∈g.ents,s.has e.key=true:=λe bn=>by rw[a4,AY]at bn;obtain⟨L,N,rfl⟩:=bn;exact dd L N
 have be:=tM β sv lv fs root x z y p s g k ap bs a9 (by simp[aa]) (by simp[aa]) da (bq _ (AB _)) (bq _ (AB _)) c7 e2;obtain⟨dr,c0⟩:=rZ a9 aa;have co:Hid (g.kids=[]):=c0;have cm:Hid (g.ents=es.map (·.e)):=a4;have b2:Hid (g.ents.length=es.length):=bo;have cq:Hid (u.length=4096):=aw;clear aa a4 dr c0 bo aw bx eb;refine(BK (n:=0)).1 (CN Tryz.func114 rfl trivial ?_ rfl);simp only[Tryz.ntmps114,jA,jB,jN,Nat.reduceAdd,Nat.reduceSub,jR,jO,jP,jT,jE,jF];gi_wp2_with (first
  |(refine⟨trivial,rfl,?_⟩;gi_at_call 144;refine(BK.2 be).mono ?_;clear be;rintro e m ⟨g6,rfl,⟨R,O,E,U,Q,G,rfl,c2,c3,c4,ay⟩,bl⟩;obtain⟨o,am,-,b0,-⟩:=al1 m (pgO g R O E U Q G);obtain⟨fh,fi,fj,fk,fl,fm,fn,fo⟩:=bM b0;have b5:Fr Bl.none k o:=(AA bl).trans (am▸(AF _ m).alloc _);have e0:=b5.heap c5 (λb=>b);obtain⟨g1,g2⟩:=bS e0;have bc:=mZ g s R O E U Q G o)
  |(refine⟨trivial,rfl,?_⟩;gi_at_call 145;refine(BK.2 bc).mono ?_;clear bc;rintro e B ⟨rfl,ea,cj,an⟩))
 have a0:Fr Bl.none k B:=b5.trans (AA an);have ec:m.heap.size<o.heap.size:=(gL b0);have g7:=bl.size;have aj:aY B d (u.set p true):=d6.fr a0 (λb=>b);have aq:aH B β sv lv fs:=ap.on (a0.on (λf c=>⟨ap.lies f c,λb=>b⟩));have g8:o.heap.size+1<B.heap.size:=(gL cj);have gb:w.heap.size+1+1<k.heap.size:=(gL ag);have ax:On (New k m) m B:=(am▸(CJ _ m).alloc (λf c=>c.2) _:On (New k m) m o).trans (vV an (λf c=>by have:=c.2;omega));let Rd:Bl:=λf=>f=o.heap.size\/f=o.heap.size+1\/New k m f;have dq:=mY (o.heap.size+1) o.heap.size s g.kind g.ver g.root g.next R O E U Q g.ents.length G g.data g.keys g.kids Rd B cj ea ((c2.on ax).mono (λf c=>.inr (.inr c))) ((c3.on ax).mono (λf c=>.inr (.inr c))) (.inr (.inl rfl)) (.inl rfl) c7 e1 ay.1 ay.2.1;have bz:parts s g.keys g.kids=[]:=by rw[co.out];cases g.keys<;>rfl
 have ct:Hid (parts s g.keys g.kids=[]):=bz;clear bz;let I:List (Int×Sp)->Bl->World->Prop:=λA C W=>aY W d (u.set p true)/\C=Bl.one d;have e4:=a0.heap c8 (λb=>b);have cv:=a0.heap ag (λb=>b);have e8:=(an.block _ ec).trans b0;refine fF (P:=Tryz.prog) (Has:=rI) (Rd:=Rd) rfl (enters_of Tryz.func167 (by kernel_rfl) rfl) dq (λL af S W a2=>by rw[a2];rfl) I (λ_ _ _ _=>False) ?_ (λ_ _ _ _ _ b=>b.elim) ?_ (λ_ _ _ _ b=>b.elim) (Bl.one d) ⟨aj,rfl⟩ ?_ ?_ ?_ (λ_ _ _ _ _ _ _ _ _ b=>b.elim)
 ·rintro A C W ac ⟨H,rfl⟩ av
  exact⟨H.on av rfl,rfl⟩
 ·rintro A C W ⟨H,rfl⟩ f c
  simp only[Bl.one]at c;subst c;exact H.lt
 ·rintro f (rfl|rfl|c)
  ·exact⟨oN (by omega),by omega⟩
  ·exact⟨oN (by omega),by omega⟩
  ·exact⟨λb=>by simp only[Bl.one]at b;have:=c.1;omega,by have:=c.2;omega⟩
 ·intro l A L dy af S ae W N
  rw[ct.out]at N;simp at N
 ·rintro D ae W d0 ey ⟨bh,rfl⟩ F eu d2;have e9:=F.heap e8 (oN (by omega));obtain⟨fp,fq,fr,ft,fu,fv,fw,fx⟩:=bM e9;have di:Marks w.heap.size [mk D] W:=(FJ w.heap.size B).cons (λD' _ b=>F.heap b (λe=>by simp only[Bl.one]at e;subst e;exact aj.nodef b)) (by have:=V.size;omega) d2 d0;have b1:Fr (Bl.one d) w W:=((AA V).trans Z).trans ((a0.mono (λ_ b=>b.elim)).trans F);have e6:=F.heap e4 (oN (by omega));have cy:=F.heap cv (oN (by omega));have au:aH W β sv lv fs:=aq.on (F.on (λf c=>⟨aq.lies f c,λb=>by simp only[Bl.one]at b;subst b;exact aj.apart aq c⟩));have ga:B.heap.size<=W.heap.size:=F.size;have dt:aD W (New k m) E (g.ents.flatMap Ent.cells):=(c4.on ax).on (F.on (λf c=>⟨by have:=c.2;omega,λb=>by simp only[Bl.one]at b;have:=c.1;omega⟩));have f1:=ay.2.2;clear c2 c3 c4;gi_wp2;refine wpIn_loop (λa j=>∃(h:Nat) (Y:List Deferred) (ca cb cc cd ce cf cg ch:Value),h<=g.ents.length/\a = {tmps:=#[.agg (tA β root x z y),.i p,.agg #[.string s.lo,.string s.hi],.q d 4096 4096,.p w.heap.size 0,undef,.p (w.heap.size+1) 0,.p (w.heap.size+1+1) 0,.p m.heap.size 0,undef,undef,undef,ca,undef,.q d 4096 4096,.i p,.p d p,.bool false,.q d 4096 4096,.i p,.p d p,.agg (tA β root x z y),.i p,.agg #[.string s.lo,.string s.hi],.agg #[.i g.kind,.i g.ver,.i g.root,.i g.next,.slice R g.keys.length U,.slice O g.kids.length Q,.slice E g.ents.length G,.string g.data],.agg #[.i g.kind,.i g.ver,.i g.root,.i g.next,.slice R g.keys.length U,.slice O g.kids.length Q,.slice E g.ents.length G,.string g.data],.agg #[.string s.lo,.string s.hi],.func (.func 167) #[] #[.p (o.heap.size+1) 0,.p o.heap.size 0],undef,undef,undef,undef,undef,undef,undef,.p m.heap.size 6,.slice E g.ents.length G,.i g.ents.length,.i h,cb,cc,cd,ce,cf,cg,undef,undef,undef,undef,undef,ch],defers:=Y} /\
    aY j d (marks (u.set p true) ((es.take h).flatMap En.pages))/\Fr (Bl.one d) W j/\Marks w.heap.size Y j) (λa _=>g.ents.length-(intOf (a.tmps.getD 38 undef)).toNat) ?_ ?_
  ·exact⟨0,_,undef,undef,undef,undef,undef,undef,undef,undef,AH _,rfl,by simpa[tO] using bh,AF _ _,di⟩
  ·rintro a j ⟨h,Y,ca,cb,cc,cd,ce,cf,cg,ch,f3,rfl,K,J,bd⟩
   have c9:=J.heap e6 (oN (by omega));have b4:=J.heap cy (oN (by omega));have bp:aH j β sv lv fs:=au.on (J.on (λf c=>⟨au.lies f c,λb=>by simp only[Bl.one]at b;subst b;exact bh.apart au c⟩));have g9:W.heap.size<=j.heap.size:=J.size;have ds:=dt.on (J.on (λf c=>⟨by have:=c.2;omega,λb=>by simp only[Bl.one]at b;have:=c.1;omega⟩));by_cases hlt:h<g.ents.length
   ·have br:h<es.length:=by rw[<-b2.out];exact hlt
    obtain⟨i,ah⟩:=nM (g.ents[h]);obtain⟨X,a7⟩:=nM (es[h]);have b9:i=X.e:=by rw[<-ah,<-a7];simp only[cm.out];simp
    have d7:X.ok fs:=dm X (a7▸AB br);obtain⟨em,en,db,f0,du,dv,dw,dx⟩:=ds.ent hlt;rw[ah]at du dv dw dx;subst db;obtain⟨ei,ej,ek⟩:=eQ c9;have el:j.c (w.heap.size+1+1) 0=some (.q d 4096 4096):=by simp[World.cell?,b4]
    obtain⟨t,bk,-,ci,-⟩:=al1 j (.cells #[.string i.key,.string i.val,.i i.size,.i i.over] 69);obtain⟨eo,ep,eq,er⟩:=iM ci;have b6:Fr Bl.none j t:=bk▸(AF _ j).alloc _;have e5:=b6.heap c9 (λb=>b);obtain⟨fc,fd,fe⟩:=eQ e5;have b8:=Fj root β x z y i.key i.val i.size i.over t;have cn:Hid (i=X.e):=b9;have cu:Hid (es[h]=X):=a7;clear b9 ah a7;gi_wp2_with (refine⟨trivial,rfl,?_⟩;gi_at_call 99;refine(BK.2 b8).mono ?_;clear b8;rintro e M ⟨rfl,e7,az,d8⟩);obtain⟨c6,c1,bu,bt,dg,bm⟩:=d7;rw[cn.out,bu,bt]at az;have a1:Fr Bl.none j M:=b6.trans (AA d8);have gd:t.heap.size+1<M.heap.size:=(gL az);have gc:j.heap.size<t.heap.size:=(gL ci);have ar:aH M β sv lv fs:=bp.on (a1.on (λf c=>⟨bp.lies f c,λb=>b⟩));have ak:=K.fr a1 (λb=>b);have cw:=a1.heap b4 (λb=>b);let Rc:Bl:=λf=>f=t.heap.size\/f=t.heap.size+1\/fpF β sv lv f;have de:=Fi (t.heap.size+1) t.heap.size β sv lv fs root x z y X.e.key X.e.val c6 c1 X.ch Rc M az e7 ar bs (.inr (.inl rfl)) (.inl rfl) (λf c=>.inr (.inr c)) (by omega) bm;let Ic:List (Nat×Pg)->Bl->World->Prop:=λA C ac=>aY ac d (marks (marks (u.set p true) ((es.take h).flatMap En.pages)) (A.map (·.1)))/\C=Bl.one d;refine fF (P:=Tryz.prog) (Has:=qGl) (Rd:=Rc) rfl (enters_of Tryz.func137 (by kernel_rfl) rfl) de (λL af S W a2=>by obtain⟨v,rfl,_⟩:=a2;rfl) Ic (λ_ _ _ _=>False) ?_ (λ_ _ _ _ _ b=>b.elim) ?_ (λ_ _ _ _ b=>b.elim) (Bl.one d) ⟨by simpa[tO] using ak,rfl⟩ ?_ ?_ ?_ (λ_ _ _ _ _ _ _ _ _ b=>b.elim)
    ·rintro A C W ac ⟨H,rfl⟩ av
     exact⟨H.on av rfl,rfl⟩
    ·rintro A C W ⟨H,rfl⟩ f c
     simp only[Bl.one]at c;subst c;exact H.lt
    ·have ff:=K.lt
     rintro f (rfl|rfl|c)
     ·exact⟨oN (by omega),by omega⟩
     ·exact⟨oN (by omega),by omega⟩
     ·exact⟨λb=>by simp only[Bl.one]at b;subst b;exact ak.apart ar c,ar.lies f c⟩
    ·rintro l A L dy af S ae Wc N ⟨bi,rfl⟩ a2 ex ba ev f4 f5 f6 ⟨fy,f9⟩;obtain⟨v,rfl,_⟩:=a2;obtain⟨q,b7⟩:=L;have dp:q<4096:=by
      have dj:(q,b7)∈X.ch:=by rw[N];simp
      obtain⟨et,dc,_⟩:=wL (fs:=fs) (x:=X) ⟨c6,c1,bu,bt,dg,bm⟩ q (by simp only[En.pages,AY];exact⟨_,dj,rfl⟩);exact jY dc.1 a8.small
     have f8:(q:Int)<4096:=by omega
     obtain⟨a5,ab⟩:=nM (marks (marks (u.set p true) ((es.take h).flatMap En.pages)) (A.map (·.1)));have cp:Hid (a5.set q true=marks (marks (u.set p true) ((es.take h).flatMap En.pages)) ((A++[(q,b7)]).map (·.1))):=by
      show _=_
      rw[BM,kT,ab];rfl
     rw[ab]at bi;have dh:a5.length=4096:=by rw[<-ab,gE,gE];simpa using cq.out
     have cx:=ba.heap cw (oN (by omega));clear ab;unfold iN;gi_wp2;refine⟨AF _ _,?_⟩;intro ad bf;have ge:M.heap.size<=Wc.heap.size:=ba.size;have cz:=bf.heap cx (by omega);have al:aY ad d a5:=bi.fr bf.fr (λb=>by simp only[Bl.one]at b;have:=K.lt;omega);have ef:ad.c (w.heap.size+1+1) 0=some (.q d 4096 4096):=by simp[World.cell?,cz]
     have eg:=al.cell dp dh;have eh:=al.free;gi_wp2;refine⟨Bl.one d,⟨?_,rfl⟩,(AF (Bl.one d) ad).setCell (p:=⟨d,q,none⟩) (.inl rfl) _,CQ _ _⟩;rw[<-cp.out];exact al.set q
    ·rintro ck ae Wd d1 ez ⟨bg,rfl⟩ bb ew d3;have cr:Hid (aY Wd d (marks (u.set p true) ((es.take (h+1)).flatMap En.pages))):=by
      show aY _ _ _
      rw[AK br,BU,kT,cu.out];simpa[En.pages] using bg
     have d4:Marks w.heap.size Y M:=bd.on (λD' _ b=>a1.heap b (λb=>b));have d5:Marks w.heap.size (mk ck :: Y) Wd:=d4.cons (λD' _ b=>bb.heap b (λe=>by simp only[Bl.one]at e;subst e;exact ak.nodef b)) (by have:=K.lt;have:=V.size;have:=b1.size;omega) d3 d1;have cl:Fr (Bl.one d) W Wd:=J.trans ((a1.mono (λ_ b=>b.elim)).trans bb);have df:((h+1:Nat):Int)=(h:Int)+1:=by omega
     clear bg;gi_wp2;refine⟨⟨h+1,_,_,_,_,_,_,_,_,_,by omega,by rw[df];rfl,cr.out,cl,d5⟩,?_⟩;simp[intOf];omega
   ·obtain rfl:h=g.ents.length:=by omega
    have cs:Hid (aY j d (marks u (T.pages 0 (.leaf p es)))):=by
     show aY _ _ _
     rw[b2.out,BG]at K;exact K
    clear K;gi_wp2;refine qFg rfl bd ?_;intro w' bw;exact⟨⟨_,rfl⟩,cs.out.took bw,(b1.trans J).took bw (jU _)⟩
attribute [local go_sem] CM
theorem Ie(β root c f d a p)(s:Sp)(u w)(r:p<4096)(t:u.length=4096)(h:aY w a u)(q:on u p):
  cL 114 #[.agg (tA β root c f d),.i p,.agg #[.string s.lo,.string s.hi],.q a 4096 4096] w λe w' =>
    (∃v,e=.returned v)/\aY w' a u/\Fr (Bl.one a) w w':=by
 have z:(p:Int)<4096:=by omega
 obtain⟨b,j,g,-,-,m,-⟩:=al3 w (.cells (tA β root c f d) 90) (.cells #[.string s.lo,.string s.hi] 154) (.cells #[.q a 4096 4096] 139); have i:=h.on (vV g (Y:=Bl.one a) (λA k=>by simp only[Bl.one]at k;subst k;exact h.lt)) rfl;have o:=i.cell r t;rw[(AD.1 q).2]at o;have y:b.c (w.heap.size+1+1) 0=some (.q a 4096 4096):=by simp[World.cell?,m]
 refine(BK (n:=0)).1 (CN Tryz.func114 rfl trivial ?_ rfl);simp only[Tryz.ntmps114,jA,jB,jN,Nat.reduceAdd,Nat.reduceSub,jR,jO,jP,jT,jE,jF];gi_wp2;apply qFg (B:=w.heap.size) rfl (FJ _ _);intro w' l;exact⟨⟨_,rfl⟩,i.took l,(AA g).took l (jU _)⟩
theorem Nn(β sv lv fs)(n:(fs.life==0)=false)(root c f d a):∀(h:Nat) (t:T) (s:Sp) (u:List Bool) (w:World),aU fs h t s->Shut u h t->u.length=4096->aH w β sv lv fs->aY w a u ->
  cL 114 #[.agg (tA β root c f d),.i t.place,.agg #[.string s.lo,.string s.hi],.q a 4096 4096] w λe w' =>
   (∃v,e=.returned v)/\aY w' a (marks u (T.pages h t))/\Fr (Bl.one a) w w':=by
 intro h;induction h with
 |zero =>
  intro t s u w b k l j i;cases t with
  |branch p ks kids=>exact b.elim
  |leaf p es =>
   by_cases hon:on u p
   ·rw[Dt (k (0,.leaf p es) (by simp[T.subs]) hon)];have⟨g,m,_⟩:=b;exact Ie β root c f d a p s u w (jY m.1 j.small) l i hon
   ·exact Zw β sv lv fs n root c f d a p es s u w b k l j i hon
 |succ h ih =>
  intro t s u w b k l j i;cases t with
  |leaf p es=>exact b.elim
  |branch p ks kids =>
   by_cases hon:on u p
   ·rw[Dt (k (h+1,.branch p ks kids) (by simp[T.subs]) hon)];have⟨g,m,_⟩:=b;exact Ie β root c f d a p s u w (jY m.1 j.small) l i hon
   ·exact Nm β sv lv fs n root c f d a h ih p ks kids s u w b k l j i hon
def bJ(fs:Fs)(root:Nat):Option (Nat×T)->Prop
 |none=>root=0
 |some (h,t)=>0<root/\t.place=root/\aU fs h t ⟨⟨#[]⟩,⟨#[]⟩⟩
def eA:Option (Nat×T)->List Nat
 |none=>[]
 |some (h,t)=>T.pages h t
def Au(u:List Bool):Option (Nat×T)->Prop
 |none=>True
 |some (h,t)=>Shut u h t
theorem Ga(β sv lv fs)(y:(fs.life==0)=false)(root d g f a o u w)(n:bJ fs root o)(A:Au u o)(C:u.length=4096)(l:aH w β sv lv fs)(k:aY w a u):
  cL 84 #[.agg (tA β root d g f),.q a 4096 4096] w λe w' =>
   (∃v,e=.returned v)/\aY w' a (marks u (eA o))/\Fr (Bl.one a) w w':=by
 obtain⟨c,i,b,E,-⟩:=al1 w (.cells (tA β root d g f) 90);have⟨G,H,I⟩:=eQ E;have h:=k.on (vV b (Y:=Bl.one a) (λK m=>by simp only[Bl.one]at m;subst m;exact k.lt)) rfl;cases o with
 |none =>
  have p:root=0:=n;subst p;go_enter Tryz.func84,Tryz.ntmps84;go_wp2;go_end0;rw[<-i]at h b;exact⟨⟨_,rfl⟩,h,AA b⟩
 |some x =>
  have⟨r,D⟩:=x;have⟨p,z,B⟩:=n;have j:=Nn β sv lv fs y root d g f a r D ⟨⟨#[]⟩,⟨#[]⟩⟩ u c B A C (l.on (vV b l.lies)) h;rw[z]at j;have J:((root:Int) != 0)=true:=by simp;omega
  go_enter Tryz.func84,Tryz.ntmps84;go_wp2_with (go_at_call 114;apply j.mono;rintro e F ⟨⟨v,rfl⟩,s,q⟩);go_end0;exact⟨⟨_,rfl⟩,s,(AA b).trans q⟩
attribute [local go_sem] CM
def lvs:Nat->T->Sp->Sp->List (List En)
 |_,.leaf _ es,_,_=>[es]
 |0,.branch _ _ _,_,_=>[]
 |h+1,.branch _ ks kids,s,q=>(parts s ks kids).flatMap (λx=>if x.2.meets q=true then lvs h x.1 x.2 q else [])
def wY(es:List En)(args:Array Value)(S:Bl)(w:World):Prop:=∃g v,args=#[v]/\g.ents=es.map (·.e)/\qBn w S g v/\g.ents.length<=1000
theorem mO{P n a d R D w}(c:a.results=#[])(b:w.heap[D]?=some (.deferred (some [])))(h:R (.returned (.tuple #[])) (w.putObj D (.deferred none))):
  LeavesInM Fence.wide n P a d R [{target:=.collected D,args:=#[]}] .returning w :=
 ⟨by simp,.inl ⟨D,_,rfl,run_takeDeferred b,⟨_,EG c _ _ _,h⟩⟩⟩
theorem tQ(w:World)(o k)(a:w.heap.size=k):(w.alloc o).heap[k]?=some o:=a▸aA w o
theorem zK(root f β b d c)(s q:Sp)(w):
  cL 135 #[.agg (tA β root b d c),.i f,.agg #[.string s.lo,.string s.hi],.agg #[.string q.lo,.string q.hi]] w λe w' =>
   e=.returned (.func (.func 161) #[] #[.p w.heap.size 0,.p (w.heap.size+1) 0,.p (w.heap.size+1+1) 0,.p (w.heap.size+1+1+1) 0]) /\
   w'.heap[w.heap.size]?=some (.cells (tA β root b d c) 90)/\w'.heap[w.heap.size+1]?=some (.cells #[.i f] 3) /\
   w'.heap[w.heap.size+1+1]?=some (.cells #[.string s.lo,.string s.hi] 154)/\w'.heap[w.heap.size+1+1+1]?=some (.cells #[.string q.lo,.string q.hi] 154)/\bW w w':=by
 have g:∀a,a=(((w.alloc (.cells (tA β root b d c) 90)).alloc (.cells #[.i f] 3)).alloc (.cells #[.string s.lo,.string s.hi] 154)).alloc (.cells #[.string q.lo,.string q.hi] 154) ->
   (a.heap[w.heap.size]?=some (.cells (tA β root b d c) 90)/\a.heap[w.heap.size+1]?=some (.cells #[.i f] 3) /\
   a.heap[w.heap.size+1+1]?=some (.cells #[.string s.lo,.string s.hi] 154)/\a.heap[w.heap.size+1+1+1]?=some (.cells #[.string q.lo,.string q.hi] 154)/\bW w a):=by
  rintro a rfl;refine⟨aI _ (aI _ (aI _ (aA _ _))),aI _ (aI _ (tQ _ _ _ (by simp))),aI _ (tQ _ _ _ (by simp)),tQ _ _ _ (by simp),?_⟩;exact(((bA _ _).alloc (by simp) _).alloc (by simp;omega) _).alloc (by simp;omega) _
 go_enter Tryz.func135,Tryz.ntmps135;go_wp2;go_ret;simp_all
