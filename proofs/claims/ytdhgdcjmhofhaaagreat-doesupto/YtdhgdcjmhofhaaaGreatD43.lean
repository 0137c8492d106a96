import Derived.Test.YtdhgdcjmhofhaaaGreatD42
set_option linter.all false
set_option maxRecDepth 100000
set_option maxHeartbeats 8000000
namespace Go.Proofs.YtdhgdcjmhofhaaaGreat.Tree
open Go.RowKit Go.Shelf Pages
theorem Kl{es cs}(d:cM es)(e:cJ cs):(bD es cs).length<=es.length+cs.length:=by
 have a:=mT d e;have:=Kq (l:=(bD es cs).map (λb=>b.e.key)) (m:=es.map (λb=>b.e.key)++cs.map (λc=>c.key)) (Sw (by rw[EI];exact a)) (λb g=>by
  obtain⟨f,h,rfl⟩:=AY.1 g;rw[AO];rcases(fT d e f).1 h with⟨c,a,_,rfl⟩|⟨a,_⟩
  ·exact .inr (AY.2 ⟨c,a,rfl⟩)
  grind)
 grind
theorem Ab{b β:Type}(f:b->List β):∀{l:List b}{x:b},x∈l->(f x).length<=(l.flatMap f).length
 |y :: l,x,a=>by
  rw[AJ,jK];rcases AR.1 a with rfl|a
  ·omega
  ·have:=Ab f a;omega
theorem qEo{fs h p ks b s cs}(e:aU fs (h+1) (.branch p ks b) s)(m:s.lo.size<=24)(k:cJ cs)(r:∀c∈cs,c.good)(t:∀c∈cs,s.has c.key=true):
  dX fs h ((parts s ks b).flatMap (mN (λx=>chP h x.1 x.2 (dB cs x.2)) cs))/\bK h ((parts s ks b).flatMap (mN (λx=>chP h x.1 x.2 (dB cs x.2)) cs))=bD (T.ents (h+1) (.branch p ks b)) cs:=by
 have j:=tL e m;have⟨v,w,q,_,o⟩:=dG e;have u:∀x∈parts s ks b,Bu fs h x.2 (bD (T.ents h x.1) (dB cs x.2)) (mN (λx=>chP h x.1 x.2 (dB cs x.2)) cs x):=by
  intro x f;have d:=o x f;unfold mN;split
  ·rename_i h0
   rw[AG h0,mU (dV d)];refine⟨⟨by grind,?_,by simp⟩,by simp[bK,iK],gG d,by intro n a;rw[AS]at a;subst a;exact bI _,.inl rfl⟩
   ·intro n a y l;rw[AS]at a;subst a
    rw[iK]at l;exact sR (gG d y l)
  ·exact Vn h d (gM (j x f)).2.1 (kK k x.2) (λc h=>r c (lT.1 h).1) (λc h=>(lT.1 h).2)
 have⟨g,i⟩:=qFd (fs:=fs) (h:=h) (mN (λx=>chP h x.1 x.2 (dB cs x.2)) cs) (λx=>bD (T.ents h x.1) (dB cs x.2)) (parts s ks b) u (nP s ks b v w q);exact⟨g,i.trans (De e k t (by rw[<-i];exact g.rise))⟩
theorem Ra(β sv lv fs)(j:(fs.life==0)=false)(root f i g):∀(h:Nat) (t:T) (s:Sp) (cs:List Ch) (d:Option Addr) (e:Nat) (S:Bl) (w:World),aU fs h t s->s.lo.size<=24->aH w β sv lv fs->aD w S d (cs.flatMap Ch.cells)->(∀b,S b->b<w.heap.size)->cJ cs->(∀c∈cs,c.good)->(∀c∈cs,s.has c.key=true)->cs.length<=e->((d=none/\e=0)\/∃b X,d=some ⟨b,X,none⟩)->(T.ents h t).length+cs.length<=1000000 ->
  cL 191 #[.agg (tA β root f i g),.i t.place,.agg #[.string s.lo,.string s.hi],.slice d cs.length e] w (ChR (chP h t s cs) w)
 |0,.leaf p es,s,cs,d,e,S,w,ht,h24,hf,hR,hS,hr,hg,hcs,hc,hxa,hE=>by
  have B:es.length+cs.length<=1000000:=hE;have Z:(bD es cs).length<=es.length+cs.length:=Kl (dV (h:=0) ht) hr;apply(Lf β sv lv fs j root f i g p s es cs d e S w ht hf hR hS hr hg (by omega) hc hxa (by omega)).mono;rintro Y w' ⟨v,k,rfl,M,D,y,J⟩;refine⟨v,k,rfl,M,?_,y,J⟩;show bG w' _ ((cT _).map ndT) k
  rw[uS];exact D
 |0,.branch _ _ _,s,cs,d,e,S,w,ht,_,_,_,_,_,_,_,_,_,_=>ht.elim
 |h+1,.leaf _ _,s,cs,d,e,S,w,ht,_,_,_,_,_,_,_,_,_,_=>by simp[aU]at ht
 |h+1,.branch p ks kids,s,cs,d,e,S,w,ht,h24,hf,hR,hS,hr,hg,hcs,hc,hxa,hE=>by
  have⟨a2,a5,y,_,H⟩:=dG ht;have⟨o,z⟩:=qEo ht h24 hr hg hcs;have a4:=Kl (dV ht) hr;have C:(bK h ((parts s ks kids).flatMap (mN (λa=>chP h a.1 a.2 (dB cs a.2)) cs))).length<=1000000:=by rw[z];omega
  have a1:=o.count;have l:=qEr (c:=⟨#[]⟩) o (λm _=>xS _);have I:=l.lst.count;rw[l.ents]at I;exact Vl β sv lv fs j root f i g h p s ks kids cs d e S w ht hf hR hS hr (by omega) hc hxa (λa=>chP h a.1 a.2 (dB cs a.2))
   (λa u a3 U V W r q F O N=>Ra β sv lv fs j root f i g h a.1 a.2 (dB cs a.2) U V S W (H a u) (gM ((tL ht h24) a u)).2.1 r q F (kK hr a.2) (λc h=>hg c (lT.1 h).1) (λc h=>(lT.1 h).2) O N (by
    have x:=qDq cs a.2;have a0:(T.ents h a.1).length<=(kids.flatMap (T.ents h)).length:=Ab (T.ents h) (pT (fs:=fs) u);have B:(kids.flatMap (T.ents h)).length+cs.length<=1000000:=hE;omega))
   (by omega) (pZ (oY h) ((parts s ks kids).flatMap (mN (λa=>chP h a.1 a.2 (dB cs a.2)) cs))) (by omega) (λn K=>qR (l.lst.ok n K))
   (λk Q R A W r q E G L=>Xm β sv lv fs root f i g (Hd β sv lv fs j root f i g h) _ o C k Q R A W r q E G L)
variable {W w:World} {fs:Fs} {ms:List MN} {ns:List NT}
def qCa:Option (Nat×NT)->List NT
 |none=>[]
 |some x=>[x.2]
structure sZ (w W:World) (ns:List NT) (a:Option Addr) (c:Nat) (ms:List MN):Prop where
 row:aD W (New w W) a (aL ms)
 nds:bG W (New w W) (ns.map ndT) ms
 cap:ms.length<=c
 new:bW w W
theorem sZ.len {a c}(h:sZ w W ns a c ms):ms.length=ns.length:=by have:=h.nds.1;rwa[AE]at this
theorem sZ.of_own {v}(d:W.ownsRow 0 242 5 v ms.length (aL ms))(e:bG W (New w W) (ns.map ndT) ms)(f:bW w W)(h:∀k,v.ownBlock=some k->w.heap.size<=k):∃a c,v=.slice a ms.length c/\sZ w W ns a c ms:=by
 obtain⟨a,c,rfl,g,i⟩:=bR d;exact⟨a,c,rfl,i.mono (λk b=>⟨h k b,aM d b⟩),e,g,f⟩
theorem Zz {h a c}(L:sZ w W ns a c ms)(H:dX fs h ns)(C:ns.length<=1000000):
  cL 192 #[.slice a ms.length c] W λe w'=>∃a' i ms',e=.returned (.slice a' ms'.length i)/\sZ w w' (eC ns) a' i ms':=by
 have B:=L.len;have o:∀d∈ms,d.lo.size<=24:=λd f=>by
  obtain⟨k,y,rfl⟩:=AU f;have m:k<ns.length:=by omega
  rw[(L.nds.2 k (ndT ns[k]) ms[k] (by rw[BN,jQ m];rfl) (jQ y)).lo,sI];exact qR (H.ok _ (AB m))
 apply(mD a c ms (New w W) W L.row (λg b=>b.2) (by omega) L.cap (λd f=>o d f) (λd f=>by have:=o d f;unfold ksz;omega)).mono;rintro e w' ⟨v,qs,rfl,A,j,p,l,z⟩;have D:=l.size;have r:=L.new.size;have x:bG w' (New w w') (ns.map ndT) ms:=(L.nds.on (vV l (λg b=>b.2))).mono (λg b=>⟨b.1,by have:=b.2;omega⟩);have n:=Fo (w:=w) x j (λq j=>⟨(p q j).1,(p q j).2.mono (λg b=>⟨b.1,by have:=b.2;omega⟩)⟩);rw[<-xU]at n;have⟨a',i,s,u⟩:=sZ.of_own (w:=w) (ms:=qs.map lQ) (by rw[AE];exact A) n (L.new.trans (l.mono r)) (λg b=>vJ r (z g b));exact⟨a',i,qs.map lQ,by rw[s],u⟩
def Oq:NT->Nat
 |.bran _ ks=>ks.length
 |_=>0
theorem fZ.knT {S n m}(h:fZ w S n m):m.kn=n.kids.length:=by cases h;assumption
theorem qEg {S n m}(h:fZ w S (ndT n) m):m.kn=Oq n:=by
 rw[h.knT];cases n with
 |kept=>rw[sK];rfl
 |leaf=>rw[Dp];rfl
 |bran s ks=>rw[pR];exact AE ..
theorem Vd{h n}(a:Oq n≠1):kG h n=(h,n):=by
 cases h with
 |zero=>cases n<;>rfl
 |succ h =>
  cases n with
  |kept=>rfl
  |leaf=>rfl
  |bran s ks =>
   match ks,a with
   |[],_=>rfl
   |[k],a=>exact absurd rfl a
   |k :: k' :: r,_=>simp only[kG]
theorem Tf(cs):dB cs ⟨⟨#[]⟩,⟨#[]⟩⟩=cs:=by
 unfold dB;rw[List.filter_eq_self];intro c _;exact Jw _
def qIi:Value->Nat
 |.slice _ n _=>n
 |_=>0
theorem qJg(β sv lv fs)(az:(fs.life==0)=false)(o root)(L:bJ fs root o)(u z cs S w)(a7:aH w β sv lv fs)(ap:aD w S u (cs.flatMap Ch.cells))(aq:∀b,S b->b<w.heap.size)(K:cJ cs)(a8:∀c∈cs,c.good)(ax:cs.length<=z)(ay:(u=none/\z=0)\/∃b cm,u=some ⟨b,cm,none⟩)(bu:(aX o).length+cs.length<=1000000):
  cL 173 #[.agg #[.p β 0,.i root,.slice u cs.length z]] w λe w'=>∃a c ms,e=.returned (.slice a ms.length c)/\sZ w w' (qCa (iG o cs)) a c ms:=by
 obtain⟨b6,b7,b8⟩:=Nq L K a8;have b3:=Kl (eI L) K;have ao:(bK (fU o cs).1 (fU o cs).2).length<=1000000:=by rw[b7];omega
 obtain⟨m,ar,F,cp,-⟩:=al1 w (.cells #[.p β 0,.i root,.slice u cs.length z] 90);obtain⟨d3,d4,d5⟩:=eQ cp;have O:aH m β sv lv fs:=a7.on (vV F a7.lies);have a5:=ap.on (vV F aq);have a6:∀d,S d->d<m.heap.size:=λd f=>jY (aq d f) F.size;have Q:=F.size;go_enter Tryz.func173,Tryz.ntmps173;go_upto_if 6 with fail;go_cut [3] (λv ct=>∃a c ms,v=.slice a ms.length c/\Hid (sZ w ct (fU o cs).2 a c ms))
 case first =>
  cases o with
  |none =>
   have c9:root=0:=L;subst c9;have a3:=wK β sv lv fs az 0 u z cs ⟨⟨#[]⟩,⟨#[]⟩⟩ none rfl S m O a5 a6 K (by omega) ax ay;rw[Tf]at a3;have U:Hid ((bD (cV ⟨⟨#[]⟩,⟨#[]⟩⟩ none) cs).length<=1000000):=by
    have bs:(bD (aX none) cs).length<=(aX none).length+cs.length:=b3;show(bD [] cs).length<=_
    have cx:(bD [] cs).length<=0+cs.length:=bs;omega
   have R:Hid (∀C∈bD (cV ⟨⟨#[]⟩,⟨#[]⟩⟩ none) cs,C.good fs):=jW (fs:=fs) (es:=[]) .nil K (by simp) a8;have ah:Hid ((dP esz (bD (cV ⟨⟨#[]⟩,⟨#[]⟩⟩ none) cs)).map xZ=(fU none cs).2.map ndT):=by show _=(cT _).map ndT;rw[uS];exact(uT _).symm
   obtain⟨P,cf⟩:=nM (bD (cV ⟨⟨#[]⟩,⟨#[]⟩⟩ none) cs);rw[cf]at a3 U R ah;have c0:∀d,fpF β sv lv d->d<m.heap.size:=λd f=>O.lies d f;go_wp2_with (first
    |(go_at_call 165;(with_reducible refine jC a3 ?_);rintro e X ⟨cg,rfl,bv,N⟩;have bt:=Am 195 cg (enters_of Tryz.func195 (by kernel_rfl) rfl) P _ X bv (λd f=>(by rcases f with f|f|f;have:=a6 d f;have:=N.size;omega;have:=c0 d f;have:=N.size;omega;exact f.2)) (by have:=U.out;omega))
    |(go_at_call 190;(with_reducible refine jC bt ?_);rintro e ai ⟨d6,rfl,b2,av,c3⟩;obtain⟨cq,cr,rfl,cd,cc⟩:=bR b2;have bx:=pB cq cr P (λd=>X.heap.size<=d/\d<ai.heap.size) ai (cc.mono (λd f=>⟨c3 d f,aM b2 f⟩)) (λd f=>f.2) (by have:=U.out;omega) cd (λC ce=>qA (R.out C ce)) (oQ R.out))
    |(go_at_call 189;(with_reducible refine jC bx ?_);rintro e X3 ⟨d7,qs,rfl,c7,c8,b5,aw,c4⟩))
   have cu:=N.size;have d9:=av.size;have da:=aw.size;have M:=xY (S:=New w X3) (λq b4=>⟨(b5 q b4).1,(b5 q b4).2.mono (λd f=>⟨by have:=f.1;omega,by have:=f.2;omega⟩)⟩);rw[c8,ah.out]at M;obtain⟨I,J,bj,a4⟩:=sZ.of_own (w:=w) (ms:=qs.map lL) (by rw[AE];exact c7) M (((F.trans (N.mono Q)).trans (av.mono (by omega))).trans (aw.mono (by omega))) (λd f=>by have:=c4 d f;omega);go_meet
   case rel=>exact⟨I,J,qs.map lL,bj,a4⟩
  |some C =>
   obtain⟨i,t⟩:=C;obtain⟨d2,ca,cb⟩:=L;have am:=Ra β sv lv fs az root u cs.length z i t ⟨⟨#[]⟩,⟨#[]⟩⟩ cs u z S m cb (by decide) O a5 a6 K a8 (λc _=>Jw _) ax ay bu;rw[ca]at am;have d1:¬root=0:=by omega
   go_wp2_with (go_at_call 191;(with_reducible refine jC am ?_);rintro e X ⟨v,ae,rfl,c6,M,au,c2⟩);have cu:=au.size;obtain⟨I,J,rfl,a4⟩:=sZ.of_own (w:=w) c6 (M.mono (λd f=>⟨vJ Q f.1,f.2⟩)) (F.trans (au.mono Q)) (λd f=>vJ Q (c2 d f));go_meet
   case rel=>exact⟨I,J,ae,rfl,a4⟩
 case rest =>
  obtain⟨I,J,ae,rfl,bc⟩:=hcut;have bg:Hid (∃d i,upP d i (fU o cs).2=iG o cs/\(fU o cs).2.length<=d+1/\dX fs i (fU o cs).2/\gT (fU o cs).2/\(bK i (fU o cs).2).length<=1000000):=⟨_,_,rfl,by omega,b6,b8,ao⟩;clear b6 b7 b8 b3 ao L a7 ap O a5;go_wp2;go_loopw [3] (λv ag=>∃a c ms h,v=.slice a ms.length c/\Hid (sZ w ag h a c ms)/\Hid (∃d i,upP d i h=iG o cs/\h.length<=d+1/\dX fs i h/\gT h/\(bK i h).length<=1000000)) (λv _=>qIi v)
  case atStart=>exact⟨I,J,ae,_,rfl,bc,bg⟩
  case round =>
   obtain⟨a,c,ms,h,rfl,k,x⟩:=hrel;have A:=k.out.len;by_cases hgt:1<ms.length
   ·have c1:(1:Int)<(ms.length:Int):=by omega
    obtain⟨d,i,l,G,p,a0,a1⟩:=x.out;have bw:=Zz k.out p (by have:=p.count;omega);have ab:=Fp p (by omega);have ba:Hid (∃d i,upP d i (eC h)=iG o cs/\(eC h).length<=d+1/\dX fs i (eC h)/\gT (eC h)/\(bK i (eC h)).length<=1000000):=by
     have E:2<=h.length:=by omega
     obtain⟨W,Y,cv,Z,cw⟩:=Ln p a0 (λe=>by rw[e]at E;simp at E);match h,d,E,l,G,W,Y,Z,ab with
     |[],_,E,_,_,_,_,_,_=>simp at E
     |[_],_,E,_,_,_,_,_,_=>simp at E
     |C :: y :: r,0,_,_,G,_,_,_,_=>simp at G
     |C :: y :: r,d+1,_,l,G,W,Y,Z,ab=>exact⟨d,i+1,l,by omega,W,Z,by rw[Y];exact a1⟩
    have bd:Hid ((eC h).length<ms.length):=by show _<_;omega
    clear l G p a0 a1 x A ab;go_wp2_with (go_at_call 192;(with_reducible refine jC bw ?_);rintro e d8 ⟨bh,bi,ch,rfl,an⟩);have cz:=an.len;have d0:=bd.out;exact⟨⟨bh,bi,ch,_,rfl,an,ba⟩,by simp only[qIi];omega⟩
   ·have c1:¬(1:Int)<(ms.length:Int):=by omega
    have H:Hid (∃g,(h=[]/\iG o cs=none)\/∃n,h=[n]/\OkH fs g n/\iG o cs=some (kG g n)):=by
     obtain⟨d,i,l,G,p,a0,a1⟩:=x.out;match h,l,p with
     |[],l,_=>exact⟨0,.inl ⟨rfl,by rw[<-l];cases d<;>rfl⟩⟩
     |[n],l,p=>exact⟨i,.inr ⟨n,rfl,p.ok n (by simp),by rw[<-l];cases d<;>rfl⟩⟩
     |C :: y :: r,_,_=>exfalso;rw[jB,jB]at A;omega
    obtain⟨bk,H⟩:=H.out;have H:Hid _:=H;clear x A;go_wp2;go_loopg [3] bk (λg v ag=>∃a c ms h,v=.slice a ms.length c/\Hid (sZ w ag h a c ms)/\Hid ((h=[]/\iG o cs=none)\/∃n,h=[n]/\OkH fs g n/\iG o cs=some (kG g n)))
    case atStart=>exact⟨a,c,ms,h,rfl,k,H⟩
    case round =>
     obtain⟨a,c,ms,h,rfl,k,x⟩:=hrel;have A:=k.out.len;rcases x.out with⟨rfl,b1⟩|⟨n,rfl,ad,a9⟩
     ·have c5:ms=[]:=AG A;subst c5;have V:Hid (sZ w wr (qCa (iG o cs)) a c []):=by rw[b1];exact k.out
      clear k x A b1;go_wp2;go_ret;exact⟨a,c,[],rfl,V.out⟩
     ·obtain⟨B,rfl⟩:=EL.1 A
      obtain⟨cn,co,bz,_,ci,cj,ck,cl,b9⟩:=k.out.row.nod (j:=0) (by simp);simp only[DV,DR,CS]at ci cj ck cl b9;subst bz;have ac:=k.out.nds.2 0 (ndT n) B rfl rfl;have aa:=qEg ac;by_cases f:Oq n=1
      ·rw[f]at aa;obtain⟨s,d,rfl⟩:∃s d,n=.bran s [d]:=by
        cases n with
        |kept=>simp[Oq]at f
        |leaf=>simp[Oq]at f
        |bran s ks =>
         obtain⟨d,rfl⟩:=EL.1 (show ks.length=1 from f);exact⟨s,d,rfl⟩
       obtain⟨D,rfl⟩:∃D,gk=D+1:=by
        cases gk with
        |zero=>exact ad.elim
        |succ D=>exact⟨D,rfl⟩
       rw[pR]at ac;obtain⟨_,_,_,_,_,af,bl,bm,bn,bo,bp,bq,ak,br,al,a2,aj⟩:=ac;have b0:=a2;have bb:Hid (sZ w wr [d] B.ka B.kc af):=⟨al,⟨a2,aj⟩,by have:=ak;omega,k.out.new⟩;have bf:Hid (([d]=[]/\iG o cs=none)\/∃n,[d]=[n]/\OkH fs D n/\iG o cs=some (kG D n)):=.inr ⟨d,rfl,(ad.2.2.2.2.1 d (by simp)).1,by rw[a9,yH]⟩;have be:Hid (af.length=1):=b0;rw[aa]at b9;clear bl bm bn bo bp bq ak br al a2 aj ad a9 x k f aa b0 A;go_wp2;go_roundg D
       case measure=>omega
       case rel=>exact⟨B.ka,B.kc,af,[d],by rw[be.out],bb.out,bf.out⟩
      ·have V:Hid (sZ w wr (qCa (iG o cs)) (some ⟨cn,co,none⟩) c [B]):=by rw[a9,Vd f];exact k.out
       have cy:¬((B.kn:Int)=1):=by omega
       go_wp2;go_ret;exact⟨_,c,[B],rfl,V.out⟩
def Av(b:Nat)(Sf:Bl)(f:NT->List Nat->T×List (Nat×Pg))(n:NT):Prop:=∀(m:MN) (S:Bl) (fa:Option Addr) (fc:Nat) (fr:List Nat) (wv:Value) (ws:List (Nat×ByteArray)) (w:World),fD w b Sf fa fc fr wv ws->fZ w S (ndT n) m->(∀k,S k->k<w.heap.size/\¬fpL b wv k)->(∀p∈fr,bH (p:Nat)=true)->ws.length+fr.length<=10000 ->
  cL 174 #[.pointer (some ⟨b,0,none⟩),.agg #[.string m.lo,.string m.hi,.int .i64 m.place,.slice m.ea m.en m.ec,.slice m.ka m.kn m.kc]] w (gX b Sf fr wv ws w (f n fr).1.place (f n fr).2)
def nS(f:NT->List Nat->T×List (Nat×Pg))(ns:List NT)(fr:List Nat):T×List (Nat×Pg):=
 (.branch (fr.getD (cA f ns fr).2.length 0) (ns.tail.map (λn=>n.sp.lo)) (cA f ns fr).1,
  (cA f ns fr).2++[(fr.getD (cA f ns fr).2.length 0,eU (ns.tail.map (λn=>n.sp.lo)) ((cA f ns fr).1.map T.place))])
theorem Ea(f):∀(ns:List NT) (n:NT) (fr:List Nat),cA f (ns++[n]) fr=((cA f ns fr).1++[(f n (fr.drop (cA f ns fr).2.length)).1],(cA f ns fr).2++(f n (fr.drop (cA f ns fr).2.length)).2)
 |[],n,fr=>by simp[cA]
 |y :: ns,n,fr=>by
  simp only[jF,cA,Ea f ns n,KL,jK,BX]
theorem Of(f)(ns:List NT)(fr j)(a:j<ns.length):cA f (ns.take (j+1)) fr=((cA f (ns.take j) fr).1++[(f ns[j] (fr.drop (cA f (ns.take j) fr).2.length)).1],(cA f (ns.take j) fr).2++(f ns[j] (fr.drop (cA f (ns.take j) fr).2.length)).2):=by
 rw[AK a,Ea]
theorem pD(f):∀(ns:List NT) (fr:List Nat) (j:Nat),(cA f (ns.take j) fr).2.length<=(cA f ns fr).2.length
 |[],_,_=>by simp[cA]
 |x :: ns,fr,0=>by simp[cA]
 |x :: ns,fr,j+1=>by
  have:=pD f ns (fr.drop (f x fr).2.length) j;simp only[EJ,cA,jK];omega
def cH(f:NT->List Nat->T×List (Nat×Pg))(ns:List NT)(fr:List Nat)(j:Nat):List Nat:=(cA f (ns.take j) fr).1.map T.place
theorem My(f ns fr j)(a:j<=ns.length):(cH f ns fr j).length=j:=by
 unfold cH;rw[AE,fN,AZ];omega
theorem Vq(b Sf f ns)(hn:∀n∈ns,Av b Sf f n)(ms ka kc S fa fc fr wv ws w)(h:fD w b Sf fa fc fr wv ws)(hR:aD w S ka (aL ms))(hm:bG w S (ns.map ndT) ms)(hS:∀k,S k->k<w.heap.size/\¬fpL b wv k)(hlen:ns.length<=1000)(hkc:ns.length<=kc)(hp:∀p∈fr,bH (p:Nat)=true)(hws:ws.length+fr.length<=10000)(hE:(cA f ns fr).2.length<fr.length->(eU (ns.tail.map (λn=>n.sp.lo)) ((cA f ns fr).1.map T.place)).encE=0/\(eU (ns.tail.map (λn=>n.sp.lo)) ((cA f ns fr).1.map T.place)).small):
  cL 193 #[.p b 0,.slice ka ns.length kc] w (gX b Sf fr wv ws w (nS f ns fr).1.place (nS f ns fr).2):=by
 have hml:ms.length=ns.length:=by rw[hm.1,AE]
 have xP:=aA w (.cells #[.i 2,.i 0,.i 0,.i 0,.n,.n,.n,.string ⟨#[]⟩] 80);have bP:bW w (w.alloc (.cells #[.i 2,.i 0,.i 0,.i 0,.n,.n,.n,.string ⟨#[]⟩] 80)):=bA _ _;have hLP:=h.fr bP;go_enter Tryz.func193,Tryz.ntmps193;go_wp2;go_loopw [11] (λi wr=>∃(j:Nat) (vka via:Option Addr) (vkc vic:Nat) (fa':Option Addr) (fc':Nat) (wv':Value),i=.i j/\j<=ns.length/\(cA f (ns.take j) fr).2.length<=fr.length/\wr.heap[w.heap.size]?=some (.cells #[.i 2,.i 0,.i 0,.i 0,.slice vka (eW ns j).length vkc,.slice via (cH f ns fr j).length vic,.n,.string ⟨#[]⟩] 80)/\wr.ownsRow 0 9 1 (.slice vka (eW ns j).length vkc) (eW ns j).length ((eW ns j).map .string)/\wr.ownsRow 0 3 1 (.slice via (cH f ns fr j).length vic) (cH f ns fr j).length ((cH f ns fr j).map (λn:Nat=>Value.i n))/\fD wr b Sf fa' fc' (fr.drop (cA f (ns.take j) fr).2.length) wv' (ws++(cA f (ns.take j) fr).2.map enc1)/\Fr (fpL b wv) w wr/\(∀k,wv'.ownBlock=some k->wv.ownBlock=some k\/w.heap.size<=k)/\(∀k,(Value.slice vka (eW ns j).length vkc).ownBlock=some k->w.heap.size<=k)/\(∀k,(Value.slice via (cH f ns fr j).length vic).ownBlock=some k->w.heap.size<=k)) (λi _=>ns.length-(intOf i).toNat)
 case atStart=>exact⟨0,none,none,0,0,fa,fc,wv,rfl,AH _,by simp[cA],by simpa[eW,cH,cA] using xP,by simpa[eW] using AL _ _ _ _,by simpa[cH,cA] using AL _ _ _ _,by simpa[cA] using hLP,AA bP,λk hk=>.inl hk,by simp[Value.ownBlock],by simp[Value.ownBlock]⟩
 case round =>
  obtain⟨j,vka,via,vkc,vic,fa',fc',wv',rfl,hj,hrm,xp,hoK,hoI,hL,hF,hli,hlk,hlii⟩:=hrel;have zF:=hF.size;have hpz:w.heap.size<wr.heap.size:=(gL xp);by_cases hlt:j<ns.length
  ·obtain⟨n,hnj⟩:=nM (ns[j])
   have hlt2:j<ms.length:=by omega
   obtain⟨m,hmj⟩:=nM (ms[j]);have oS:On S w wr:=hF.on (λk hk=>hS k hk);obtain⟨rb,ro,hna,hrb,n0,n1,n2,n3,n4⟩:=(hR.on oS).nod hlt2;rw[hmj]at n0 n1 n2 n3 n4;subst hna;have hnm:fZ wr S (ndT n) m:=(hm.2 j (ndT n) m (by rw[BN,jQ hlt,hnj];rfl) (by rw[jQ hlt2,hmj])).on oS;have hnn:=hn n (hnj▸AB hlt);have hlo:=hnm.lo;obtain⟨lo,hi,pl,ea,en,ec,qa,qn,qc⟩:=m;dsimp only at n0 n1 n2 n3 n4 hlo;have hlo':n.sp.lo=lo:=by rw[hlo,sI]
   have hst:=Of f ns fr j hlt;rw[hnj]at hst;obtain⟨fq,hf⟩:=nM (fr.drop (cA f (ns.take j) fr).2.length);rw[hf]at hst hL;have hle1:=pD f ns fr (j+1);have hle0:=pD f ns fr j;rw[hst]at hle1;simp only[jK]at hle1;have hfl2:fq.length=fr.length-(cA f (ns.take j) fr).2.length:=by rw[<-hf,BH]
   have hfp:∀p∈fq,bH (p:Nat)=true:=λp hpp=>hp p (BO (hf▸hpp));have nE:=aA wr (.cells #[.string lo,.string hi,.i pl,.slice ea en ec,.slice qa qn qc] 242);have bE:bW wr (wr.alloc (.cells #[.string lo,.string hi,.i pl,.slice ea en ec,.slice qa qn qc] 242)):=bA _ _;have xpE:=aI (.cells #[.string lo,.string hi,.i pl,.slice ea en ec,.slice qa qn qc] 242) xp;have hLE:=hL.fr bE;have hoKE:=CG (w:=wr) hoK (.cells #[.string lo,.string hi,.i pl,.slice ea en ec,.slice qa qn qc] 242);have hoIE:=CG (w:=wr) hoI (.cells #[.string lo,.string hi,.i pl,.slice ea en ec,.slice qa qn qc] 242);have FE:Fr (fpL b wv) w (wr.alloc (.cells #[.string lo,.string hi,.i pl,.slice ea en ec,.slice qa qn qc] 242)):=hF.trans (AA bE);have hSE:∀k,S k->k<(wr.alloc (.cells #[.string lo,.string hi,.i pl,.slice ea en ec,.slice qa qn qc] 242)).heap.size:=λk hk=>by have:=(hS k hk).1;simp;omega
   have hNd:=hnn ⟨lo,hi,pl,ea,en,ec,qa,qn,qc⟩ S fa' fc' fq wv' (ws++(cA f (ns.take j) fr).2.map enc1) (wr.alloc (.cells #[.string lo,.string hi,.i pl,.slice ea en ec,.slice qa qn qc] 242)).drew (hLE.fr ((AC _ _).drew)) (((hnm.on (vV bE (λk hk=>by have:=(hS k hk).1;omega))).on (vV ((AC _ _).drew) hSE))) (λk hk=>⟨hSE k hk,λe=>by
     rcases e with e|e
     ·exact(hS k hk).2 (.inl e)
     ·rcases hli k e with e|e
      ·exact(hS k hk).2 (.inr e)
      ·have:=(hS k hk).1;omega⟩) hfp (by rw[jK,AE];omega)
   obtain⟨pp,hpp⟩:=nM ((f n fq).1.place);rw[hpp]at hNd;have HPL:Hid (cH f ns fr (j+1)=cH f ns fr j++[pp]):=by
    show _=_
    unfold cH;rw[hst,BM,<-hpp];rfl
   have HST:Hid ((cA f (ns.take (j+1)) fr).2=(cA f (ns.take j) fr).2++(f n fq).2):=by show _=_;rw[hst]
   have HF:Hid (fr.drop (cA f (ns.take j) fr).2.length=fq):=hf;have HFU:Hid (fq.length<(f n fq).2.length->fr.length<(cA f ns fr).2.length):=λhh=>by omega
   have HRM:Hid ((f n fq).2.length<=fq.length->(cA f (ns.take (j+1)) fr).2.length<=fr.length):=λhh=>by rw[hst,jK];omega
   have HLO:Hid (0<j->eW ns (j+1)=eW ns j++[lo]):=λh0=>by rw[Ts ns j hlt h0,hnj,hlo']
   have hpln:(cH f ns fr j).length=j:=My f ns fr j hj;have hlwn:(eW ns j).length=j-1:=qAb ns j hj;have HPN:Hid ((cH f ns fr j).length=j):=hpln;have HLN:Hid ((eW ns j).length=j-1):=hlwn;obtain⟨u0,u1,u2,u3,u4,u5,u6,u7⟩:=bM xpE;obtain⟨q0,q1,q2,q3,q4⟩:=cU nE;have hb3:(cH f ns fr j).length+1<=100000:=by omega
   have hb4:(eW ns j).length+1<=100000:=by omega
   clear hst hf hle1 hle0 hfl2 hpp hlo hlo' hnj hmj hpln hlwn;go_wp2;refine dF (S:=(λX=>X.c wr.heap.size 0=some (.string lo)/\X.c wr.heap.size 1=some (.string hi)/\X.c wr.heap.size 2=some (.i pl)/\X.c wr.heap.size 3=some (.slice ea en ec)/\X.c wr.heap.size 4=some (.slice qa qn qc)/\X.c w.heap.size 5=some (.slice via (cH f ns fr j).length vic))) 8 (by kernel_rfl) ?_;have hHeld:=(show((λX=>X.c wr.heap.size 0=some (.string lo)/\X.c wr.heap.size 1=some (.string hi)/\X.c wr.heap.size 2=some (.i pl)/\X.c wr.heap.size 3=some (.slice ea en ec)/\X.c wr.heap.size 4=some (.slice qa qn qc)/\X.c w.heap.size 5=some (.slice via (cH f ns fr j).length vic))) ((wr.alloc (.cells #[.string lo,.string hi,.i pl,.slice ea en ec,.slice qa qn qc] 242)).drew) from ⟨q0,q1,q2,q3,q4,u5⟩);refine tks [(0,.p w.heap.size 5),(1,.slice via (cH f ns fr j).length vic),(2,.p b 0),(3,.agg #[.string lo,.string hi,.i pl,.slice ea en ec,.slice qa qn qc])] (by assumption) ?_;iterate 4 (refine⟨_,rfl,by kernel_rfl,λ_ _ _ h=>h,.inl ⟨by rfl,λw hSw=>by(try dsimp only at hSw);go_simp⟩,?_⟩;try simp only[pS])
   refine tke ?_;refine aR (i:=4) (by kernel_rfl) rfl (λK hK=>?_);go_simp
   (go_at_call 174;(with_reducible refine jC hNd ?_);rintro e wt ⟨hF2,hQ⟩;have hF4:Fr (fpL b wv) w wt:=FE.grow ((AF _ _).drew.trans hF2) (λk hk=>by rcases hk with hk|hk;exact .inl (.inl hk);exact(hli k hk).imp (λh=>.inr h) id);rcases hQ.symm with⟨hl1,rfl⟩|⟨hl1,rfl,fa2,fc2,wv2,hL2,hli2⟩;exact⟨rfl,gX.full hF4 (HFU.out hl1)⟩;have hF3:Fr (fpL b wv') (wr.alloc (.cells #[.string lo,.string hi,.i pl,.slice ea en ec,.slice qa qn qc] 242)) wt:=(AF _ _).drew.trans hF2;have xpT:=hF3.heap xpE (hLE.not xpE (by decide) (by decide));have nET:=hF3.heap nE (hLE.not nE (by decide) (by decide));have hoKT:=eF hoKE hF3 (hLE.notOwn hoKE (by decide) (by decide));have hoIT:=eF hoIE hF3 (hLE.notOwn hoIE (by decide) (by decide));obtain⟨u0,u1,u2,u3,u4,u5,u6,u7⟩:=bM xpT;obtain⟨q0,q1,q2,q3,q4⟩:=cU nET;have xpTA:=aI (.cells #[.i (pp:Nat)] 3) xpT;have nETA:=aI (.cells #[.i (pp:Nat)] 3) nET;obtain⟨t0,t1,t2,t3,t4,t5,t6,t7⟩:=bM xpTA;obtain⟨qq0,qq1,qq2,qq3,qq4⟩:=cU nETA)
   simp only[];refine hK.out _ _ (λ_=>⟨q0,q1,q2,q3,q4,u5⟩) ?_;clear hK K;try simp only[pS]
   refine aR (i:=5) (by kernel_rfl) rfl (λK hK=>?_);go_simp;refine hK.out _ _ (λ_=>⟨qq0,qq1,qq2,qq3,qq4,t5⟩) ?_;clear hK K;try simp only[pS]
   refine aR (i:=6) (by kernel_rfl) rfl (λK hK=>?_)
   (refine iO wt rfl (.tmp 17) (.tmp 21) 44 3 _ 1 8 rfl Tryz.underlying44 Xn rfl (by decide) (.slice via (cH f ns fr j).length vic) (cH f ns fr j).length ((cH f ns fr j).map (λn:Nat=>Value.i n)) (by simp[Act.eval,Act.put]) hoIT [.i (pp:Nat)] (by simp[Act.eval,Act.put]) rfl (by simp[Value.oneCell']) (by omega) (by omega) ?_;intro v3 w3 A3;obtain⟨g3,k3,rfl⟩:=A3.shape (by decide);have xp3:=A3.fr.heap xpT (aQ hoIT xpT (by decide));have nE3:=A3.fr.heap nET (aQ hoIT nET (by decide));obtain⟨u0,u1,u2,u3,u4,u5,u6,u7⟩:=bM xp3;obtain⟨q0,q1,q2,q3,q4⟩:=cU nE3;have pfr:=aB xp3)
   refine hK.out _ _ (λ_=>⟨q0,q1,q2,q3,q4,u5⟩) ?_;clear hK K;try simp only[pS]
   have hHeld:=(show((λX=>X.c wr.heap.size 0=some (.string lo)/\X.c wr.heap.size 1=some (.string hi)/\X.c wr.heap.size 2=some (.i pl)/\X.c wr.heap.size 3=some (.slice ea en ec)/\X.c wr.heap.size 4=some (.slice qa qn qc)/\X.c w.heap.size 5=some (.slice via (cH f ns fr j).length vic))) w3 from ⟨q0,q1,q2,q3,q4,u5⟩);refine lS (i:=7) (v:=.p w.heap.size 5) rfl (by kernel_rfl) (λ_ _ _ h=>h) (.inl ⟨by rfl,λw hSw=>by(try dsimp only at hSw);go_simp⟩) (by assumption) (λhHeld=>?_);try simp only[pS]
   refine aR (i:=8) (by kernel_rfl) rfl (λK hK=>?_);go_simp;refine hK.out _ _ (λe=>by cases e) ?_;clear hK K;try simp only[pS]
   refine cY (by kernel_rfl) ?_ _
   all_goals
    obtain⟨w4,hw4⟩:=nM (w3.setCell ⟨w.heap.size,5,none⟩ (.q g3 ((cH f ns fr j).length+1) k3));rw[hw4];have f4:Fr (Bl.one w.heap.size) w3 w4:=hw4▸(AF (Bl.one w.heap.size) w3).setCell (p:=⟨w.heap.size,5,none⟩) (.inl rfl) _;have xp4:w4.heap[w.heap.size]?=some (.cells #[.i 2,.i 0,.i 0,.i 0,.slice vka (eW ns j).length vkc,.q g3 ((cH f ns fr j).length+1) k3,.n,.string ⟨#[]⟩] 80):=by rw[<-hw4];have:=aC xp3 5 (.q g3 ((cH f ns fr j).length+1) k3);simpa using this
    have nE4:=f4.heap nE3 (oN (by omega));have hoI4:=eF A3.row f4 (λk hk e=>by simp only[Bl.one]at e;subst e;exact aQ A3.row xp3 (by decide) hk);have hoK3:=eF hoKT A3.fr (λk hk e=>by rcases dJ hoKT hoIT (by decide) with h1|h1;rw[h1]at hk;cases hk;exact h1 (hk.trans e.symm));have hoK4:=eF hoK3 f4 (λk hk e=>by simp only[Bl.one]at e;subst e;exact aQ hoK3 xp3 (by decide) hk);have hL3:=hL2.beside A3.fr (λk hk=>hL2.notOwn hoIT (by decide) (by decide) k hk) (λk hk hs=>by have h1:=hlii k hk;have h2:=(h.apart k hs).1;omega);have hL4:=hL3.beside f4 (λk hk=>by simp only[Bl.one]at hk;subst hk;exact hL3.not xp3 (by decide) (by decide)) (λk hk hs=>by simp only[Bl.one]at hk;have h2:=(h.apart k hs).1;omega);have F3:Fr (fpL b wv) w wt:=hF4;have F4:Fr (fpL b wv) w w4:=(F3.grow A3.fr (λk hk=>.inr (hlii k hk))).grow f4 (λk hk=>.inr (by simp only[Bl.one]at hk;omega));have hli4:∀k,wv2.ownBlock=some k->wv.ownBlock=some k\/w.heap.size<=k:=λk hk=>by
     rcases hli2 k hk with h1|h1
     ·exact hli k h1
     ·have h2:wr.heap.size+1<=k:=by simpa using h1
      exact .inr (by omega)
    have hli3:∀k,(Value.q g3 ((cH f ns fr j).length+1) k3).ownBlock=some k->w.heap.size<=k:=λk hk=>by
     rcases A3.lies k hk with h1|h1
     ·exact hlii k h1
     ·have:=F3.size;omega
    have HI:Hid (w4.ownsRow 0 3 1 (.q g3 (cH f ns fr (j+1)).length k3) (cH f ns fr (j+1)).length ((cH f ns fr (j+1)).map (λn:Nat=>Value.i n))):=by
     rw[HPL.out,jK,AM,BM];exact hoI4
    have HLL:Hid (fD w4 b Sf fa2 fc2 (fr.drop (cA f (ns.take (j+1)) fr).2.length) wv2 (ws++(cA f (ns.take (j+1)) fr).2.map enc1)):=by
     rw[HST.out,jK,BM,<-KL,HF.out,<-BX];exact hL4
    have HPLn:Hid ((cH f ns fr (j+1)).length=(cH f ns fr j).length+1):=by show _=_;rw[HPL.out,jK];rfl
    obtain⟨v0,v1,v2,v3',v4,v5',v6,v7⟩:=bM xp4;obtain⟨q0,q1,q2,q3,q4⟩:=cU nE4;have pfr4:=aB xp4;have nfr4:=aB nE4;clear u0 u1 u2 u3 u4 u5 u6 u7 hw4 hNd xpTA nETA qq0 qq1 qq2 qq3 qq4 t0 t1 t2 t3 t4 t5 t6 t7 n0 n1 n2 n3 n4;by_cases hj0:0<j
    ·have hj0':(0:Int)<(j:Int):=by omega
     go_wp2_with (at_builtin;refine fK w4 rfl (.tmp 27) (.tmp 31) 60 9 _ 1 16 rfl Tryz.underlying60 qZ rfl (by decide) (.slice vka (eW ns j).length vkc) (eW ns j).length ((eW ns j).map .string) rfl hoK4 [.string lo] (by simp[Act.eval]) rfl (by simp[Value.oneCell']) (by omega) (by omega) ?_;intro vv5 w5 A5;obtain⟨g5,k5,rfl⟩:=A5.shape (by decide);have xp5:=A5.fr.heap xp4 (aQ hoK4 xp4 (by decide));obtain⟨z0,z1,z2,z3,z4,z5,z6,z7⟩:=bM xp5;have pfr5:=aB xp5);have f6:Fr (Bl.one w.heap.size) w5 (w5.setCell ⟨w.heap.size,4,none⟩ (.q g5 ((eW ns j).length+1) k5)):=(AF (Bl.one w.heap.size) w5).setCell (p:=⟨w.heap.size,4,none⟩) (.inl rfl) _;have xp6:=aC xp5 4 (.q g5 ((eW ns j).length+1) k5);have hoI5:=eF HI.out A5.fr (λk hk e=>by rcases dJ HI.out hoK4 (by decide) with h1|h1;rw[h1]at hk;cases hk;exact h1 (hk.trans e.symm));have hoI6:=eF hoI5 f6 (λk hk e=>by simp only[Bl.one]at e;subst e;exact aQ hoI5 xp5 (by decide) hk);have hoK6:=eF A5.row f6 (λk hk e=>by simp only[Bl.one]at e;subst e;exact aQ A5.row xp5 (by decide) hk);have hL5:=HLL.out.beside A5.fr (λk hk=>HLL.out.notOwn hoK4 (by decide) (by decide) k hk) (λk hk hs=>by have h1:=hlk k hk;have h2:=(h.apart k hs).1;omega);have hL6:=hL5.beside f6 (λk hk=>by simp only[Bl.one]at hk;subst hk;exact hL5.not xp5 (by decide) (by decide)) (λk hk hs=>by simp only[Bl.one]at hk;have h2:=(h.apart k hs).1;omega);have hlw:=HLO.out hj0;have hlwl:(eW ns (j+1)).length=(eW ns j).length+1:=by rw[hlw,jK];rfl
     refine⟨⟨j+1,some ⟨g5,0,none⟩,some ⟨g3,0,none⟩,k5,k3,fa2,fc2,wv2,by simp,by omega,HRM.out hl1,?_,?_,hoI6,hL6,(F4.grow A5.fr (λk hk=>.inr (hlk k hk))).grow f6 (λk hk=>.inr (by simp only[Bl.one]at hk;omega)),hli4,?_,?_⟩,by simp[intOf];omega⟩
     ·rw[hlwl,HPLn.out];simpa using xp6
     ·rw[hlwl,hlw,BM];exact hoK6
     ·intro k hk
      rw[hlwl]at hk;rcases A5.lies k hk with h1|h1
      ·exact hlk k h1
      ·have:=F4.size;omega
     ·intro k hk
      rw[HPLn.out]at hk;exact hli3 k hk
    ·have hj0':¬(0:Int)<(j:Int):=by omega
     have hj00:j=0:=by omega
     have hl1:eW ns (j+1)=eW ns j:=by rw[hj00,qAa];rfl
     have HL1:Hid (eW ns (j+1)=eW ns j):=hl1;have HJ0:Hid (j=0):=hj00;clear hl1 hj00;go_wp2;refine⟨⟨j+1,vka,some ⟨g3,0,none⟩,vkc,k3,fa2,fc2,wv2,by simp,by omega,HRM.out hl1,?_,?_,HI.out,HLL.out,F4,hli4,?_,?_⟩,by simp[intOf];omega⟩
     ·rw[HL1.out,HPLn.out];exact xp4
     ·rw[HL1.out];exact hoK4
     ·intro k hk;rw[HL1.out]at hk;exact hlk k hk
     ·intro k hk
      rw[HPLn.out]at hk;exact hli3 k hk
  ·obtain rfl:j=ns.length:=by omega
   rw[BG]at hL;have hlw:eW ns ns.length=ns.tail.map (λn=>n.sp.lo):=by unfold eW;rw[BG]
   have hpw:cH f ns fr ns.length=(cA f ns fr).1.map T.place:=by unfold cH;rw[BG]
   rw[hlw]at xp hoK hlk;rw[hpw]at xp hoI hlii;obtain⟨los,hlos⟩:=nM (ns.tail.map (λn=>n.sp.lo));obtain⟨pls,hpls⟩:=nM ((cA f ns fr).1.map T.place);rw[hlos]at xp hoK hlk hE;rw[hpls]at xp hoI hlii hE;rw[BG]at hrm;obtain⟨a1,c1,e1,hc1,hrowK⟩:=bR hoK;simp only[AP,CT]at e1;obtain⟨rfl,rfl⟩:=e1;obtain⟨a2,c2,e2,hc2,hrowI⟩:=bR hoI;simp only[AP,CT]at e2;obtain⟨rfl,rfl⟩:=e2;have hPg:=Da b Sf fa' fc' _ wv' _ (eU los pls) vka via none vkc vic 0 (λk=>(Value.slice vka los.length vkc).ownBlock=some k\/(Value.slice via pls.length vic).ownBlock=some k) wr hL ⟨hrowK.mono (λk hk=>.inl hk),(by
     have e:(eU los pls).kids.map (Value.int .i64)=pls.map (λn:Nat=>Value.i n):=by simp[eU,JJ]
     rw[e];exact hrowI.mono (λk hk=>.inr hk)),.inl rfl⟩ (λk hk=>by rcases hk with hk|hk;exact aM hoK hk;exact aM hoI hk) (λe=>by rcases e with e|e;exact hL.notOwn hoK (by decide) (by decide) _ e (.inl rfl);exact hL.notOwn hoI (by decide) (by decide) _ e (.inl rfl)) (λh0=>by rw[BH]at h0;exact(hE (by omega)).symm) (by rw[jK,AE];omega)
   have e1:(eU los pls).kids.length=pls.length:=by simp[eU]
   rw[e1]at hPg;have e2:(eU los pls).ents.length=0:=rfl;rw[e2]at hPg;have e4:(fr.drop (cA f ns fr).2.length).getD 0 0=fr.getD (cA f ns fr).2.length 0:=by simp[DJ]
   rw[e4]at hPg;have HQ:Hid (∀e w',gX b Sf fr wv ws w (fr.getD (cA f ns fr).2.length 0) ((cA f ns fr).2++[(fr.getD (cA f ns fr).2.length 0,eU los pls)]) e w'->gX b Sf fr wv ws w (nS f ns fr).1.place (nS f ns fr).2 e w'):=λe w' h=>by rw[nS,hlos,hpls];exact h
   obtain⟨pl,hpl⟩:=nM (fr.getD (cA f ns fr).2.length 0);rw[hpl]at hPg HQ;change cL _ #[_,.agg #[.i 2,.i 0,.i 0,.i 0,.slice vka los.length vkc,.slice via pls.length vic,.n,.string ⟨#[]⟩]] wr _ at hPg;generalize eU los pls=pg at hPg HQ;obtain⟨v0,v1,v2,v3',v4,v5',v6,v7⟩:=bM xp;clear e1 e2 e4 hE hlos hpls hpl hlw hpw;go_wp2_with (go_at_call 209;(with_reducible refine jC hPg ?_);rintro e wp ⟨hF2,hQ⟩;rcases hQ.symm with⟨hl2,rfl⟩|⟨hl2,rfl,hX⟩;exact⟨rfl,HQ.out _ _ (gX.seq hF hli hrm ⟨hF2,.inr ⟨hl2,rfl⟩⟩)⟩);go_ret;exact HQ.out _ _ (gX.seq hF hli hrm ⟨hF2,.inl ⟨hl2,rfl,hX⟩⟩)
theorem sU{a:Type}(f:a->List UInt8)(b):∀(l:List a),(∀x∈l,(f x).length<=b)->(l.flatMap f).length<=b * l.length
 |[],_=>by simp
 |x :: l,h=>by
  have e:=h x (by simp);have g:=sU f b l (λd c=>h d (by simp[c]));rw[AJ,jK,jB,Nat.mul_succ];omega
theorem Ro{a b}(h:a.length<=1000)(i:b.length<=1000)(e:∀k∈a,k.size<=24):(eU a b).small:=by
 refine⟨by simp[eU];omega,by simp[eU];omega,by simp[eU],by simp[eU],?_,by simp[eU,mG,aK],AH _⟩
 ·have d:=sU (beB 2) 2 (b.map (λn:Nat=>(n:Int))) (λc _=>by rw[aK];exact jU _)
  have g:=sU dQ 1000 a (λc f=>by have:=e c f;simp[dQ,aK];omega);rw[AE]at d;show(eM a (b.map (λn:Nat=>(n:Int)))).length<=_
  simp only[eM,jK,aK];omega
theorem Hy(b u f a s)(K:∀fr,f (.kept a s) fr=(a,[]))(P:0<a.place):Av b u f (.kept a s):=by
 intro M S v x fr N a3 w I n Q R V;rw[K];have⟨r,m,c,g,i,h,o,q,p⟩:=M;obtain⟨d,l,e,O,-⟩:=al1 w (.cells #[.string r,.string m,.i c,.slice g i h,.slice o q p] 242);have⟨X,Y,Z,a0,a1⟩:=cU O;have J:=I.fr e;rw[sK]at n;have⟨_,_,_,_,_,a2,y,B,j,C,D,E,F,G,H,z,A⟩:=n;have k:c=a.place:=j;have U:((c:Int) != 0)=true:=by simp;omega
 have t:Hid (c=a.place):=k;clear y B j k C D E F G H z A;go_enter Tryz.func174,Tryz.ntmps174;go_wp2;go_ret;exact⟨AA e,.inl ⟨AH _,by rw[t.out];rfl,v,x,N,by simpa using J,λW L=>.inl L⟩⟩
theorem Zp(b k f g s ns)(a4:∀fr,f (.bran s ns) fr=nS g ns fr)(J:0<ns.length)(a7:∀n∈ns,Av b k g n)(a6:ns.length<=1000)(a1:∀fr,(nS g ns fr).2.length<=fr.length->(∀p∈fr,bH (p:Nat)=true)->(eU (ns.tail.map (λn=>n.sp.lo)) ((cA g ns fr).1.map T.place)).encE=0/\(eU (ns.tail.map (λn=>n.sp.lo)) ((cA g ns fr).1.map T.place)).small):Av b k f (.bran s ns):=by
 intro m S O P fr ac ab w Z I j K a8;rw[a4];have a5:(nS g ns fr).2.length=(cA g ns fr).2.length+1:=by rw[nS];simp
 have⟨M,H,aa,v,N,y,r,L,t⟩:=m;rw[pR]at I;have⟨_,_,_,_,_,a9,Q,R,B,C,D,X,l,Y,E,z,A⟩:=I;have U:aa=0:=B;have V:N=0:=C;have W:L=ns.length:=by have:L=(ns.map ndT).length:=D;rwa[AE]at this
 subst U V W;obtain⟨h,G,d,ad,-⟩:=al1 w (.cells #[.string M,.string H,.i 0,.slice v 0 y,.slice r ns.length t] 242);have⟨ah,ai,aj,ak,al⟩:=cU ad;have o:=Vq b k g ns a7 a9 r t S O P fr ac ab h (Z.fr d) (E.on (vV d (λc e=>(j c e).1))) (⟨z,λi c x a b=>(A i c x a b).on (vV d (λc e=>(j c e).1))⟩) (λc e=>⟨jY (j c e).1 d.size,(j c e).2⟩) a6 (by rw[AE]at l;exact l) K a8 (λae=>a1 fr (by omega) K);have af:¬ns=[]:=λu=>by rw[u]at J;simp at J
 have ag:(0:Int)<(ns.length:Int):=by omega
 generalize (nS g ns fr).1.place=pp at o⊢;generalize (nS g ns fr).2=lp at o⊢;clear Q R B C D X l Y E z A a5;go_enter Tryz.func174,Tryz.ntmps174;go_wp2_with (go_at_call 193;(with_reducible apply jC o);intro u am ⟨F,a2⟩;rcases a2.symm with⟨q,rfl⟩|⟨q,rfl,a3⟩;exact⟨rfl,gX.ahead (AA d) ⟨F,.inr ⟨q,rfl⟩⟩⟩);go_ret;exact gX.ahead (AA d) ⟨F,.inl ⟨q,rfl,a3⟩⟩
theorem Tj (b c){s:Sp}{es:List En}(H:OkH fs 0 (.leaf s es)):Av b c (eB 0) (.leaf s es):=by
 intro e S g h a q p w i d j m n;have f:eB 0 (.leaf s es) a=kW (.leaf s es) a:=pU _ a;rw[f];have l:fZ w S (nd0 (.leaf s es)) e:=by rw[Dp]at d;exact d
 exact Tl b c fs s es (qQ H) e S g h a q p w i l (λo k=>(j o k).1) (Bg H) m n
theorem Tm (b c){h:Nat}{s:Sp}{ks:List NT}(H:StH fs (h+1) (.bran s ks))(o:∀n∈ks,Av b c (eB h) n):Av b c (eB (h+1)) (.bran s ks):=by
 have⟨g,q,t,r,_⟩:=H.kids;have f:ks.length<=1000:=by have:=Jt fY 3 ks (λn _=>by unfold fY;omega);omega
 have e:∀a,eB (h+1) (.bran s ks) a=nS (eB h) ks a:=λa=>by simp only[eB,nS]
 refine Zp b c (eB (h+1)) (eB h) s ks e (by omega) o f (λa k m=>⟨?_,Ro (by rw[AE,List.length_tail];omega) (by rw[AE,fN];exact f) (λu j=>?_)⟩)
 ·have d:=Ec (h+1) a H (by rw[e];exact k) m
  rw[e]at d;generalize hPG:eU (ks.tail.map (λn=>n.sp.lo)) ((cA (eB h) ks a).1.map T.place)=pg at d⊢;have i:(a.getD (cA (eB h) ks a).2.length 0,pg)∈(nS (eB h) ks a).2:=by rw[nS,hPG];exact GM _ (List.mem_singleton_self _)
  exact d _ i
 ·obtain⟨p,l,rfl⟩:=AY.1 j
  exact qR (g.ok p (List.mem_of_mem_tail l))
theorem qJy (b a h):∀(n:NT),StH fs h n->Av b a (eB h) n:=by
 induction h with
 |zero =>
  intro n H;cases n with
  |kept t s=>exact Hy b a (eB 0) t s (kD 0 t s) (lH H.ok t s rfl)
  |leaf s es=>exact Tj b a H.ok
  |bran=>exact H.elim
 |succ h ih =>
  intro n H;cases n with
  |kept t s=>exact Hy b a (eB (h+1)) t s (kD (h+1) t s) (lH H.ok t s rfl)
  |leaf=>exact H.elim
  |bran s ks=>exact Tm b a H (λn c=>ih n (H.kids.2.2.1 n c))
def Kp(o:Option (Nat×T))(cs:List Ch):Option (Nat×NT):=iG o cs
structure Vy (fs:Fs) (o:Option (Nat×T)) (cs:List Ch):Prop where
 good:∀c∈cs,c.good
 size:(aX o).length+cs.length<=1000000
structure qGi (fs:Fs) (N:Option (Nat×NT)) (fr:List Nat):Prop where
 st:∀x,N=some x->StH fs x.1 x.2
 few:fr.length<=10000
 place:∀p∈fr,bH (p:Nat)=true
theorem qDj(β sv lv fs)(hl:(fs.life==0)=false)(o root)(hro:bJ fs root o)(hf2:oV o)(ca cc cs S fa fc fr Sf w)(hf:aH w β sv lv fs)(hR:aD w S ca (cs.flatMap Ch.cells))(hS:∀b,S b->b<w.heap.size)(hr:cJ cs)(hn:cs.length<=1000000)(hc:cs.length<=cc)(hca:(ca=none/\cc=0)\/∃b off,ca=some ⟨b,off,none⟩)(hG:Vy fs o cs)(hFr:aD w Sf fa (fr.map (λn:Nat=>Value.i n)))(hSf:∀b,Sf b->b<w.heap.size)(hfs:fr≠[]->∃b0 o0,fa=some ⟨b0,o0,none⟩)(hfc:fr.length<=fc)(hT:qGi fs (Kp o cs) fr):
  cL 157 #[.agg #[.p β 0,.i (root:Nat),.slice ca cs.length cc],.slice fa fr.length fc] w λe w'=>bW w w'/\(((bZ o cs fr).2.length<=fr.length/\∃wa wc,e=.returned (.agg #[.i (rootOf (bZ o cs fr).1:Nat),.slice wa (bZ o cs fr).2.length wc])/\aD w' (New w w') wa (((bZ o cs fr).2.map enc1).flatMap dD)/\(bZ o cs fr).2.length<=wc)\/(fr.length<(bZ o cs fr).2.length/\e=.panicked (sS 8))):=by
 obtain⟨N,hNd⟩:=nM (Kp o cs);have HPL:Hid (bZ o cs fr=bO N fr):=by show _=_;unfold bZ;rw[<-hNd];rfl
 rw[hNd]at hT;obtain⟨W1,hW1,B1,t1,p1,l1,z1⟩:=al3 w (Wm β (root:Nat) ca cs.length cc) (.cells #[.i 0,.n] 193) (.cells #[.slice fa fr.length fc,.n] 238); obtain⟨m0,m1,m2⟩:=eQ t1;have hGr:=qJg β sv lv fs hl o root hro ca cc cs S W1 (hf.on (vV B1 hf.lies)) (hR.on (vV B1 hS)) (λk hk=>jY (hS k hk) B1.size) hr hG.good hc hca hG.size;rw[show iG o cs=N from hNd]at hGr;have hLay1:fD W1 (w.heap.size+1+1) Sf fa fc fr .n []:=⟨l1,hFr.on (vV B1 hSf),hfs,hfc,AL _ _ _ _,λk hk=>⟨by have:=hSf k hk;omega,by have:=hSf k hk;omega,by simp[Value.ownBlock]⟩⟩;have HZ:Hid (W1.heap.size=w.heap.size+3):=z1;obtain⟨lq0,lq1⟩:=bS l1;have lfr:=aB l1;have hset:W1.setCell ⟨w.heap.size+1+1,1,none⟩ .n=W1:=eD l1 rfl;clear hNd hf hR hro z1;go_enter Tryz.func157,Tryz.ntmps157;go_wp2_with (go_at_call 173;(with_reducible refine jC hGr ?_);rintro e X ⟨a,c,ms,rfl,hL⟩);have zX:=hL.new.size;have hLayX:=hLay1.fr hL.new;have pX:=(hL.new.block _ (by have:=HZ.out;omega)).trans p1;have HH:Hid (sZ W1 X (qCa N) a c ms/\fD X (w.heap.size+1+1) Sf fa fc fr .n []/\X.heap[w.heap.size+1]?=some (.cells #[.i 0,.n] 193)):=⟨hL,hLayX,pX⟩;have hlen:=hL.len;have HBE:Hid (∀wr,Fr (fpL (w.heap.size+1+1) .n) X wr->bW w wr):=λwr hFx=>by
  have hz:=HZ.out;exact(B1.trans (hL.new.mono B1.size)).trans (hFx.below (by omega) (λk hk=>by rcases hk with hk|hk;omega;simp[Value.ownBlock]at hk))
 have HFIN:Hid (∀(wr:World) (fa':Option Addr) (fc':Nat) (fr':List Nat) (wv:Value) (rt:Int),fD wr (w.heap.size+1+1) Sf fa' fc' fr' wv ((bO N fr).2.map enc1)->rt=(rootOf (bO N fr).1:Nat)->Fr (fpL (w.heap.size+1+1) .n) X wr->(∀k,wv.ownBlock=some k->X.heap.size<=k)->wr.heap[w.heap.size+1]?=some (.cells #[.i 0,.n] 193)->bW w wr/\∃wa wc,wv=.slice wa (bO N fr).2.length wc/\(bO N fr).2.length<=wc/\wr.c (w.heap.size+1+1) 1=some (.slice wa (bO N fr).2.length wc)/\bW w ((wr.setCell ⟨w.heap.size+1,0,none⟩ (.i rt)).setCell ⟨w.heap.size+1,1,none⟩ (.slice wa (bO N fr).2.length wc))/\((wr.setCell ⟨w.heap.size+1,0,none⟩ (.i rt)).setCell ⟨w.heap.size+1,1,none⟩ (.slice wa (bO N fr).2.length wc)).heap[w.heap.size+1]?=some (.cells #[.i rt,.slice wa (bO N fr).2.length wc] 193)/\aD ((wr.setCell ⟨w.heap.size+1,0,none⟩ (.i rt)).setCell ⟨w.heap.size+1,1,none⟩ (.slice wa (bO N fr).2.length wc)) (New w ((wr.setCell ⟨w.heap.size+1,0,none⟩ (.i rt)).setCell ⟨w.heap.size+1,1,none⟩ (.slice wa (bO N fr).2.length wc))) wa (((bO N fr).2.map enc1).flatMap dD)):=by
  intro wr fa' fc' fr' wv rt hLa hrt hFx hwv hpl;have hz:=HZ.out;have zF:=hFx.size;have hBw:bW w wr:=HBE.out wr hFx;have hown:=hLa.own;rw[AE]at hown;obtain⟨wa,wc,rfl,hwc,hrow⟩:=bR hown;have hc1:=(bS hLa.box).2;have e1:=aC (aC hpl 0 (.i rt)) 1 (.slice wa (bO N fr).2.length wc);have fP:Fr (Bl.one (w.heap.size+1)) wr ((wr.setCell ⟨w.heap.size+1,0,none⟩ (.i rt)).setCell ⟨w.heap.size+1,1,none⟩ (.slice wa (bO N fr).2.length wc)):=((AF (Bl.one (w.heap.size+1)) wr).setCell (p:=⟨w.heap.size+1,0,none⟩) (.inl rfl) _).setCell (p:=⟨w.heap.size+1,1,none⟩) (.inl rfl) _;refine⟨hBw,wa,wc,rfl,hwc,hc1,hBw.trans (fP.below hBw.size (oK (by omega))),by simpa using e1,?_⟩;have zP:=fP.size;refine(hrow.on (fP.on (λk hk=>⟨aM hown hk,λe=>by simp only[Bl.one]at e;have:=hwv k hk;omega⟩))).mono (λk hk=>⟨by have:=hwv k hk;omega,by have:=aM hown hk;omega⟩)
 have pb:=aB pX;rcases BS 0 ms.length with h0|h0
 ·obtain⟨x,hNx⟩:∃x,N=some x:=by
   cases N with
   |none=>have:ms.length=0:=hlen;omega
   |some x=>exact⟨x,rfl⟩
  have htN:qCa N=[x.2]:=by rw[hNx];rfl
  have h01:ms.length=1:=by rw[hlen,htN];rfl
  obtain⟨rb,ro,hra,hrb,n0,n1,n2,n3,n4⟩:=hL.row.nod h0;subst hra;obtain⟨m,hm⟩:=nM (ms[0]);have hnd:fZ X (New W1 X) (ndT x.2) m:=hL.nds.2 0 (ndT x.2) m (by rw[htN];rfl) (by rw[jQ h0,hm]);rw[hm]at n0 n1 n2 n3 n4;obtain⟨lo,hi,pl,ea,en,ec,ka,kn,kc⟩:=m;dsimp only at n0 n1 n2 n3 n4;simp only[DV,DR]at n0 n1 n2 n3 n4;have xE:=aA X (.cells #[.string lo,.string hi,.i pl,.slice ea en ec,.slice ka kn kc] 242);have bE:bW X (X.alloc (.cells #[.string lo,.string hi,.i pl,.slice ea en ec,.slice ka kn kc] 242)):=bA _ _;obtain⟨X',hX'⟩:∃X',X.alloc (.cells #[.string lo,.string hi,.i pl,.slice ea en ec,.slice ka kn kc] 242)=X':=⟨_,rfl⟩;rw[hX']at xE bE;obtain⟨q0,q1,q2,q3,q4⟩:=cU xE;have hz:=HZ.out;have hNo:=qJy (w.heap.size+1+1) Sf x.1 x.2 (hT.st x hNx) ⟨lo,hi,pl,ea,en,ec,ka,kn,kc⟩ (New W1 X) fa fc fr .n [] X' (hLayX.fr bE) (hnd.on (vV bE (λk hk=>hk.2))) (λk hk=>⟨by have:=hk.2;have:=bE.size;omega,λe=>by rcases e with e|e;have:=hk.1;omega;simp[Value.ownBlock]at e⟩) hT.place (by have:=hT.few;simpa using this);have hNo:cL 174 #[.p (w.heap.size+1+1) 0,.agg #[.string lo,.string hi,.i pl,.slice ea en ec,.slice ka kn kc]] X' (gX (w.heap.size+1+1) Sf fr .n [] X' (rootOf (bO N fr).1) (bO N fr).2):=by rw[hNx];exact hNo
  clear hNx;have HPX:Hid (∀wr,Fr (fpL (w.heap.size+1+1) .n) X' wr->wr.heap[w.heap.size+1]?=some (.cells #[.i 0,.n] 193)/\Fr (fpL (w.heap.size+1+1) .n) X wr):=λwr hfr=>⟨hfr.heap ((bE.block _ (by have:=(gL pX);omega)).trans pX) (λe=>by rcases e with e|e;omega;simp[Value.ownBlock]at e),(AA bE).trans hfr⟩;rw[h01];have zE:=bE.size;clear hlen h01 h0 hm hnd xE bE hL hLayX pX hz htN;go_loopw [6,14] (λr i wq=>(i=.i 0/\r=.i 0/\wq=X)\/(i=.i 1/\(bO N fr).2.length<=fr.length/\∃fa' fc' fr' wv,r=.i (rootOf (bO N fr).1:Nat)/\Hid (fD wq (w.heap.size+1+1) Sf fa' fc' fr' wv ((bO N fr).2.map enc1)/\Fr (fpL (w.heap.size+1+1) .n) X wq/\(∀k,wv.ownBlock=some k->X.heap.size<=k)/\wq.heap[w.heap.size+1]?=some (.cells #[.i 0,.n] 193)))) (λ_ i _=>1-(intOf i).toNat)
  case atStart=>exact .inl ⟨rfl,rfl,rfl⟩
  case round =>
   rcases hrel with⟨rfl,rfl,hwr⟩|⟨rfl,hrm,fa',fc',fr',wv,rfl,HQ⟩
   ·subst hwr
    go_wp2_with (go_at_call 174;(with_reducible refine jC hNo ?_);rintro e X2 ⟨hF2,hQ⟩;obtain⟨hp2,hf2'⟩:=HPX.out X2 hF2;rcases hQ.symm with⟨hl2,rfl⟩|⟨hl2,rfl,fa2,fc2,wv2,hL2,hli2⟩;exact⟨rfl,HBE.out X2 hf2',.inr ⟨by rw[HPL.out];exact hl2,rfl⟩⟩);go_roundw
    case rel=>exact⟨_,_,_,_,_,_,_,_,_,.inr ⟨rfl,hl2,fa2,fc2,_,wv2,rfl,hL2,hf2',λk hk=>(by rcases hli2 k hk with h|h;simp[Value.ownBlock]at h;omega),hp2⟩,rfl⟩
    case measure=>simp[intOf]
   ·obtain⟨rt,hrt⟩:∃rt:Int,rt=(rootOf (bO N fr).1:Nat):=⟨_,rfl⟩
    rw[<-hrt];obtain⟨hLa,hFx,hwo,hpl⟩:=HQ.out;clear n0 n1 n2 n3 n4 hNo q0 q1 q2 q3 q4;obtain⟨hBw,wa,wc,hwv,hwc,hc1,hBf,hbf,hRf⟩:=HFIN.out wr fa' fc' fr' wv rt hLa hrt hFx hwo hpl;subst hwv;obtain⟨q0,q1⟩:=bS hpl;have qfr:=aB hpl;have HBF:Hid _:=hBf;have HBX:Hid _:=hbf;have HRF:Hid _:=hRf;have HRT:Hid (rt=(rootOf (bO N fr).1:Nat)):=hrt;have HLE:Hid ((bO N fr).2.length<=wc):=hwc;clear hBf hbf hRf hrt hwc hLa HFIN;go_wp2;refine BI (v:=.agg #[.i rt,.slice wa (bO N fr).2.length wc]) ?_ rfl ⟨HBF.out,.inl ⟨by rw[HPL.out];exact hrm,wa,wc,by rw[HPL.out,HRT.out],by rw[HPL.out];exact HRF.out,by rw[HPL.out];exact HLE.out⟩⟩;exact ER (p:=4) rfl _ _ (w.heap.size+1) _ _ _ _ rfl HBX.out Tryz.underlying193 rfl (by kernel_rfl)
 ·have h00:ms.length=0:=by omega
  have hN0:N=none:=by
   cases N with
   |none=>rfl
   |some x=>have:ms.length=1:=hlen;omega
  rw[h00];have HRZ:Hid ((rootOf (bO N fr).1:Nat)=0/\(bO N fr).2=[]):=by rw[hN0];exact⟨rfl,rfl⟩
  have HLX:Hid (fD X (w.heap.size+1+1) Sf fa fc fr .n ((bO N fr).2.map enc1)):=by rw[HRZ.out.2];exact hLayX
  clear hlen h00 h0 hL hLayX hN0;go_loopw [6,14] (λr i wq=>i=.i 0/\r=.i 0/\wq=X) (λ_ _ _=>0)
  case atStart=>exact⟨rfl,rfl,rfl⟩
  case round =>
   obtain⟨rfl,rfl,hwr⟩:=hrel;subst hwr;obtain⟨hBw,wa,wc,hwv,hwc,hc1,hBf,hbf,hRf⟩:=HFIN.out wr fa fc fr .n 0 HLX.out (by rw[HRZ.out.1];rfl) (AF _ _) (λk hk=>by simp[Value.ownBlock]at hk) pX;obtain⟨q0,q1⟩:=bS pX;have qfr:=aB pX;have HBF:Hid _:=hBf;have HBX:Hid _:=hbf;have HRF:Hid _:=hRf;have HLE:Hid ((bO N fr).2.length<=wc):=hwc;clear hBf hbf hRf hwc HFIN hwv;go_wp2;refine BI (v:=.agg #[.i 0,.slice wa (bO N fr).2.length wc]) ?_ rfl ⟨HBF.out,.inl ⟨by rw[HPL.out,HRZ.out.2];exact AH _,wa,wc,by rw[HPL.out,HRZ.out.1];rfl,by rw[HPL.out];exact HRF.out,by rw[HPL.out];exact HLE.out⟩⟩;exact ER (p:=4) rfl _ _ (w.heap.size+1) _ _ _ _ rfl HBX.out Tryz.underlying193 rfl (by kernel_rfl)
