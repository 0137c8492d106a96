import Derived.Test.YtdhgdcjmhofhaaaGreatD36
set_option linter.all false
set_option maxRecDepth 100000
set_option maxHeartbeats 8000000
namespace Go.Proofs.YtdhgdcjmhofhaaaGreat.Tree
open Go.RowKit Go.Shelf Pages
def Lu{es cs}(d:cQ es)(e:cF cs):(bF es cs).length<=es.length+cs.length:=by
 have a:=nO d e;have:=Lz (l:=(bF es cs).map (λb=>b.e.key)) (m:=es.map (λb=>b.e.key)++cs.map (λc=>c.key)) (Ug (by rw[EO];exact a)) (λb g=>by
  obtain⟨f,h,rfl⟩:=AW.1 g;rw[AO];rcases(gA d e f).1 h with⟨c,a,_,rfl⟩|⟨a,_⟩
  .exact .inr (AW.2 ⟨c,a,rfl⟩)
  grind)
 grind
def Bh{b β:Type}(f:b->List β):∀{l:List b}{x:b},x∈l->(f x).length<=(l.flatMap f).length
 |y :: l,x,a=>by
  rw[AK,jK];rcases AS.1 a with rfl|a
  .omega
  .have:=Bh f a;omega
def qGj{fs h p ks b s cs}(e:aV fs (h+1) (.branch p ks b) s)(m:s.lo.size<=24)(k:cF cs)(r:∀c∈cs,c.good)(t:∀c∈cs,s.has c.key=true):
  eD fs h ((parts s ks b).flatMap (nA (λx=>chP h x.1 x.2 (dF cs x.2)) cs))/\bL h ((parts s ks b).flatMap (nA (λx=>chP h x.1 x.2 (dF cs x.2)) cs))=bF (T.ents (h+1) (.branch p ks b)) cs:=by
 have j:=uF e m;have⟨v,w,q,_,o⟩:=dO e;have u:∀x∈parts s ks b,Da fs h x.2 (bF (T.ents h x.1) (dF cs x.2)) (nA (λx=>chP h x.1 x.2 (dF cs x.2)) cs x):=by
  intro x f;have d:=o x f;unfold nA;split
  .rename_i h0
   rw[AH h0,nP (eB d)];refine⟨⟨by grind,?_,by simp⟩,by simp[bL,iX],gQ d,by intro n a;rw[AJ]at a;subst a;exact bD _,.inl rfl⟩
   .intro n a y l;rw[AJ]at a;subst a
    rw[iX]at l;exact tK (gQ d y l)
  .exact Xd h d (gU (j x f)).2.1 (kV k x.2) (λc h=>r c (mF.1 h).1) (λc h=>(mF.1 h).2)
 have⟨g,i⟩:=qHa (fs:=fs) (h:=h) (nA (λx=>chP h x.1 x.2 (dF cs x.2)) cs) (λx=>bF (T.ents h x.1) (dF cs x.2)) (parts s ks b) u (oJ s ks b v w q);exact⟨g,i.t (Ei e k t (by rw[<-i];exact g.rise))⟩
def Sl(β sv lv fs)(j:(fs.life==0)=false)(root f i g):∀(h:Nat) (t:T) (s:Sp) (cs:List Ch) (d:Option Addr) (e:Nat) (S:Bl) (w:World),aV fs h t s->s.lo.size<=24->aF w β sv lv fs->aH w S d (cs.flatMap Ch.cells)->(lW S w)->cF cs->(∀c∈cs,c.good)->(∀c∈cs,s.has c.key=true)->cs.length<=e->((d=none/\e=0)\/∃b X,d=some (aD b X))->(T.ents h t).length+cs.length<=1000000 ->
  cL 191 #[.agg #[.p β 0,.i root,.s f i g],.i t.place,.agg #[.t s.lo,.t s.hi],.s d cs.length e] w (ChR (chP h t s cs) w)
 |0,.leaf p es,s,cs,d,e,S,w,ht,h24,hf,hR,hS,hr,hg,hcs,hc,hxa,hE=>by
  have B:es.length+cs.length<=1000000:=hE;have Z:(bF es cs).length<=es.length+cs.length:=Lu (eB (h:=0) ht) hr;apply(Mr β sv lv fs j root f i g p s es cs d e S w ht hf hR hS hr hg (by omega) hc hxa (by omega)).m;rintro Y w' ⟨v,k,rfl,M,D,y,J⟩;refine⟨v,k,rfl,M,?_,y,J⟩;show bH w' _ ((dB _).map ndT) k;rw[vP];exact D
 |0,.branch _ _ _,s,cs,d,e,S,w,ht,_,_,_,_,_,_,_,_,_,_=>ht.elim
 |h+1,.leaf _ _,s,cs,d,e,S,w,ht,_,_,_,_,_,_,_,_,_,_=>by simp[aV]at ht
 |h+1,.branch p ks kids,s,cs,d,e,S,w,ht,h24,hf,hR,hS,hr,hg,hcs,hc,hxa,hE=>by
  have⟨a2,a5,y,_,H⟩:=dO ht;have⟨o,z⟩:=qGj ht h24 hr hg hcs;have a4:=Lu (eB ht) hr;have C:(bL h ((parts s ks kids).flatMap (nA (λa=>chP h a.1 a.2 (dF cs a.2)) cs))).length<=1000000:=by rw[z];omega
  have a1:=o.count;have l:=qGm (c:=⟨#[]⟩) o (λm _=>yY _);have I:=l.lst.count;rw[l.ents]at I;exact Xb β sv lv fs j root f i g h p s ks kids cs d e S w ht hf hR hS hr (by omega) hc hxa (λa=>chP h a.1 a.2 (dF cs a.2))
   (λa u a3 U V W r q F O N=>Sl β sv lv fs j root f i g h a.1 a.2 (dF cs a.2) U V S W (H a u) (gU ((uF ht h24) a u)).2.1 r q F (kV hr a.2) (λc h=>hg c (mF.1 h).1) (λc h=>(mF.1 h).2) O N (by
    have x:=qFl cs a.2;have a0:(T.ents h a.1).length<=(kids.flatMap (T.ents h)).length:=Bh (T.ents h) (qJ (fs:=fs) u);have B:(kids.flatMap (T.ents h)).length+cs.length<=1000000:=hE;omega))
   (by omega) (qP (pO h) ((parts s ks kids).flatMap (nA (λa=>chP h a.1 a.2 (dF cs a.2)) cs))) (by omega) (λn K=>rI (l.lst.ok n K))
   (λk Q R A W r q E G L=>Yy β sv lv fs root f i g (Im β sv lv fs j root f i g h) _ o C k Q R A W r q E G L)
variable {K:List ByteArray} {W w:World} {cs:List Ch} {fr:List Nat} {fs:Fs} {ms:List MN} {n:Nat} {ns:List NT} {o:Option (Nat×T)}
def qDv:Option (Nat×NT)->List NT
 |none=>[]
 |some x=>[x.2]
structure tS (w W:World) (ns:List NT) (a:Option Addr) (c:Nat) (ms:List MN):Prop where
 row:aH W (New w W) a (aM ms)
 nds:bH W (New w W) (ns.map ndT) ms
 cap:ms.length<=c
 new:bW w W
def tS.len {a c}(h:tS w W ns a c ms):ms.length=ns.length:=by have:=h.nds.1;rwa[AF]at this
def tS.of_own {v}(d:W.ownsRow 0 242 5 v ms.length (aM ms))(e:bH W (New w W) (ns.map ndT) ms)(f:bW w W)(h:nW v w):∃a c,v=.s a ms.length c/\tS w W ns a c ms:=by
 obtain⟨a,c,rfl,g,i⟩:=bR d;exact⟨a,c,rfl,i.m (λj b=>⟨h j b,aK d b⟩),e,g,f⟩
def qBu {h a c}(L:tS w W ns a c ms)(H:eD fs h ns)(C:ns.length<=1000000):
  cL 192 #[.s a ms.length c] W λe w'=>∃k i ms',e=.r (.s k ms'.length i)/\tS w w' (eH ns) k i ms':=by
 have B:=L.len;have o:∀d∈ms,d.lo.size<=24:=λd f=>by
  obtain⟨p,z,rfl⟩:=AV f;have m:p<ns.length:=by omega
  rw[(L.nds.2 p (ndT ns[p]) ms[p] (by rw[BN,jQ m];rfl) (jQ z)).lo,tC];exact rI (H.ok _ (AA m))
 apply(mQ a c ms (New w W) W L.row (λg b=>b.2) (by omega) L.cap (λd f=>o d f) (λd f=>by have:=o d f;unfold ksz;omega)).m;rintro e w' ⟨v,qs,rfl,y,j,r,l,A⟩;have D:=l.size;have t:=L.new.size;have x:bH w' (New w w') (ns.map ndT) ms:=(L.nds.on (vV l (λg b=>b.2))).m (λg b=>⟨b.1,by have:=b.2;omega⟩);have n:=Gw (w:=w) x j (λq j=>⟨(r q j).1,(r q j).2.m (λg b=>⟨b.1,by have:=b.2;omega⟩)⟩);rw[<-zA]at n;have⟨k,i,s,u⟩:=tS.of_own (w:=w) (ms:=qs.map mB) (by rw[AF];exact y) n (L.new.t (l.m t)) (λg b=>vJ t (A g b));exact⟨k,i,qs.map mB,by rw[s],u⟩
def Qe:NT->Nat
 |.bran _ ks=>ks.length
 |_=>0
def gH.knT {S n m}(h:gH w S n m):m.kn=n.kids.length:=by cases h;assumption
def qGb {S n m}(h:gH w S (ndT n) m):m.kn=Qe n:=by
 rw[h.knT];cases n with
 |kept=>rw[tD];rfl
 |leaf=>rw[Et];rfl
 |bran s ks=>rw[qI];exact AF ..
def Wt{h n}(a:Qe n≠1):kR h n=(h,n):=by
 cases h with
 |zero=>cases n<;>rfl
 |succ h =>
  cases n with
  |kept=>rfl
  |leaf=>rfl
  |bran s ks =>
   match ks,a with
   |[],_=>rfl
   |[k],a=>exact absurd rfl a
   |k :: k' :: r,_=>simp only[kR]
def Uq(cs):dF cs ⟨⟨#[]⟩,⟨#[]⟩⟩=cs:=by
 unfold dF;rw[List.filter_eq_self];intro c _;exact Lg _
def qKm:Value->Nat
 |.slice _ n _=>n
 |_=>0
def qLn(β sv lv fs)(ax:(fs.life==0)=false)(o root)(L:bQ fs root o)(u z cs S w)(a6:aF w β sv lv fs)(an:aH w S u (cs.flatMap Ch.cells))(ap:lW S w)(K:cF cs)(a7:∀c∈cs,c.good)(av:cs.length<=z)(aw:(u=none/\z=0)\/∃b ck,u=some (aD b ck))(bs:(aU o).length+cs.length<=1000000):
  cL 173 #[.agg #[.p β 0,.i root,.s u cs.length z]] w λe w'=>∃a c ms,e=.r (.s a ms.length c)/\tS w w' (qDv (iU o cs)) a c ms:=by
 obtain⟨b4,b5,b6⟩:=Pb L K a7;have b1:=Lu (eL L) K;have ao:(bL (gB o cs).1 (gB o cs).2).length<=1000000:=by rw[b5];omega
 obtain⟨m,ct,F,cn,-⟩:=al1 w (.cells #[.p β 0,.i root,.s u cs.length z] 90);obtain⟨d2,d3,d4⟩:=eC cn;have O:aF m β sv lv fs:=a6.on (vV F a6.lies);have a4:=an.on (vV F ap);have a5:lW S m:=λd f=>jY (ap d f) F.size;have Q:=F.size;go_enter Tryz.func173,Tryz.ntmps173;go_upto_if 6 with fail;go_cut [3] (λv cq=>∃a c ms,v=.s a ms.length c/\Hid (tS w cq (gB o cs).2 a c ms))
 case first =>
  cases o with
  |none =>
   have c9:root=0:=L;subst c9;have a2:=xU β sv lv fs 0 u z cs ⟨⟨#[]⟩,⟨#[]⟩⟩ none (λ_=>ax) rfl S m O a4 a5 K (by omega) av aw;rw[Uq]at a2;have T:Hid ((bF (cU ⟨⟨#[]⟩,⟨#[]⟩⟩ none) cs).length<=1000000):=by
    have bq:(bF (aU none) cs).length<=(aU none).length+cs.length:=b1;show(bF [] cs).length<=_;have cw:(bF [] cs).length<=0+cs.length:=bq;omega
   have R:Hid (∀C∈bF (cU ⟨⟨#[]⟩,⟨#[]⟩⟩ none) cs,C.good fs):=kM (fs:=fs) (es:=[]) .nil K (by simp) a7;have ag:Hid ((dV esz (bF (cU ⟨⟨#[]⟩,⟨#[]⟩⟩ none) cs)).map zH=(gB none cs).2.map ndT):=by show _=(dB _).map ndT;rw[vP];exact(vQ _).symm
   obtain⟨P,cd⟩:=nM (bF (cU ⟨⟨#[]⟩,⟨#[]⟩⟩ none) cs);rw[cd]at a2 T R ag;have bx:∀d,fpF β sv lv d->d<m.heap.size:=λd f=>O.lies d f;go_wp2_with (first
    |(go_at_call 165;apply Calls.m a2;rintro e X ⟨ce,rfl,bt,N⟩;have br:=Bu 195 ce (enters_of Tryz.func195 (by kernel_rfl) rfl) P _ X bt (λd f=>(by rcases f with f|f|f;have:=a5 d f;have:=N.size;omega;have:=bx d f;have:=N.size;omega;exact f.2)) (by have:=T.o;omega))
    |(go_at_call 190;apply Calls.m br;rintro e ah ⟨d5,rfl,b0,ar,c1⟩;obtain⟨co,cp,rfl,cb,ca⟩:=bR b0;have bv:=pT co cp P (λd=>X.heap.size<=d/\d<ah.heap.size) ah (ca.m (λd f=>⟨c1 d f,aK b0 f⟩)) (λd f=>f.2) (by have:=T.o;omega) cb (λC cc=>qQ (R.o C cc)) (pJ R.o))
    |(go_at_call 189;apply Calls.m bv;rintro e X3 ⟨d6,qs,rfl,c5,c8,b3,au,c2⟩))
   have cr:=N.size;have d8:=ar.size;have d9:=au.size;have M:=zG (S:=New w X3) (λq b2=>⟨(b3 q b2).1,(b3 q b2).2.m (λd f=>⟨by have:=f.1;omega,by have:=f.2;omega⟩)⟩);rw[c8,ag.o]at M;obtain⟨I,J,bh,a3⟩:=tS.of_own (w:=w) (ms:=qs.map lU) (by rw[AF];exact c5) M (((F.t (N.m Q)).t (ar.m (by omega))).t (au.m (by omega))) (λd f=>by have:=c2 d f;omega);go_meet
   case rel=>exact⟨I,J,qs.map lU,bh,a3⟩
  |some C =>
   obtain⟨i,t⟩:=C;obtain⟨d1,c6,c7⟩:=L;have al:=Sl β sv lv fs ax root u cs.length z i t ⟨⟨#[]⟩,⟨#[]⟩⟩ cs u z S m c7 (by decide) O a4 a5 K a7 (λc _=>Lg _) av aw bs;rw[c6]at al;have d0:¬root=0:=by omega
   go_wp2_with (go_at_call 191;apply Calls.m al;rintro e X ⟨v,ad,rfl,c4,M,aq,c0⟩);have cr:=aq.size;obtain⟨I,J,rfl,a3⟩:=tS.of_own (w:=w) c4 (M.m (λd f=>⟨vJ Q f.1,f.2⟩)) (F.t (aq.m Q)) (λd f=>vJ Q (c0 d f));go_meet
   case rel=>exact⟨I,J,ad,rfl,a3⟩
 case rest =>
  obtain⟨I,J,ad,rfl,ba⟩:=hcut;have be:Hid (∃d i,upP d i (gB o cs).2=iU o cs/\(gB o cs).2.length<=d+1/\eD fs i (gB o cs).2/\iG (gB o cs).2/\(bL i (gB o cs).2).length<=1000000):=⟨_,_,rfl,by omega,b4,b6,ao⟩;clear b4 b5 b6 b1 ao L a6 an O a4;go_wp2;go_loopw [3] (λv af=>∃a c ms h,v=.s a ms.length c/\Hid (tS w af h a c ms)/\Hid (∃d i,upP d i h=iU o cs/\h.length<=d+1/\eD fs i h/\iG h/\(bL i h).length<=1000000)) (λv _=>qKm v)
  case atStart=>exact⟨I,J,ad,_,rfl,ba,be⟩
  case round =>
   obtain⟨a,c,ms,h,rfl,k,x⟩:=hrel;have A:=k.o.len;by_cases hgt:1<ms.length
   .have bz:(1:Int)<(ms.length:Int):=by omega
    obtain⟨d,i,l,G,p,Z,a0⟩:=x.o;have bu:=qBu k.o p (by have:=p.count;omega);have aa:=Gx p (by omega);have b8:Hid (∃d i,upP d i (eH h)=iU o cs/\(eH h).length<=d+1/\eD fs i (eH h)/\iG (eH h)/\(bL i (eH h)).length<=1000000):=by
     have E:2<=h.length:=by omega
     obtain⟨W,V,cu,Y,cv⟩:=Mx p Z (λe=>by rw[e]at E;simp at E);match h,d,E,l,G,W,V,Y,aa with
     |[],_,E,_,_,_,_,_,_=>simp at E
     |[_],_,E,_,_,_,_,_,_=>simp at E
     |C :: y :: r,0,_,_,G,_,_,_,_=>simp at G
     |C :: y :: r,d+1,_,l,G,W,V,Y,aa=>exact⟨d,i+1,l,by omega,W,Y,by rw[V];exact a0⟩
    have bb:Hid ((eH h).length<ms.length):=by show _<_;omega
    clear l G p Z a0 x A aa;go_wp2_with (go_at_call 192;apply Calls.m bu;rintro e d7 ⟨bf,bg,cf,rfl,am⟩);have cy:=am.len;have cz:=bb.o;exact⟨⟨bf,bg,cf,_,rfl,am,b8⟩,by simp only[qKm];omega⟩
   .have bz:¬(1:Int)<(ms.length:Int):=by omega
    have H:Hid (∃g,(h=[]/\iU o cs=none)\/∃n,h=[n]/\OkH fs g n/\iU o cs=some (kR g n)):=by
     obtain⟨d,i,l,G,p,Z,a0⟩:=x.o;match h,l,p with
     |[],l,_=>exact⟨0,.inl ⟨rfl,by rw[<-l];cases d<;>rfl⟩⟩
     |[n],l,p=>exact⟨i,.inr ⟨n,rfl,p.ok n (by simp),by rw[<-l];cases d<;>rfl⟩⟩
     |C :: y :: r,_,_=>exfalso;rw[jB,jB]at A;omega
    obtain⟨bi,H⟩:=H.o;have H:Hid _:=H;clear x A;go_wp2;go_loopg [3] bi (λg v af=>∃a c ms h,v=.s a ms.length c/\Hid (tS w af h a c ms)/\Hid ((h=[]/\iU o cs=none)\/∃n,h=[n]/\OkH fs g n/\iU o cs=some (kR g n)))
    case atStart=>exact⟨a,c,ms,h,rfl,k,H⟩
    case round =>
     obtain⟨a,c,ms,h,rfl,k,x⟩:=hrel;have A:=k.o.len;rcases x.o with⟨rfl,az⟩|⟨n,rfl,ac,a8⟩
     .have c3:ms=[]:=AH A;subst c3;have U:Hid (tS w wr (qDv (iU o cs)) a c []):=by rw[az];exact k.o
      clear k x A az;go_wp2;go_ret;exact⟨a,c,[],rfl,U.o⟩
     .obtain⟨B,rfl⟩:=ES.1 A
      obtain⟨cl,cm,bw,_,cg,ch,ci,cj,b7⟩:=k.o.row.nod (j:=0) (by simp);simp only[EB,DW,CX]at cg ch ci cj b7;subst bw;have ab:=k.o.nds.2 0 (ndT n) B rfl rfl;have a9:=qGb ab;by_cases f:Qe n=1
      .rw[f]at a9;obtain⟨s,d,rfl⟩:∃s d,n=.bran s [d]:=by
        cases n with
        |kept=>simp[Qe]at f
        |leaf=>simp[Qe]at f
        |bran s ks =>
         obtain⟨d,rfl⟩:=ES.1 (show ks.length=1 from f);exact⟨s,d,rfl⟩
       obtain⟨D,rfl⟩:∃D,gk=D+1:=by
        cases gk with
        |zero=>exact ac.elim
        |succ D=>exact⟨D,rfl⟩
       rw[qI]at ab;obtain⟨_,_,_,_,_,ae,bj,bk,bl,bm,bn,bo,aj,bp,ak,a1,ai⟩:=ab;have ay:=a1;have b9:Hid (tS w wr [d] B.ka B.kc ae):=⟨ak,⟨a1,ai⟩,by have:=aj;omega,k.o.new⟩;have bd:Hid (([d]=[]/\iU o cs=none)\/∃n,[d]=[n]/\OkH fs D n/\iU o cs=some (kR D n)):=.inr ⟨d,rfl,(ac.2.2.2.2.1 d (by simp)).1,by rw[a8,zQ]⟩;have bc:Hid (ae.length=1):=ay;rw[a9]at b7;clear bj bk bl bm bn bo aj bp ak a1 ai ac a8 x k f a9 ay A;go_wp2;go_roundg D
       case measure=>omega
       case rel=>exact⟨B.ka,B.kc,ae,[d],by rw[bc.o],b9.o,bd.o⟩
      .have U:Hid (tS w wr (qDv (iU o cs)) (some (aD cl cm)) c [B]):=by rw[a8,Wt f];exact k.o
       have cx:¬((B.kn:Int)=1):=by omega
       go_wp2;go_ret;exact⟨_,c,[B],rfl,U.o⟩
def Ca(b:Nat)(Sf:Bl)(f:NT->List Nat->T×List (Nat×Pg))(n:NT):Prop:=∀(m:MN) (S:Bl) (fa:Option Addr) (fc:Nat) (fr:List Nat) (wv:Value) (ws:List (Nat×ByteArray)) (w:World),fG w b Sf fa fc fr wv ws->gH w S (ndT n) m->(∀k,S k->k<w.heap.size/\¬fpL b wv k)->(∀p∈fr,bI (p:Nat)=true)->ws.length+fr.length<=10000 ->
  cL 174 #[.pointer (some (aD b 0)),.agg #[.string m.lo,.string m.hi,.int .i64 m.place,.slice m.ea m.en m.ec,.slice m.ka m.kn m.kc]] w (iK b Sf fr wv ws w (f n fr).1.place (f n fr).2)
def oO(f:NT->List Nat->T×List (Nat×Pg))(ns:List NT)(fr:List Nat):T×List (Nat×Pg):=
 (.branch (fr.getD (cG f ns fr).2.length 0) (ns.tail.map (λn=>n.sp.lo)) (cG f ns fr).1,
  (cG f ns fr).2++[(fr.getD (cG f ns fr).2.length 0,eX (ns.tail.map (λn=>n.sp.lo)) ((cG f ns fr).1.map T.place))])
def Fc(f):∀(ns:List NT) (n:NT) (fr:List Nat),cG f (ns++[n]) fr=((cG f ns fr).1++[(f n (fr.drop (cG f ns fr).2.length)).1],(cG f ns fr).2++(f n (fr.drop (cG f ns fr).2.length)).2)
 |[],n,fr=>by simp[cG]
 |y :: ns,n,fr=>by
  simp only[jF,cG,Fc f ns n,KW,jK,BU]
def Pt(f)(ns:List NT)(fr j)(a:j<ns.length):cG f (ns.take (j+1)) fr=((cG f (ns.take j) fr).1++[(f ns[j] (fr.drop (cG f (ns.take j) fr).2.length)).1],(cG f (ns.take j) fr).2++(f ns[j] (fr.drop (cG f (ns.take j) fr).2.length)).2):=by
 rw[AN a,Fc]
def pW(f):∀(ns:List NT) (fr:List Nat) (j:Nat),(cG f (ns.take j) fr).2.length<=(cG f ns fr).2.length
 |[],_,_=>by simp[cG]
 |x :: ns,fr,0=>by simp[cG]
 |x :: ns,fr,j+1=>by
  have:=pW f ns (fr.drop (f x fr).2.length) j;simp only[EQ,cG,jK];omega
def cM(f:NT->List Nat->T×List (Nat×Pg))(ns:List NT)(fr:List Nat)(j:Nat):List Nat:=(cG f (ns.take j) fr).1.map T.place
def Oh(f ns fr j)(a:j<=ns.length):(cM f ns fr j).length=j:=by
 unfold cM;rw[AF,fS,AY];omega
def Xj(b Sf f ns)(hn:∀n∈ns,Ca b Sf f n)(ms ka kc S fa fc fr wv ws w)(h:fG w b Sf fa fc fr wv ws)(hR:aH w S ka (aM ms))(hm:bH w S (ns.map ndT) ms)(hS:∀k,S k->k<w.heap.size/\¬fpL b wv k)(hlen:ns.length<=1000)(hkc:ns.length<=kc)(hp:∀p∈fr,bI (p:Nat)=true)(hws:ws.length+fr.length<=10000)(hE:(cG f ns fr).2.length<fr.length->(eX (ns.tail.map (λn=>n.sp.lo)) ((cG f ns fr).1.map T.place)).encE=0/\(eX (ns.tail.map (λn=>n.sp.lo)) ((cG f ns fr).1.map T.place)).small):
  cL 193 #[.p b 0,.s ka ns.length kc] w (iK b Sf fr wv ws w (oO f ns fr).1.place (oO f ns fr).2):=by
 have cv:ms.length=ns.length:=by rw[hm.1,AF]
 have xP:=aC w (.cells #[.i 2,.i 0,.i 0,.i 0,.n,.n,.n,.string ⟨#[]⟩] 80);have bP:bW w (w.alloc (.cells #[.i 2,.i 0,.i 0,.i 0,.n,.n,.n,.string ⟨#[]⟩] 80)):=bA _ _;have cf:=h.fr bP;go_enter Tryz.func193,Tryz.ntmps193;go_wp2;go_loopw [11] (λi wr=>∃(j:Nat) (y t:Option Addr) (z r:Nat) (am:Option Addr) (al:Nat) (a3:Value),i=.i j/\j<=ns.length/\(cG f (ns.take j) fr).2.length<=fr.length/\wr.heap[w.heap.size]?=some (.cells #[.i 2,.i 0,.i 0,.i 0,.slice y (eZ ns j).length z,.slice t (cM f ns fr j).length r,.n,.string ⟨#[]⟩] 80)/\wr.ownsRow 0 9 1 (.slice y (eZ ns j).length z) (eZ ns j).length ((eZ ns j).map .string)/\wr.ownsRow 0 3 1 (.slice t (cM f ns fr j).length r) (cM f ns fr j).length ((cM f ns fr j).map (λn:Nat=>Value.i n))/\fG wr b Sf am al (fr.drop (cG f (ns.take j) fr).2.length) a3 (ws++(cG f (ns.take j) fr).2.map enc1)/\Fr (fpL b wv) w wr/\(∀k,a3.ownBlock=some k->wv.ownBlock=some k\/w.heap.size<=k)/\(∀k,(Value.slice y (eZ ns j).length z).ownBlock=some k->w.heap.size<=k)/\(∀k,(Value.slice t (cM f ns fr j).length r).ownBlock=some k->w.heap.size<=k)) (λi _=>ns.length-(intOf i).toNat)
 case atStart=>exact⟨0,none,none,0,0,fa,fc,wv,rfl,AG _,by simp[cG],by simpa[eZ,cM,cG] using xP,by simpa[eZ] using AL _ _ _ _,by simpa[cM,cG] using AL _ _ _ _,by simpa[cG] using cf,AB bP,λk hk=>.inl hk,by simp[Value.ownBlock],by simp[Value.ownBlock]⟩
 case round =>
  obtain⟨j,y,t,z,r,am,al,a3,rfl,hj,b9,xp,a5,Y,hL,hF,ac,W,E⟩:=hrel;have zF:=hF.size;have cy:w.heap.size<wr.heap.size:=(gL xp);by_cases hlt:j<ns.length
  .obtain⟨n,ai⟩:=nM (ns[j])
   have az:j<ms.length:=by omega
   obtain⟨m,bg⟩:=nM (ms[j]);have oS:On S w wr:=hF.on (λk hk=>hS k hk);obtain⟨rb,ro,cj,cq,n0,n1,n2,n3,n4⟩:=(hR.on oS).nod az;rw[bg]at n0 n1 n2 n3 n4;subst cj;have bp:gH wr S (ndT n) m:=(hm.2 j (ndT n) m (by rw[BN,jQ hlt,ai];rfl) (by rw[jQ az,bg])).on oS;have ch:=hn n (ai▸AA hlt);have bf:=bp.lo;obtain⟨B,M,pl,N,G,U,O,L,Q⟩:=m;dsimp only at n0 n1 n2 n3 n4 bf;have hlo':n.sp.lo=B:=by rw[bf,tC]
   have F:=Pt f ns fr j hlt;rw[ai]at F;obtain⟨fq,hf⟩:=nM (fr.drop (cG f (ns.take j) fr).2.length);rw[hf]at F hL;have ad:=pW f ns fr (j+1);have br:=pW f ns fr j;rw[F]at ad;simp only[jK]at ad;have c9:fq.length=fr.length-(cG f (ns.take j) fr).2.length:=by rw[<-hf,BE]
   have cl:∀p∈fq,bI (p:Nat)=true:=λp af=>hp p (BS (hf▸af));have nE:=aC wr (.cells #[.string B,.string M,.i pl,.slice N G U,.slice O L Q] 242);have bE:bW wr (wr.alloc (.cells #[.string B,.string M,.i pl,.slice N G U,.slice O L Q] 242)):=bA _ _;have b7:=aQ (.cells #[.string B,.string M,.i pl,.slice N G U,.slice O L Q] 242) xp;have ae:=hL.fr bE;have ax:=CH (w:=wr) a5 (.cells #[.string B,.string M,.i pl,.slice N G U,.slice O L Q] 242);have aw:=CH (w:=wr) Y (.cells #[.string B,.string M,.i pl,.slice N G U,.slice O L Q] 242);have FE:Fr (fpL b wv) w (wr.alloc (.cells #[.string B,.string M,.i pl,.slice N G U,.slice O L Q] 242)):=hF.t (AB bE);have c8:∀k,S k->k<(wr.alloc (.cells #[.string B,.string M,.i pl,.slice N G U,.slice O L Q] 242)).heap.size:=λk hk=>by have:=(hS k hk).1;simp;omega
   have bd:=ch ⟨B,M,pl,N,G,U,O,L,Q⟩ S am al fq a3 (ws++(cG f (ns.take j) fr).2.map enc1) (wr.alloc (.cells #[.string B,.string M,.i pl,.slice N G U,.slice O L Q] 242)).drew (ae.fr ((AC _ _).drew)) (((bp.on (vV bE (λk hk=>by have:=(hS k hk).1;omega))).on (vV ((AC _ _).drew) c8))) (λk hk=>⟨c8 k hk,λe=>by
     rcases e with e|e
     .exact(hS k hk).2 (.inl e)
     .rcases ac k e with e|e
      .exact(hS k hk).2 (.inr e)
      .have:=(hS k hk).1;omega⟩) cl (by rw[jK,AF];omega)
   obtain⟨pp,af⟩:=nM ((f n fq).1.place);rw[af]at bd;have bt:Hid (cM f ns fr (j+1)=cM f ns fr j++[pp]):=by
    show _=_
    unfold cM;rw[F,BM,<-af];rfl
   have cc:Hid ((cG f (ns.take (j+1)) fr).2=(cG f (ns.take j) fr).2++(f n fq).2):=by show _=_;rw[F]
   have HF:Hid (fr.drop (cG f (ns.take j) fr).2.length=fq):=hf;have ca:Hid (fq.length<(f n fq).2.length->fr.length<(cG f ns fr).2.length):=λhh=>by omega
   have c3:Hid ((f n fq).2.length<=fq.length->(cG f (ns.take (j+1)) fr).2.length<=fr.length):=λhh=>by rw[F,jK];omega
   have ck:Hid (0<j->eZ ns (j+1)=eZ ns j++[B]):=λh0=>by rw[Vd ns j hlt h0,ai,hlo']
   have b0:(cM f ns fr j).length=j:=Oh f ns fr j hj;have b2:(eZ ns j).length=j-1:=qBw ns j hj;have ct:Hid ((cM f ns fr j).length=j):=b0;have cr:Hid ((eZ ns j).length=j-1):=b2;obtain⟨u0,u1,u2,u3,u4,u5,u6,u7⟩:=bO b7;obtain⟨q0,q1,q2,q3,q4⟩:=cV nE;have cw:(cM f ns fr j).length+1<=100000:=by omega
   have cu:(eZ ns j).length+1<=100000:=by omega
   clear F hf ad br c9 af bf hlo' ai bg b0 b2;go_wp2;refine cS (S:=(λX=>X.c wr.heap.size 0=some (.string B)/\X.c wr.heap.size 1=some (.string M)/\X.c wr.heap.size 2=some (.i pl)/\X.c wr.heap.size 3=some (.slice N G U)/\X.c wr.heap.size 4=some (.slice O L Q)/\X.c w.heap.size 5=some (.slice t (cM f ns fr j).length r))) 8 (by kernel_rfl) ?_;have a8:=(show((λX=>X.c wr.heap.size 0=some (.string B)/\X.c wr.heap.size 1=some (.string M)/\X.c wr.heap.size 2=some (.i pl)/\X.c wr.heap.size 3=some (.slice N G U)/\X.c wr.heap.size 4=some (.slice O L Q)/\X.c w.heap.size 5=some (.slice t (cM f ns fr j).length r))) ((wr.alloc (.cells #[.string B,.string M,.i pl,.slice N G U,.slice O L Q] 242)).drew) from ⟨q0,q1,q2,q3,q4,u5⟩);refine tks [(0,.p w.heap.size 5),(1,.slice t (cM f ns fr j).length r),(2,.p b 0),(3,.agg #[.string B,.string M,.i pl,.slice N G U,.slice O L Q])] (by assumption) ?_;iterate 4 (refine⟨_,rfl,by kernel_rfl,λ_ _ _ h=>h,.inl ⟨by rfl,λw be=>by(try dsimp only at be);go_simp⟩,?_⟩;try simp only[pS])
   refine tke ?_;refine aR (i:=4) (by kernel_rfl) rfl (λK hK=>?_);go_simp
   (go_at_call 174;apply Calls.m bd;rintro e wt ⟨ah,hQ⟩;have bv:Fr (fpL b wv) w wt:=FE.grow ((AE _ _).drew.t ah) (λk hk=>by rcases hk with hk|hk;exact .inl (.inl hk);exact(ac k hk).imp (λh=>.inr h) id);rcases hQ.symm with⟨I,rfl⟩|⟨I,rfl,bb,b6,aq,bq,bm⟩;exact⟨rfl,iK.full bv (ca.o I)⟩;have an:Fr (fpL b a3) (wr.alloc (.cells #[.string B,.string M,.i pl,.slice N G U,.slice O L Q] 242)) wt:=(AE _ _).drew.t ah;have ap:=an.heap b7 (ae.not b7 (by decide) (by decide));have ar:=an.heap nE (ae.not nE (by decide) (by decide));have au:=eJ ax an (ae.notOwn ax (by decide) (by decide));have D:=eJ aw an (ae.notOwn aw (by decide) (by decide));obtain⟨u0,u1,u2,u3,u4,u5,u6,u7⟩:=bO ap;obtain⟨q0,q1,q2,q3,q4⟩:=cV ar;have ay:=aQ (.cells #[.i (pp:Nat)] 3) ap;have b3:=aQ (.cells #[.i (pp:Nat)] 3) ar;obtain⟨t0,t1,t2,t3,t4,t5,t6,t7⟩:=bO ay;obtain⟨bu,bl,bj,c5,bz⟩:=cV b3)
   simp only[];refine hK.out _ _ (λ_=>⟨q0,q1,q2,q3,q4,u5⟩) ?_;clear hK K;try simp only[pS]
   refine aR (i:=5) (by kernel_rfl) rfl (λK hK=>?_);go_simp;refine hK.out _ _ (λ_=>⟨bu,bl,bj,c5,bz,t5⟩) ?_;clear hK K;try simp only[pS]
   refine aR (i:=6) (by kernel_rfl) rfl (λK hK=>?_)
   (refine iZ wt rfl (.tmp 17) (.tmp 21) 44 3 _ 1 8 rfl Tryz.underlying44 Yz rfl (by decide) (.slice t (cM f ns fr j).length r) (cM f ns fr j).length ((cM f ns fr j).map (λn:Nat=>Value.i n)) (by simp[Act.eval,Act.put]) D [.i (pp:Nat)] (by simp[Act.eval,Act.put]) rfl (by simp[Value.oneCell']) (by omega) (by omega) ?_;intro v3 w3 A3;obtain⟨g3,k3,rfl⟩:=A3.shape (by decide);have a0:=A3.fr.heap ap (aP D ap (by decide));have c0:=A3.fr.heap ar (aP D ar (by decide));obtain⟨u0,u1,u2,u3,u4,u5,u6,u7⟩:=bO a0;obtain⟨q0,q1,q2,q3,q4⟩:=cV c0;have d0:=aA a0)
   refine hK.out _ _ (λ_=>⟨q0,q1,q2,q3,q4,u5⟩) ?_;clear hK K;try simp only[pS]
   have a8:=(show((λX=>X.c wr.heap.size 0=some (.string B)/\X.c wr.heap.size 1=some (.string M)/\X.c wr.heap.size 2=some (.i pl)/\X.c wr.heap.size 3=some (.slice N G U)/\X.c wr.heap.size 4=some (.slice O L Q)/\X.c w.heap.size 5=some (.slice t (cM f ns fr j).length r))) w3 from ⟨q0,q1,q2,q3,q4,u5⟩);refine mE (i:=7) (v:=.p w.heap.size 5) rfl (by kernel_rfl) (λ_ _ _ h=>h) (.inl ⟨by rfl,λw be=>by(try dsimp only at be);go_simp⟩) (by assumption) (λa8=>?_);try simp only[pS]
   refine aR (i:=8) (by kernel_rfl) rfl (λK hK=>?_);go_simp;refine hK.out _ _ (λe=>by cases e) ?_;clear hK K;try simp only[pS]
   refine dC (by kernel_rfl) ?_ _
   all_goals
    obtain⟨w4,ao⟩:=nM (w3.setCell (aD w.heap.size 5) (.q g3 ((cM f ns fr j).length+1) k3));rw[ao];have f4:Fr (Bl.one w.heap.size) w3 w4:=ao▸(AE (Bl.one w.heap.size) w3).s w.heap.size 5;have ab:w4.heap[w.heap.size]?=some (.cells #[.i 2,.i 0,.i 0,.i 0,.slice y (eZ ns j).length z,.q g3 ((cM f ns fr j).length+1) k3,.n,.string ⟨#[]⟩] 80):=by rw[<-ao];have:=aB a0 5 (.q g3 ((cM f ns fr j).length+1) k3);simpa using this
    have c6:=f4.heap c0 (oN (by omega));have bo:=eJ A3.row f4 (λk hk e=>by simp only[Bl.one]at e;subst e;exact aP A3.row a0 (by decide) hk);have b1:=eJ au A3.fr (λk hk e=>by rcases dS au D (by decide) with A|A;rw[A]at hk;cases hk;exact A (hk.t e.symm));have C:=eJ b1 f4 (λk hk e=>by simp only[Bl.one]at e;subst e;exact aP b1 a0 (by decide) hk);have bs:=bq.beside A3.fr (λk hk=>bq.notOwn D (by decide) (by decide) k hk) (λk hk hs=>by have A:=E k hk;have h2:=(h.apart k hs).1;omega);have cg:=bs.beside f4 (λk hk=>by simp only[Bl.one]at hk;subst hk;exact bs.not a0 (by decide) (by decide)) (λk hk hs=>by simp only[Bl.one]at hk;have h2:=(h.apart k hs).1;omega);have F3:Fr (fpL b wv) w wt:=bv;have F4:Fr (fpL b wv) w w4:=(F3.grow A3.fr (λk hk=>.inr (E k hk))).grow f4 (λk hk=>.inr (by simp only[Bl.one]at hk;omega));have av:∀k,aq.ownBlock=some k->wv.ownBlock=some k\/w.heap.size<=k:=λk hk=>by
     rcases bm k hk with A|A
     .exact ac k A
     .have h2:wr.heap.size+1<=k:=by simpa using A
      exact .inr (by omega)
    have b5:∀k,(Value.q g3 ((cM f ns fr j).length+1) k3).ownBlock=some k->w.heap.size<=k:=λk hk=>by
     rcases A3.lies k hk with A|A
     .exact E k A
     .have:=F3.size;omega
    have HI:Hid (w4.ownsRow 0 3 1 (.q g3 (cM f ns fr (j+1)).length k3) (cM f ns fr (j+1)).length ((cM f ns fr (j+1)).map (λn:Nat=>Value.i n))):=by
     rw[bt.o,jK,AM,BM];exact bo
    have bi:Hid (fG w4 b Sf bb b6 (fr.drop (cG f (ns.take (j+1)) fr).2.length) aq (ws++(cG f (ns.take (j+1)) fr).2.map enc1)):=by
     rw[cc.o,jK,BM,<-KW,HF.o,<-BU];exact cg
    have V:Hid ((cM f ns fr (j+1)).length=(cM f ns fr j).length+1):=by show _=_;rw[bt.o,jK];rfl
    obtain⟨v0,v1,v2,ci,v4,ce,v6,v7⟩:=bO ab;obtain⟨q0,q1,q2,q3,q4⟩:=cV c6;have cm:=aA ab;have co:=aA c6;clear u0 u1 u2 u3 u4 u5 u6 u7 ao bd ay b3 bu bl bj c5 bz t0 t1 t2 t3 t4 t5 t6 t7 n0 n1 n2 n3 n4;by_cases hj0:0<j
    .have bw:(0:Int)<(j:Int):=by omega
     go_wp2_with (at_builtin;refine fQ w4 rfl (.tmp 27) (.tmp 31) 60 9 _ 1 16 rfl Tryz.underlying60 rR rfl (by decide) (.slice y (eZ ns j).length z) (eZ ns j).length ((eZ ns j).map .string) rfl C [.string B] (by simp[Act.eval]) rfl (by simp[Value.oneCell']) (by omega) (by omega) ?_;intro cz w5 A5;obtain⟨g5,k5,rfl⟩:=A5.shape (by decide);have Z:=A5.fr.heap ab (aP C ab (by decide));obtain⟨z0,z1,z2,z3,z4,z5,z6,z7⟩:=bO Z;have cn:=aA Z);have f6:Fr (Bl.one w.heap.size) w5 (w5.setCell (aD w.heap.size 4) (.q g5 ((eZ ns j).length+1) k5)):=(AE (Bl.one w.heap.size) w5).s w.heap.size 4;have cb:=aB Z 4 (.q g5 ((eZ ns j).length+1) k5);have b4:=eJ HI.o A5.fr (λk hk e=>by rcases dS HI.o C (by decide) with A|A;rw[A]at hk;cases hk;exact A (hk.t e.symm));have bn:=eJ b4 f6 (λk hk e=>by simp only[Bl.one]at e;subst e;exact aP b4 Z (by decide) hk);have c7:=eJ A5.row f6 (λk hk e=>by simp only[Bl.one]at e;subst e;exact aP A5.row Z (by decide) hk);have bk:=bi.o.beside A5.fr (λk hk=>bi.o.notOwn C (by decide) (by decide) k hk) (λk hk hs=>by have A:=W k hk;have h2:=(h.apart k hs).1;omega);have cd:=bk.beside f6 (λk hk=>by simp only[Bl.one]at hk;subst hk;exact bk.not Z (by decide) (by decide)) (λk hk hs=>by simp only[Bl.one]at hk;have h2:=(h.apart k hs).1;omega);have aa:=ck.o hj0;have ak:(eZ ns (j+1)).length=(eZ ns j).length+1:=by rw[aa,jK];rfl
     refine⟨⟨j+1,some (aD g5 0),some (aD g3 0),k5,k3,bb,b6,aq,by simp,by omega,c3.o I,?_,?_,bn,cd,(F4.grow A5.fr (λk hk=>.inr (W k hk))).grow f6 (λk hk=>.inr (by simp only[Bl.one]at hk;omega)),av,?_,?_⟩,by simp[intOf];omega⟩
     .rw[ak,V.o];simpa using cb
     .rw[ak,aa,BM];exact c7
     .intro k hk
      rw[ak]at hk;rcases A5.lies k hk with A|A
      .exact W k A
      .have:=F4.size;omega
     .intro k hk
      rw[V.o]at hk;exact b5 k hk
    .have bw:¬(0:Int)<(j:Int):=by omega
     have ag:j=0:=by omega
     have I:eZ ns (j+1)=eZ ns j:=by rw[ag,qBv];rfl
     have b8:Hid (eZ ns (j+1)=eZ ns j):=I;have cp:Hid (j=0):=ag;clear I ag;go_wp2;refine⟨⟨j+1,y,some (aD g3 0),z,k3,bb,b6,aq,by simp,by omega,c3.o I,?_,?_,HI.o,bi.o,F4,av,?_,?_⟩,by simp[intOf];omega⟩
     .rw[b8.o,V.o];exact ab
     .rw[b8.o];exact C
     .intro k hk;rw[b8.o]at hk;exact W k hk
     .intro k hk
      rw[V.o]at hk;exact b5 k hk
  .obtain rfl:j=ns.length:=by omega
   rw[BK]at hL;have aa:eZ ns ns.length=ns.tail.map (λn=>n.sp.lo):=by unfold eZ;rw[BK]
   have c4:cM f ns fr ns.length=(cG f ns fr).1.map T.place:=by unfold cM;rw[BK]
   rw[aa]at xp a5 W;rw[c4]at xp Y E;obtain⟨los,a9⟩:=nM (ns.tail.map (λn=>n.sp.lo));obtain⟨pls,aj⟩:=nM ((cG f ns fr).1.map T.place);rw[a9]at xp a5 W hE;rw[aj]at xp Y E hE;rw[BK]at b9;obtain⟨a1,c1,e1,cx,bc⟩:=bR a5;simp only[AQ,CV]at e1;obtain⟨rfl,rfl⟩:=e1;obtain⟨a2,c2,e2,d1,bh⟩:=bR Y;simp only[AQ,CV]at e2;obtain⟨rfl,rfl⟩:=e2;have R:=Eg b Sf am al _ a3 _ (eX los pls) y t none z r 0 (λk=>(Value.slice y los.length z).ownBlock=some k\/(Value.slice t pls.length r).ownBlock=some k) wr hL ⟨bc.m (λk hk=>.inl hk),(by
     have e:(eX los pls).kids.map (Value.int .i64)=pls.map (λn:Nat=>Value.i n):=by simp[eX,JR]
     rw[e];exact bh.m (λk hk=>.inr hk)),.inl rfl⟩ (λk hk=>by rcases hk with hk|hk;exact aK a5 hk;exact aK Y hk) (λe=>by rcases e with e|e;exact hL.notOwn a5 (by decide) (by decide) _ e (.inl rfl);exact hL.notOwn Y (by decide) (by decide) _ e (.inl rfl)) (λh0=>by rw[BE]at h0;exact(hE (by omega)).symm) (by rw[jK,AF];omega)
   have e1:(eX los pls).kids.length=pls.length:=by simp[eX]
   rw[e1]at R;have e2:(eX los pls).ents.length=0:=rfl;rw[e2]at R;have e4:(fr.drop (cG f ns fr).2.length).getD 0 0=fr.getD (cG f ns fr).2.length 0:=by simp[CB]
   rw[e4]at R;have HQ:Hid (∀e w',iK b Sf fr wv ws w (fr.getD (cG f ns fr).2.length 0) ((cG f ns fr).2++[(fr.getD (cG f ns fr).2.length 0,eX los pls)]) e w'->iK b Sf fr wv ws w (oO f ns fr).1.place (oO f ns fr).2 e w'):=λe w' h=>by rw[oO,a9,aj];exact h
   obtain⟨pl,bx⟩:=nM (fr.getD (cG f ns fr).2.length 0);rw[bx]at R HQ;change cL _ #[_,.agg #[.i 2,.i 0,.i 0,.i 0,.slice y los.length z,.slice t pls.length r,.n,.string ⟨#[]⟩]] wr _ at R;generalize eX los pls=pg at R HQ;obtain⟨v0,v1,v2,ci,v4,ce,v6,v7⟩:=bO xp;clear e1 e2 e4 hE a9 aj bx aa c4;go_wp2_with (go_at_call 209;apply Calls.m R;rintro e wp ⟨ah,hQ⟩;rcases hQ.symm with⟨ba,rfl⟩|⟨ba,rfl,hX⟩;exact⟨rfl,HQ.o _ _ (iK.seq hF ac b9 ⟨ah,.inr ⟨ba,rfl⟩⟩)⟩);go_ret;exact HQ.o _ _ (iK.seq hF ac b9 ⟨ah,.inl ⟨ba,rfl,hX⟩⟩)
def tM{a:Type}(f:a->List UInt8)(b):∀(l:List a),(∀x∈l,(f x).length<=b)->(l.flatMap f).length<=b * l.length
 |[],_=>by simp
 |x :: l,h=>by
  have e:=h x (by simp);have g:=tM f b l (λd c=>h d (by simp[c]));rw[AK,jK,jB,Nat.mul_succ];omega
def Sw{a b}(h:a.length<=1000)(i:b.length<=1000)(e:∀k∈a,k.size<=24):(eX a b).small:=by
 refine⟨by simp[eX];omega,by simp[eX];omega,by simp[eX],by simp[eX],?_,by simp[eX,mS,aL],AG _⟩
 .have d:=tM (beB 2) 2 (b.map (λn:Nat=>(n:Int))) (λc _=>by rw[aL];exact jU _)
  have g:=tM dX 1000 a (λc f=>by have:=e c f;simp[dX,aL];omega);rw[AF]at d;show(eS a (b.map (λn:Nat=>(n:Int)))).length<=_;simp only[eS,jK,aL];omega
def Ji(b u f a s)(K:∀fr,f (.kept a s) fr=(a,[]))(P:0<a.place):Ca b u f (.kept a s):=by
 intro M S v x fr N a3 w I n Q R V;rw[K];have⟨r,m,c,g,i,h,o,q,p⟩:=M;obtain⟨d,l,e,O,-⟩:=al1 w (.cells #[.t r,.t m,.i c,.s g i h,.s o q p] 242);have⟨X,Y,Z,a0,a1⟩:=cV O;have J:=I.fr e;rw[tD]at n;have⟨_,_,_,_,_,a2,y,B,j,C,D,E,F,G,H,z,A⟩:=n;have k:c=a.place:=j;have U:((c:Int) != 0)=true:=by simp;omega
 have t:Hid (c=a.place):=k;clear y B j k C D E F G H z A;go_enter Tryz.func174,Tryz.ntmps174;go_wp2;go_ret;exact⟨AB e,.inl ⟨AG _,by rw[t.o];rfl,v,x,N,by simpa using J,λW L=>.inl L⟩⟩
def qBk(b k f g s ns)(a4:∀fr,f (.bran s ns) fr=oO g ns fr)(J:0<ns.length)(a7:∀n∈ns,Ca b k g n)(a6:ns.length<=1000)(a1:∀fr,(oO g ns fr).2.length<=fr.length->(∀p∈fr,bI (p:Nat)=true)->(eX (ns.tail.map (λn=>n.sp.lo)) ((cG g ns fr).1.map T.place)).encE=0/\(eX (ns.tail.map (λn=>n.sp.lo)) ((cG g ns fr).1.map T.place)).small):Ca b k f (.bran s ns):=by
 intro m S O P fr ac ab w Z I j K a8;rw[a4];have a5:(oO g ns fr).2.length=(cG g ns fr).2.length+1:=by rw[oO];simp
 have⟨M,H,aa,v,N,y,r,L,t⟩:=m;rw[qI]at I;have⟨_,_,_,_,_,a9,Q,R,B,C,D,X,l,Y,E,z,A⟩:=I;have U:aa=0:=B;have V:N=0:=C;have W:L=ns.length:=by have:L=(ns.map ndT).length:=D;rwa[AF]at this
 subst U V W;obtain⟨h,G,d,ad,-⟩:=al1 w (.cells #[.t M,.t H,.i 0,.s v 0 y,.s r ns.length t] 242);have⟨ah,ai,aj,ak,al⟩:=cV ad;have o:=Xj b k g ns a7 a9 r t S O P fr ac ab h (Z.fr d) (E.on (vV d (λc e=>(j c e).1))) (⟨z,λi c x a b=>(A i c x a b).on (vV d (λc e=>(j c e).1))⟩) (λc e=>⟨jY (j c e).1 d.size,(j c e).2⟩) a6 (by rw[AF]at l;exact l) K a8 (λae=>a1 fr (by omega) K);have af:¬ns=[]:=λu=>by rw[u]at J;simp at J
 have ag:(0:Int)<(ns.length:Int):=by omega
 generalize (oO g ns fr).1.place=pp at o⊢;generalize (oO g ns fr).2=lp at o⊢;clear Q R B C D X l Y E z A a5;go_enter Tryz.func174,Tryz.ntmps174;go_wp2_with (go_at_call 193;apply Calls.m o;intro u am ⟨F,a2⟩;rcases a2.symm with⟨q,rfl⟩|⟨q,rfl,a3⟩;exact⟨rfl,iK.ahead (AB d) ⟨F,.inr ⟨q,rfl⟩⟩⟩);go_ret;exact iK.ahead (AB d) ⟨F,.inl ⟨q,rfl,a3⟩⟩
def Ut (b c){s:Sp}{es:List En}(H:OkH fs 0 (.leaf s es)):Ca b c (eG 0) (.leaf s es):=by
 intro e S g h a q p w i d j m n;have f:eG 0 (.leaf s es) a=lG (.leaf s es) a:=qL _ a;rw[f];have l:gH w S (nd0 (.leaf s es)) e:=by rw[Et]at d;exact d
 exact Uu b c fs s es (rH H) e S g h a q p w i l (λo k=>(j o k).1) (Co H) m n
def Uv (b c){h:Nat}{s:Sp}{ks:List NT}(H:StH fs (h+1) (.bran s ks))(o:∀n∈ks,Ca b c (eG h) n):Ca b c (eG (h+1)) (.bran s ks):=by
 have⟨g,q,t,r,_⟩:=H.kids;have f:ks.length<=1000:=by have:=Ld gF 3 ks (λn _=>by unfold gF;omega);omega
 have e:∀a,eG (h+1) (.bran s ks) a=oO (eG h) ks a:=λa=>by simp only[eG,oO]
 refine qBk b c (eG (h+1)) (eG h) s ks e (by omega) o f (λa k m=>⟨?_,Sw (by rw[AF,List.length_tail];omega) (by rw[AF,fS];exact f) (λu j=>?_)⟩)
 .have d:=Fg (h+1) a H (by rw[e];exact k) m
  rw[e]at d;generalize hPG:eX (ks.tail.map (λn=>n.sp.lo)) ((cG (eG h) ks a).1.map T.place)=pg at d⊢;have i:(a.getD (cG (eG h) ks a).2.length 0,pg)∈(oO (eG h) ks a).2:=by rw[oO,hPG];exact FS _ (List.mem_singleton_self _)
  exact d _ i
 .obtain⟨p,l,rfl⟩:=AW.1 j
  exact rI (g.ok p (List.mem_of_mem_tail l))
def qMj (b a h):∀(n:NT),StH fs h n->Ca b a (eG h) n:=by
 induction h with
 |zero =>
  intro n H;cases n with
  |kept t s=>exact Ji b a (eG 0) t s (kP 0 t s) (lS H.ok t s rfl)
  |leaf s es=>exact Ut b a H.ok
  |bran=>exact H.elim
 |succ h ih =>
  intro n H;cases n with
  |kept t s=>exact Ji b a (eG (h+1)) t s (kP (h+1) t s) (lS H.ok t s rfl)
  |leaf=>exact H.elim
  |bran s ks=>exact Uv b a H (λn c=>ih n (H.kids.2.2.1 n c))
def Ly(o:Option (Nat×T))(cs:List Ch):Option (Nat×NT):=iU o cs
structure Xs (fs:Fs) (o:Option (Nat×T)) (cs:List Ch):Prop where
 good:∀c∈cs,c.good
 size:(aU o).length+cs.length<=1000000
structure qIk (fs:Fs) (N:Option (Nat×NT)) (fr:List Nat):Prop where
 st:∀x,N=some x->StH fs x.1 x.2
 few:fr.length<=10000
 place:∀p∈fr,bI (p:Nat)=true
def qFf(β sv lv fs)(hl:(fs.life==0)=false)(o root)(hro:bQ fs root o)(hf2:pM o)(ca cc cs S fa fc fr Sf w)(hf:aF w β sv lv fs)(hR:aH w S ca (cs.flatMap Ch.cells))(hS:lW S w)(hr:cF cs)(hn:cs.length<=1000000)(hc:cs.length<=cc)(hca:(ca=none/\cc=0)\/∃b off,ca=some (aD b off))(hG:Xs fs o cs)(hFr:aH w Sf fa (fr.map (λn:Nat=>Value.i n)))(hSf:lW Sf w)(hfs:fr≠[]->∃b0 o0,fa=some (aD b0 o0))(hfc:fr.length<=fc)(hT:qIk fs (Ly o cs) fr):
  cL 157 #[.agg #[.p β 0,.i (root:Nat),.s ca cs.length cc],.s fa fr.length fc] w λe w'=>bW w w'/\(((bM o cs fr).2.length<=fr.length/\∃wa wc,e=.r (.agg #[.i (rootOf (bM o cs fr).1:Nat),.s wa (bM o cs fr).2.length wc])/\aH w' (New w w') wa (((bM o cs fr).2.map enc1).flatMap dQ)/\(bM o cs fr).2.length<=wc)\/(fr.length<(bM o cs fr).2.length/\e=.panicked (kH 8))):=by
 obtain⟨N,hNd⟩:=nM (Ly o cs);have HPL:Hid (bM o cs fr=bT N fr):=by show _=_;unfold bM;rw[<-hNd];rfl
 rw[hNd]at hT;obtain⟨W1,hW1,B1,t1,p1,l1,z1⟩:=al3 w (Xz β (root:Nat) ca cs.length cc) (.cells #[.i 0,.n] 193) (.cells #[.s fa fr.length fc,.n] 238); obtain⟨m0,m1,m2⟩:=eC t1;have hGr:=qLn β sv lv fs hl o root hro ca cc cs S W1 (hf.on (vV B1 hf.lies)) (hR.on (vV B1 hS)) (λk hk=>jY (hS k hk) B1.size) hr hG.good hc hca hG.size;rw[show iU o cs=N from hNd]at hGr;have hLay1:fG W1 (w.heap.size+1+1) Sf fa fc fr .n []:=⟨l1,hFr.on (vV B1 hSf),hfs,hfc,AL _ _ _ _,λk hk=>⟨by have:=hSf k hk;omega,by have:=hSf k hk;omega,by simp[Value.ownBlock]⟩⟩;have HZ:Hid (W1.heap.size=w.heap.size+3):=z1;obtain⟨lq0,lq1⟩:=bY l1;have lfr:=aA l1;have hset:W1.setCell (aD (w.heap.size+1+1) 1) .n=W1:=dI l1 rfl;clear hNd hf hR hro z1;go_enter Tryz.func157,Tryz.ntmps157;go_wp2_with (go_at_call 173;apply Calls.m hGr;rintro e X ⟨a,c,ms,rfl,hL⟩);have zX:=hL.new.size;have hLayX:=hLay1.fr hL.new;have pX:=(hL.new.block _ (by have:=HZ.o;omega)).t p1;have HH:Hid (tS W1 X (qDv N) a c ms/\fG X (w.heap.size+1+1) Sf fa fc fr .n []/\cW X (w.heap.size+1) #[.i 0,.n] 193):=⟨hL,hLayX,pX⟩;have hlen:=hL.len;have HBE:Hid (∀wr,Fr (fpL (w.heap.size+1+1) .n) X wr->bW w wr):=λwr hFx=>by
  have hz:=HZ.o;exact(B1.t (hL.new.m B1.size)).t (hFx.below (by omega) (λk hk=>by rcases hk with hk|hk;omega;simp[Value.ownBlock]at hk))
 have HFIN:Hid (∀(wr:World) (fa':Option Addr) (fc':Nat) (fr':List Nat) (wv:Value) (rt:Int),fG wr (w.heap.size+1+1) Sf fa' fc' fr' wv ((bT N fr).2.map enc1)->rt=(rootOf (bT N fr).1:Nat)->Fr (fpL (w.heap.size+1+1) .n) X wr->(nW wv X)->cW wr (w.heap.size+1) #[.i 0,.n] 193->bW w wr/\∃wa wc,wv=.s wa (bT N fr).2.length wc/\(bT N fr).2.length<=wc/\wr.c (w.heap.size+1+1) 1=some (.s wa (bT N fr).2.length wc)/\bW w ((wr.setCell (aD (w.heap.size+1) 0) (.i rt)).setCell (aD (w.heap.size+1) 1) (.s wa (bT N fr).2.length wc))/\((wr.setCell (aD (w.heap.size+1) 0) (.i rt)).setCell (aD (w.heap.size+1) 1) (.s wa (bT N fr).2.length wc)).heap[w.heap.size+1]?=some (.cells #[.i rt,.s wa (bT N fr).2.length wc] 193)/\aH ((wr.setCell (aD (w.heap.size+1) 0) (.i rt)).setCell (aD (w.heap.size+1) 1) (.s wa (bT N fr).2.length wc)) (New w ((wr.setCell (aD (w.heap.size+1) 0) (.i rt)).setCell (aD (w.heap.size+1) 1) (.s wa (bT N fr).2.length wc))) wa (((bT N fr).2.map enc1).flatMap dQ)):=by
  intro wr fa' fc' fr' wv rt hLa hrt hFx hwv hpl;have hz:=HZ.o;have zF:=hFx.size;have hBw:bW w wr:=HBE.o wr hFx;have hown:=hLa.own;rw[AF]at hown;obtain⟨wa,wc,rfl,hwc,hrow⟩:=bR hown;have hc1:=(bY hLa.box).2;have e1:=aB (aB hpl 0 (.i rt)) 1 (.s wa (bT N fr).2.length wc);have fP:Fr (Bl.one (w.heap.size+1)) wr ((wr.setCell (aD (w.heap.size+1) 0) (.i rt)).setCell (aD (w.heap.size+1) 1) (.s wa (bT N fr).2.length wc)):=((AE (Bl.one (w.heap.size+1)) wr).s (w.heap.size+1) 0).s (w.heap.size+1) 1;refine⟨hBw,wa,wc,rfl,hwc,hc1,hBw.t (fP.below hBw.size (oK (by omega))),by simpa using e1,?_⟩;have zP:=fP.size;refine(hrow.on (fP.on (λk hk=>⟨aK hown hk,λe=>by simp only[Bl.one]at e;have:=hwv k hk;omega⟩))).m (λk hk=>⟨by have:=hwv k hk;omega,by have:=aK hown hk;omega⟩)
 have pb:=aA pX;rcases BR 0 ms.length with h0|h0
 .obtain⟨x,hNx⟩:∃x,N=some x:=by
   cases N with
   |none=>have:ms.length=0:=hlen;omega
   |some x=>exact⟨x,rfl⟩
  have htN:qDv N=[x.2]:=by rw[hNx];rfl
  have h01:ms.length=1:=by rw[hlen,htN];rfl
  obtain⟨rb,ro,hra,hrb,n0,n1,n2,n3,n4⟩:=hL.row.nod h0;subst hra;obtain⟨m,hm⟩:=nM (ms[0]);have hnd:gH X (New W1 X) (ndT x.2) m:=hL.nds.2 0 (ndT x.2) m (by rw[htN];rfl) (by rw[jQ h0,hm]);rw[hm]at n0 n1 n2 n3 n4;obtain⟨lo,hi,pl,ea,en,ec,ka,kn,kc⟩:=m;dsimp only at n0 n1 n2 n3 n4;simp only[EB,DW]at n0 n1 n2 n3 n4;have xE:=aC X (.cells #[.t lo,.t hi,.i pl,.s ea en ec,.s ka kn kc] 242);have bE:bW X (X.alloc (.cells #[.t lo,.t hi,.i pl,.s ea en ec,.s ka kn kc] 242)):=bA _ _;obtain⟨X',hX'⟩:∃X',X.alloc (.cells #[.t lo,.t hi,.i pl,.s ea en ec,.s ka kn kc] 242)=X':=⟨_,rfl⟩;rw[hX']at xE bE;obtain⟨q0,q1,q2,q3,q4⟩:=cV xE;have hz:=HZ.o;have hNo:=qMj (w.heap.size+1+1) Sf x.1 x.2 (hT.st x hNx) ⟨lo,hi,pl,ea,en,ec,ka,kn,kc⟩ (New W1 X) fa fc fr .n [] X' (hLayX.fr bE) (hnd.on (vV bE (λk hk=>hk.2))) (λk hk=>⟨by have:=hk.2;have:=bE.size;omega,λe=>by rcases e with e|e;have:=hk.1;omega;simp[Value.ownBlock]at e⟩) hT.place (by have:=hT.few;simpa using this);have hNo:cL 174 #[.p (w.heap.size+1+1) 0,.agg #[.t lo,.t hi,.i pl,.s ea en ec,.s ka kn kc]] X' (iK (w.heap.size+1+1) Sf fr .n [] X' (rootOf (bT N fr).1) (bT N fr).2):=by rw[hNx];exact hNo
  clear hNx;have HPX:Hid (∀wr,Fr (fpL (w.heap.size+1+1) .n) X' wr->cW wr (w.heap.size+1) #[.i 0,.n] 193/\Fr (fpL (w.heap.size+1+1) .n) X wr):=λwr hfr=>⟨hfr.heap ((bE.block _ (by have:=(gL pX);omega)).t pX) (λe=>by rcases e with e|e;omega;simp[Value.ownBlock]at e),(AB bE).t hfr⟩;rw[h01];have zE:=bE.size;clear hlen h01 h0 hm hnd xE bE hL hLayX pX hz htN;go_loopw [6,14] (λr i wq=>(i=.i 0/\r=.i 0/\wq=X)\/(i=.i 1/\(bT N fr).2.length<=fr.length/\∃fa' fc' fr' wv,r=.i (rootOf (bT N fr).1:Nat)/\Hid (fG wq (w.heap.size+1+1) Sf fa' fc' fr' wv ((bT N fr).2.map enc1)/\Fr (fpL (w.heap.size+1+1) .n) X wq/\(nW wv X)/\cW wq (w.heap.size+1) #[.i 0,.n] 193))) (λ_ i _=>1-(intOf i).toNat)
  case atStart=>exact .inl ⟨rfl,rfl,rfl⟩
  case round =>
   rcases hrel with⟨rfl,rfl,hwr⟩|⟨rfl,hrm,fa',fc',fr',wv,rfl,HQ⟩
   .subst hwr
    go_wp2_with (go_at_call 174;apply Calls.m hNo;rintro e X2 ⟨hF2,hQ⟩;obtain⟨hp2,hf2'⟩:=HPX.o X2 hF2;rcases hQ.symm with⟨hl2,rfl⟩|⟨hl2,rfl,fa2,fc2,wv2,hL2,hli2⟩;exact⟨rfl,HBE.o X2 hf2',.inr ⟨by rw[HPL.o];exact hl2,rfl⟩⟩);go_roundw
    case rel=>exact⟨_,_,_,_,_,_,_,_,_,.inr ⟨rfl,hl2,fa2,fc2,_,wv2,rfl,hL2,hf2',λk hk=>(by rcases hli2 k hk with h|h;simp[Value.ownBlock]at h;omega),hp2⟩,rfl⟩
    case measure=>simp[intOf]
   .obtain⟨rt,hrt⟩:∃rt:Int,rt=(rootOf (bT N fr).1:Nat):=⟨_,rfl⟩
    rw[<-hrt];obtain⟨hLa,hFx,hwo,hpl⟩:=HQ.o;clear n0 n1 n2 n3 n4 hNo q0 q1 q2 q3 q4;obtain⟨hBw,wa,wc,hwv,hwc,hc1,hBf,hbf,hRf⟩:=HFIN.o wr fa' fc' fr' wv rt hLa hrt hFx hwo hpl;subst hwv;obtain⟨q0,q1⟩:=bY hpl;have qfr:=aA hpl;have HBF:Hid _:=hBf;have HBX:Hid _:=hbf;have HRF:Hid _:=hRf;have HRT:Hid (rt=(rootOf (bT N fr).1:Nat)):=hrt;have HLE:Hid ((bT N fr).2.length<=wc):=hwc;clear hBf hbf hRf hrt hwc hLa HFIN;go_wp2;refine BI (v:=.agg #[.i rt,.s wa (bT N fr).2.length wc]) ?_ rfl ⟨HBF.o,.inl ⟨by rw[HPL.o];exact hrm,wa,wc,by rw[HPL.o,HRT.o],by rw[HPL.o];exact HRF.o,by rw[HPL.o];exact HLE.o⟩⟩;exact EL (p:=4) rfl _ _ (w.heap.size+1) _ _ _ _ rfl HBX.o Tryz.underlying193 rfl (by kernel_rfl)
 .have h00:ms.length=0:=by omega
  have hN0:N=none:=by
   cases N with
   |none=>rfl
   |some x=>have:ms.length=1:=hlen;omega
  rw[h00];have HRZ:Hid ((rootOf (bT N fr).1:Nat)=0/\(bT N fr).2=[]):=by rw[hN0];exact⟨rfl,rfl⟩
  have HLX:Hid (fG X (w.heap.size+1+1) Sf fa fc fr .n ((bT N fr).2.map enc1)):=by rw[HRZ.o.2];exact hLayX
  clear hlen h00 h0 hL hLayX hN0;go_loopw [6,14] (λr i wq=>i=.i 0/\r=.i 0/\wq=X) (λ_ _ _=>0)
  case atStart=>exact⟨rfl,rfl,rfl⟩
  case round =>
   obtain⟨rfl,rfl,hwr⟩:=hrel;subst hwr;obtain⟨hBw,wa,wc,hwv,hwc,hc1,hBf,hbf,hRf⟩:=HFIN.o wr fa fc fr .n 0 HLX.o (by rw[HRZ.o.1];rfl) (AE _ _) (λk hk=>by simp[Value.ownBlock]at hk) pX;obtain⟨q0,q1⟩:=bY pX;have qfr:=aA pX;have HBF:Hid _:=hBf;have HBX:Hid _:=hbf;have HRF:Hid _:=hRf;have HLE:Hid ((bT N fr).2.length<=wc):=hwc;clear hBf hbf hRf hwc HFIN hwv;go_wp2;refine BI (v:=.agg #[.i 0,.s wa (bT N fr).2.length wc]) ?_ rfl ⟨HBF.o,.inl ⟨by rw[HPL.o,HRZ.o.2];exact AG _,wa,wc,by rw[HPL.o,HRZ.o.1];rfl,by rw[HPL.o];exact HRF.o,by rw[HPL.o];exact HLE.o⟩⟩;exact EL (p:=4) rfl _ _ (w.heap.size+1) _ _ _ _ rfl HBX.o Tryz.underlying193 rfl (by kernel_rfl)
abbrev gI(rt:Int)(v:Value):Obj:=.cells #[.int .i64 rt,v] 193
abbrev Ao(ver rt:Int):Obj:=.cells #[.int .i64 1,.int .i64 ver,.int .i64 rt,.int .i64 0,.slice none 0 0,.slice none 0 0,.slice none 0 0,.string ⟨#[]⟩] 80
abbrev gT:Obj:=.cells #[.int .i64 0,.int .i64 0,.int .i64 0,.int .i64 0,.slice none 0 0,.slice none 0 0,.slice none 0 0,.string ⟨#[]⟩] 80
abbrev frD(D:Db)(o ao:Option (Nat×T))(ot:Tx->Option (Nat×T)):List Nat:=eP D.fs.safe.length (dD ([o,ao]++D.ts.map ot))
abbrev qEi(w:World)(b:Nat)(v0 v1 v2 v3 v4 v5 v6 v7:Value):World:=(((((((w.setCell (aD b 0) v0).setCell (aD b 1) v1).setCell (aD b 2) v2).setCell (aD b 3) v3).setCell (aD b 4) v4).setCell (aD b 5) v5).setCell (aD b 6) v6).setCell (aD b 7) v7
def qEh(w b a c d v3 e f g h):Fr (Bl.one b) w (qEi w b a c d v3 e f g h):=
  ((((((((AE (Bl.one b) w).s b 0).s b 1).s b 2).s b 3).s b 4).s b 5).s b 6).s b 7
def qAa {b j k l m n o p q t}(h:cW w b #[j,k,l,m,n,o,p,q] t)(a c d v3 e f g i):(qEi w b a c d v3 e f g i).heap[b]?=some (.cells #[a,c,d,v3,e,f,g,i] t):=by
  have:=aB (aB (aB (aB (aB (aB (aB (aB h 0 a) 1 c) 2 d) 3 v3) 4 e) 5 f) 6 g) 7 i;simpa using this
def Dy{P:Program}{j:Func}{p q:Tmp}{e f:TypeId}(h:j.results=#[.cell p e,.cell q f])(a:Array Value)(w:World)(g c:Nat)(t t':TypeId)(cs b:Array Value)(d i:TypeDesc)(r:a.getD p undef=.p g 0)(u:a.getD q undef=.p c 0)(m:cW w g cs t)(n:cW w c b t')(x:P.underlying e=some d)(k:(match d with|.struct _|.array _ _=>true|_=>false)=true)(hi:(P.info? e).map (·.size)=some cs.size)(y:P.underlying f=some i)(l:(match i with|.struct _|.array _ _=>true|_=>false)=true)(o:(P.info? f).map (·.size)=some b.size):
    (results j a).run P w=.ok (.tuple #[.agg cs,.agg b]) w:=by
  have s:a[p]?.getD undef=.p g 0:=by simpa using r
  have v:a[q]?.getD undef=.p c 0:=by simpa using u
  simp[results,h,s,v,asAddr,JH w g t e cs (0,0) d m x k hi,JH w c t' f b (0,0) i n y l o]
def qCv(D st)(v:Nat)(o ao ot ca cc cs S w)(h:aO w st D)(hv:D.ver=v)(hv63:v+1<9223372036854775808)(hn:D.ts.length≤1000)(hl:(D.fs.life==0)=false)(hp2:1<D.fs.safe.length)(hm:gE D.fs (v % 2) v D.root)(ho:bQ D.fs (rootOf o) o)(hr:D.root=rootOf o)(hf2:pM o)(hao:bQ D.fs (rootOf ao) ao)(har:D.aroot=rootOf ao)(hts:∀ t∈D.ts,bQ D.fs (rootOf (ot t)) (ot t)∧t.root=rootOf (ot t))(hR:aH w S ca (cs.flatMap Ch.cells))(hS:∀ b,S b→b<w.heap.size)(hri:cF cs)(hcn:cs.length≤1000000)(hc:cs.length≤cc)(hca:(ca=none∧cc=0)∨∃ b off,ca=some (aD b off))(hG:Xs D.fs o cs)(hT:qIk D.fs (Ly o cs) (frD D o ao ot)):
    cL 129 #[.p D.d 0,.s ca cs.length cc] w λe w'=>bW w w'∧(((bM o cs (frD D o ao ot)).2.length≤(frD D o ao ot).length∧∃ wa wc,e=.r (.tuple #[.agg #[.i (rootOf (bM o cs (frD D o ao ot)).1:Nat),.s wa (bM o cs (frD D o ao ot)).2.length wc],.agg #[.i 1,.i (v+1:Nat),.i (rootOf (bM o cs (frD D o ao ot)).1:Nat),.i 0,.n,.n,.n,.e]])∧aH w' (New w w') wa (((bM o cs (frD D o ao ot)).2.map enc1).flatMap dQ)∧(bM o cs (frD D o ao ot)).2.length≤wc)∨((frD D o ao ot).length<(bM o cs (frD D o ao ot)).2.length∧e=.panicked (kH 8))):=by
  obtain⟨fr,hfr⟩:=nM (frD D o ao ot);rw [hfr] at hT ⊢;obtain⟨rt,hrt⟩:=nM (rootOf (bM o cs fr).1);obtain⟨l,hll⟩:=nM ((bM o cs fr).2);rw [hrt,hll];obtain⟨W1,hW1⟩:=nM ((w.alloc (gI 0 .n)).alloc gT);have B1:bW w W1:=hW1▸(bA _ _).alloc (by simp) _;have p1:W1.heap[w.heap.size]?=some (gI 0 .n):=hW1▸aQ _ (aC w _);have g1:W1.heap[w.heap.size+1]?=some gT:=by
    rw [← hW1];have:=aC (w.alloc (gI 0 .n)) gT;simpa using this
  have z1:W1.heap.size=w.heap.size+2:=by rw [← hW1];simp
  have HK:Hid (∀ X,bW W1 X→aO X st D∧X.cell? (aD D.d 2)=some (.p D.β 0)∧X.cell? (aD D.d 4)=some (.i (v:Nat))∧X.cell? (aD D.d 5)=some (.i D.root)∧X.heap[w.heap.size]?=some (gI 0 .n)∧X.heap[w.heap.size+1]?=some gT∧bW w X):=by
    intro X hX;have hb:=B1.t (hX.m B1.size);have h1:=h.on (vV hb h.lies);obtain⟨c0,c1,c2,c3,c4,c5,c6,c7,c8,c9,c10,c11,c12,c13,c14⟩:=eQ h1.box;rw [hv] at c4;exact⟨h1,c2,c4,c5,(hX.block _ (by omega)).t p1,(hX.block _ (by omega)).t g1,hb⟩
  have hCM:=Ia D st v W1 (HK.o W1 (AC _ _)).1 hv hl hp2 hm;have HTA:Hid (∀ X,bW W1 X→cL 36 #[.p D.d 0,.i D.root] X λe w'=>e=.r (.agg #[.p D.β 0,.i D.root,.n])∧bW X w'):=λX hX=>oB D.d D.β D.root X (HK.o X hX).2.1;have HFe:Hid (∀ X,bW W1 X→cL 158 #[.p D.d 0] X λe w'=>∃ vf,e=.r vf∧w'.ownsRow 0 3 1 vf fr.length (fr.map (λn:Nat=>Value.i n))∧bW X w'):=λX hX=>by
    have:=qGy D st o ao ot X (HK.o X hX).1 (by omega) hl ho hr hao har hts;rw [show eP D.fs.safe.length (dD ([o,ao]++D.ts.map ot))=fr from hfr] at this;exact this
  have HPl:Hid (∀ X fa fc,bW W1 X→X.ownsRow 0 3 1 (.s fa fr.length fc) fr.length (fr.map (λn:Nat=>Value.i n))→cL 157 #[.agg #[.p D.β 0,.i D.root,.s ca cs.length cc],.s fa fr.length fc] X λe w'=>bW X w'∧((l.length≤fr.length∧∃ wa wc,e=.r (.agg #[.i (rt:Nat),.s wa l.length wc])∧aH w' (New X w') wa ((l.map enc1).flatMap dQ)∧l.length≤wc)∨(fr.length<l.length∧e=.panicked (kH 8)))):=λX fa fc hX hof=>by
    obtain⟨hD,_,_,_,_,_,hb⟩:=HK.o X hX;obtain⟨fa',fc',he,hfc,hrow⟩:=bR hof;simp only [AQ,CV] at he;obtain⟨e1,e2⟩:=he;subst e1 e2;have:=qFf D.β D.sv D.lv D.fs hl o D.root (hr▸ho) hf2 ca cc cs S fa fc fr _ X hD.file (hR.on (vV hb hS)) (λk hk=>jY (hS k hk) hb.size) hri hcn hc hca hG hrow (λk hk=>aK hof hk) (λhne=>by
      rcases jH hof with⟨_,h2,_⟩|⟨g,c,cur,h3,_⟩
      . exact absurd (AH h2) hne
      . simp only [AQ] at h3;exact⟨g,0,h3.1⟩) hfc hT
    rw [hrt,hll] at this;exact this
  have HZ:Hid (W1.heap.size=w.heap.size+2):=z1;have HD:Hid (D.d<w.heap.size):=(gL h.box);have hadd:IntKind.i64.wrap ((v:Int)+1)=(v:Int)+1:=by rw [CS];omega
  clear h hm ho hao hts hR hG hT hfr hrt hll z1 hv hr har;go_enter Tryz.func129,Tryz.ntmps129;go_wp2_with (first
    | (go_at_call 156;(with_reducible refine Calls.m hCM ?_);rintro e X1 ⟨rfl,hX1⟩;obtain⟨_,k2,k4,k5,_⟩:=HK.o X1 hX1;have hTA:=HTA.o X1 hX1)
    | (go_at_call 36;(with_reducible refine Calls.m hTA ?_);rintro e X2 ⟨rfl,hX2⟩;have B2:=hX1.t (hX2.m hX1.size)))
  obtain⟨X3,hX3⟩:=nM (X2.alloc (Xz D.β D.root ca cs.length cc));rw [hX3];have t3:X3.heap[X2.heap.size]?=some (Xz D.β D.root ca cs.length cc):=hX3▸aC X2 _;have z12:=B2.size;have B3:bW W1 X3:=hX3▸B2.alloc z12 _;have z13:=B3.size;have HS:Hid (∀ X,bW X3 X→X.cell? (aD X2.heap.size 0)=some (.p D.β 0)∧X.cell? (aD X2.heap.size 1)=some (.i D.root)∧X.cell? (aD X2.heap.size 2)=some (.s ca cs.length cc)):=λX hX=>eC ((hX.block _ (gL t3)).t t3);have B30:bW X3 X3:=AC _ _;by_cases hno:fr.length<l.length
  . refine cS (S:=(λX:World=>X.cell? (aD X2.heap.size 0)=some (.p D.β 0)∧X.cell? (aD X2.heap.size 1)=some (.i D.root)∧X.cell? (aD X2.heap.size 2)=some (.s ca cs.length cc))) 5 (by kernel_rfl) ?_
    have hHeld:=(show (λX:World=>X.cell? (aD X2.heap.size 0)=some (.p D.β 0)∧X.cell? (aD X2.heap.size 1)=some (.i D.root)∧X.cell? (aD X2.heap.size 2)=some (.s ca cs.length cc)) X3.drew from HS.o _ B30.drew);refine tks [(0,.agg #[.p D.β 0,.i D.root,.s ca cs.length cc]),(1,.p D.d 0)] (by assumption) ?_;iterate 2 (refine⟨_,rfl,by kernel_rfl,λ_ _ _ h=>h,.inl ⟨by rfl,λw hSw=>by(try dsimp only at hSw);go_simp⟩,?_⟩;try simp only [Act.put,jV,jZ,jX])
    refine tke ?_;refine mO (i:=2) (j:=4) (by kernel_rfl) rfl rfl (λK hK=>?_) (λK hK=>?_)
    . go_simp
      go_at_call 158
      (with_reducible refine Calls.m (HFe.o _ (B3.t (Below.m (B30.drew) z13))) ?_)
      rintro e X5 ⟨vf,rfl,hof,hX5⟩;obtain⟨fa,fc,rfl⟩:=aG hof;have BF:=(B30.drew).t (hX5.m (by simp));simp only [];refine hK.out _ _ (λ_=>HS.o _ BF) ?_;try simp only [Act.put,jV,jZ,jX]
      refine mO (i:=3) (j:=4) (by kernel_rfl) rfl rfl (λK hK=>?_) (λK hK=>?_)
      . go_simp
        go_at_call 157
        (with_reducible refine Calls.m (HPl.o _ fa fc (B3.t (Below.m (BF) z13)) (hof)) ?_)
        rintro e X6 ⟨hX6,hQ⟩;rcases hQ with⟨hq,_⟩|⟨_,rfl⟩
        . omega
        exact⟨rfl,(B1.t (B3.m B1.size)).t (((BF).t (hX6.m (by have:=BF.size;simp;omega))).m (by have:=B1.size;omega)),.inr ⟨hno,rfl⟩⟩
      . go_simp
        refine hK.out _ _ (λ_=>HS.o _ (BF.alloc BF.size _)) ?_;try simp only [Act.put,jV,jZ,jX]
        refine aR (i:=3) (by kernel_rfl) rfl (λK hK=>?_);go_simp;go_at_call 157
        (with_reducible refine Calls.m (HPl.o _ fa fc (B3.t (Below.m (BF.alloc BF.size _) z13)) (CH (w:=X5) hof _)) ?_)
        rintro e X6 ⟨hX6,hQ⟩;rcases hQ with⟨hq,_⟩|⟨_,rfl⟩
        . omega
        exact⟨rfl,(B1.t (B3.m B1.size)).t (((BF.alloc BF.size _).t (hX6.m (by have:=BF.size;simp;omega))).m (by have:=B1.size;omega)),.inr ⟨hno,rfl⟩⟩
    . go_simp
      refine hK.out _ _ (λ_=>HS.o _ (B30.drew.alloc (jU _) _)) ?_;try simp only [Act.put,jV,jZ,jX]
      refine aR (i:=2) (by kernel_rfl) rfl (λK hK=>?_);go_simp;go_at_call 158
      (with_reducible refine Calls.m (HFe.o _ (B3.t (Below.m (B30.drew.alloc (jU _) _) z13))) ?_)
      rintro e X5 ⟨vf,rfl,hof,hX5⟩;obtain⟨fa,fc,rfl⟩:=aG hof;have BF:=(B30.drew.alloc (jU _) _).t (hX5.m (by simp));simp only [];refine hK.out _ _ (λ_=>HS.o _ BF) ?_;try simp only [Act.put,jV,jZ,jX]
      refine aR (i:=3) (by kernel_rfl) rfl (λK hK=>?_);go_simp;go_at_call 157
      (with_reducible refine Calls.m (HPl.o _ fa fc (B3.t (Below.m (BF) z13)) (hof)) ?_)
      rintro e X6 ⟨hX6,hQ⟩;rcases hQ with⟨hq,_⟩|⟨_,rfl⟩
      . omega
      exact⟨rfl,(B1.t (B3.m B1.size)).t (((BF).t (hX6.m (by have:=BF.size;simp;omega))).m (by have:=B1.size;omega)),.inr ⟨hno,rfl⟩⟩
  have HPL:Hid (∀ X fa fc,bW W1 X→X.ownsRow 0 3 1 (.s fa fr.length fc) fr.length (fr.map (λn:Nat=>Value.i n))→cL 157 #[.agg #[.p D.β 0,.i D.root,.s ca cs.length cc],.s fa fr.length fc] X λe w'=>∃ wa wc,e=.r (.agg #[.i (rt:Nat),.s wa l.length wc])∧aH w' (New X w') wa ((l.map enc1).flatMap dQ)∧l.length≤wc∧bW X w'):=λX fa fc hX hof=>(HPl.o X fa fc hX hof).m (by
    rintro e w' ⟨hb,(⟨_,wa,wc,he,hr,hc⟩|⟨hq,_⟩)⟩
    . exact⟨wa,wc,he,hr,hc,hb⟩
    . omega)
  go_region_held3 (λX=>X.cell? (aD X2.heap.size 0)=some (.p D.β 0)∧X.cell? (aD X2.heap.size 1)=some (.i D.root)∧X.cell? (aD X2.heap.size 2)=some (.s ca cs.length cc))
    ((refine HS.o _ ?_;(repeat (first|exact BP|exact BF|exact B30|(refine JM ?_)|(refine KY ?_ (by first|omega|(simp;omega)) _)|(refine JQ ?_ (by first|omega|(simp;omega)|(show X3.heap.size≤X5.heap.size;omega)|(show X3.heap.size≤X6.heap.size;omega)|exact jU _) _)))))
    (first
      | (go_at_call 158;(with_reducible refine Calls.m (HFe.o _ ?_) ?_);exact(B3.alloc z13 _).drew;rintro e X5 ⟨vf,rfl,hof,hX5⟩;obtain⟨fa,fc,rfl⟩:=aG hof;have BF:=(B30.alloc (jU _) _).drew.t (hX5.m (by simp));have zF:=BF.size;have xA:X5.heap[X3.heap.size]?=some (gI 0 .n):=(hX5.block X3.heap.size (by simp)).t (aC X3 (gI 0 .n));have lA:=(gL xA))
      | (go_at_call 158;(with_reducible refine Calls.m (HFe.o _ ?_) ?_);exact B3.drew;rintro e X5 ⟨vf,rfl,hof,hX5⟩;obtain⟨fa,fc,rfl⟩:=aG hof;have BF:=B30.drew.t hX5;have zF:=BF.size)
      | (go_at_call 157;(with_reducible refine Calls.m (HPL.o _ fa fc ?_ ?_) ?_);exact B3.t (BF.m z13);exact hof;rintro e X6 ⟨wa,wc,rfl,hRw,hwc,hX6⟩;have BP:bW X3 X6:=BF.t (hX6.m zF);have zP:=BP.size;have xB:X6.heap[X3.heap.size]?=some (gI 0 .n):=(hX6.block X3.heap.size lA).t xA;obtain⟨g0,g1⟩:=bY xB;have gfr:=aA xB)
      | (go_at_call 157;(with_reducible refine Calls.m (HPL.o _ fa fc ?_ ?_) ?_);exact(B3.t (BF.m z13)).alloc (by omega) _;exact CH (w:=X5) hof _;rintro e X6 ⟨wa,wc,rfl,hRw,hwc,hX6⟩;have BP:bW X3 X6:=(BF.alloc zF _).t (hX6.m (by simp;omega));have zP:=BP.size;have xB:X6.heap[X5.heap.size]?=some (gI 0 .n):=(hX6.block X5.heap.size (by simp)).t (aC X5 (gI 0 .n));obtain⟨g0,g1⟩:=bY xB;have gfr:=aA xB)
      | (go_at_call 157;(with_reducible refine Calls.m (HPL.o _ fa fc ?_ ?_) ?_);exact B3.t (BF.m z13);exact hof;rintro e X6 ⟨wa,wc,rfl,hRw,hwc,hX6⟩;have BP:bW X3 X6:=BF.t (hX6.m zF);have zP:=BP.size;have xE:=aC X6 (gI 0 .n);obtain⟨g0,g1⟩:=bY xE;have gfr:=aA xE))
  all_goals
    have zz:=HZ.o;first
      | (obtain⟨Xf,hXf⟩:=nM (X6.alloc (gI (rt:Nat) (.s wa l.length wc)))
         rw [hXf];have BFf:bW X3 Xf:=hXf▸BP.alloc zP _;have b7:Xf.heap[X6.heap.size]?=some (gI (rt:Nat) (.s wa l.length wc)):=by rw [← hXf];exact aC X6 _
         have HRF:Hid (aH Xf (λk=>X3.heap.size≤k∧k<Xf.heap.size) wa ((l.map enc1).flatMap dQ)):=by show aH _ _ _ _;rw [← hXf];exact(hRw.on ((CN _ X6).alloc (λk hk=>hk.2) _)).m (λk hk=>⟨by have:=hk.1;omega,by have:=hk.2;simp;omega⟩)
         obtain⟨B7,hB7⟩:=nM (X6.heap.size);have zB7:X3.heap.size≤B7:=by omega
         rw [hB7] at b7 ⊢;clear hXf hB7)
      | (obtain⟨Xf,hXf⟩:=nM ((X6.setCell (aD X5.heap.size 0) (.i (rt:Nat))).setCell (aD X5.heap.size 1) (.s wa l.length wc))
         rw [hXf];have BFf:bW X3 Xf:=hXf▸(BP.setCell (p:=(aD X5.heap.size 0)) zF _).setCell (p:=(aD X5.heap.size 1)) zF _;have b7:Xf.heap[X5.heap.size]?=some (gI (rt:Nat) (.s wa l.length wc)):=by rw [← hXf];have:=aB (aB xB 0 (.i (rt:Nat))) 1 (.s wa l.length wc);simpa using this
         have HRF:Hid (aH Xf (λk=>X3.heap.size≤k∧k<Xf.heap.size) wa ((l.map enc1).flatMap dQ)):=by show aH _ _ _ _;rw [← hXf];exact(hRw.on (((CN _ X6).setCell (p:=(aD X5.heap.size 0)) (λhk=>by have h1:(X5.alloc (gI 0 .n)).heap.size≤X5.heap.size:=hk.1;rw [MC] at h1;omega) _).setCell (p:=(aD X5.heap.size 1)) (λhk=>by have h1:(X5.alloc (gI 0 .n)).heap.size≤X5.heap.size:=hk.1;rw [MC] at h1;omega) _)).m (λk hk=>⟨by have h1:(X5.alloc (gI 0 .n)).heap.size≤k:=hk.1;rw [MC] at h1;omega,by have:=hk.2;simp;omega⟩)
         obtain⟨B7,hB7⟩:=nM (X5.heap.size);have zB7:X3.heap.size≤B7:=by omega
         rw [hB7] at b7 ⊢;clear hXf hB7)
      | (obtain⟨Xf,hXf⟩:=nM ((X6.setCell (aD X3.heap.size 0) (.i (rt:Nat))).setCell (aD X3.heap.size 1) (.s wa l.length wc))
         rw [hXf];have BFf:bW X3 Xf:=hXf▸(BP.setCell (p:=(aD X3.heap.size 0)) (jU _) _).setCell (p:=(aD X3.heap.size 1)) (jU _) _;have b7:Xf.heap[X3.heap.size]?=some (gI (rt:Nat) (.s wa l.length wc)):=by rw [← hXf];have:=aB (aB xB 0 (.i (rt:Nat))) 1 (.s wa l.length wc);simpa using this
         have HRF:Hid (aH Xf (λk=>X3.heap.size≤k∧k<Xf.heap.size) wa ((l.map enc1).flatMap dQ)):=by show aH _ _ _ _;rw [← hXf];exact(hRw.on (((CN _ X6).setCell (p:=(aD X3.heap.size 0)) (λhk=>by have h1:X5.heap.size≤X3.heap.size:=hk.1;omega) _).setCell (p:=(aD X3.heap.size 1)) (λhk=>by have h1:X5.heap.size≤X3.heap.size:=hk.1;omega) _)).m (λk hk=>⟨by have h1:=hk.1;omega,by have:=hk.2;simp;omega⟩)
         obtain⟨B7,hB7⟩:=nM (X3.heap.size);have zB7:X3.heap.size≤B7:=by omega
         rw [hB7] at b7 ⊢;clear hXf hB7)
    clear g0 g1 gfr hRw hX6 hof hX5;have BW:bW W1 Xf:=B3.t (BFf.m z13);obtain⟨_,k2,k4,k5,pP,pG,hBw⟩:=HK.o Xf BW;have dlt:D.d<w.heap.size:=HD.o;obtain⟨g0,g1⟩:=bY b7;obtain⟨q0,q1⟩:=bY pP;have qfr:=aA pP;obtain⟨r0,r1,r2,r3,r4,r5,r6,r7⟩:=bO pG;have rfr:=aA pG;go_wp2;go_region_held3 (λX=>X.cell? (aD B7 0)=some (.i (rt:Nat))∧X.cell? (aD B7 1)=some (.s wa l.length wc)∧X.cell? (aD D.d 4)=some (.i (v:Nat)))
      ((first|(with_reducible exact⟨g0,g1,k4⟩)|(refine⟨?_,?_,?_⟩<;>(try rw [zS])<;>(repeat (with_reducible refine cH (by omega) ?_))<;>(first|(with_reducible exact g0)|(with_reducible exact g1)|(with_reducible exact k4)))|(simp [g0,g1,k4])))
      (fail)
    obtain⟨Xh,hXh⟩:=nM ((Xf.setCell (aD w.heap.size 0) (.i (rt:Nat))).setCell (aD w.heap.size 1) (.s wa l.length wc));have fh:Fr (Bl.one w.heap.size) Xf Xh:=hXh▸(((AE (Bl.one w.heap.size) Xf).setCell (p:=(aD w.heap.size 0)) (.inl rfl) _).setCell (p:=(aD w.heap.size 1)) (.inl rfl) _);have bh:Xh.heap[w.heap.size]?=some (gI (rt:Nat) (.s wa l.length wc)):=by rw [← hXh];have:=aB (aB pP 0 (.i (rt:Nat))) 1 (.s wa l.length wc);simpa using this
    have gh:=fh.heap pG (oN (by omega));obtain⟨Xg,hXg⟩:=nM ((qEi Xh (w.heap.size+1) (.i 1) (.i ((v:Int)+1)) (.i (rt:Nat)) (.i 0) .n .n .n .e).drew);have fg:Fr (Bl.one (w.heap.size+1)) Xh Xg:=hXg▸(qEh Xh (w.heap.size+1) _ _ _ _ _ _ _ _).drew;have bg:Xg.heap[w.heap.size]?=some (gI (rt:Nat) (.s wa l.length wc)):=fg.heap bh (oN (by omega));have gg:Xg.heap[w.heap.size+1]?=some (Ao ((v:Int)+1) (rt:Nat)):=by rw [← hXg,GX];exact qAa gh _ _ _ _ _ _ _ _
    rw [hXh,hXg];have zg:=fg.size;have zh:=fh.size;have HBG:Hid (bW w Xg):=(hBw.t (fh.below hBw.size (oK (by omega)))).t (fg.below (by have:=hBw.size;omega) (oK (by omega)));have HRG:Hid (aH Xg (New w Xg) wa ((l.map enc1).flatMap dQ)):=by
      have hRf':aH Xf (λk=>X3.heap.size≤k∧k<Xf.heap.size) wa ((l.map enc1).flatMap dQ):=HRF.o;refine((hRf'.on (fh.on (λk hk=>⟨hk.2,λe=>by simp only [Bl.one] at e;have:=hk.1;omega⟩))).on (fg.on (λk hk=>⟨by have:=hk.2;omega,λe=>by simp only [Bl.one] at e;have:=hk.1;omega⟩))).m (λk hk=>⟨by have:=hk.1;omega,by have:=hk.2;omega⟩)
    clear hXh hXg bh gh fh fg g0 g1 q0 q1 qfr r0 r1 r2 r3 r4 r5 r6 r7 rfr pP pG;go_wp2;refine BI (v:=.tuple #[.agg #[.i (rt:Nat),.s wa l.length wc],.agg #[.i 1,.i (v+1:Nat),.i (rt:Nat),.i 0,.n,.n,.n,.e]]) ?_ rfl ⟨HBG.o,.inl ⟨by omega,wa,wc,rfl,HRG.o,hwc⟩⟩;exact Dy (p:=4) (q:=5) rfl _ _ w.heap.size (w.heap.size+1) _ _ _ _ _ _ rfl rfl bg gg Tryz.underlying193 rfl (by kernel_rfl) Tryz.underlying80 rfl (by kernel_rfl)
def qJu (P:sE K n fs o cs fr):Xs fs o cs:=⟨P.good,P.size⟩
def sE.fewF (P:sE K n fs o cs fr):fr.length<=4096:=by
 have a:=Lz (l:=fr) (m:=List.range n) P.nodup (λp b=>JL.2 (P.free p b).2);rw[List.length_range]at a;have:=P.small;omega
def Xp.few (P:Xp K n fs o cs fr):(bM o cs fr).2.length<=4096:=vJ P.room P.fewF
def qLd (P:sE K n fs o cs fr):qIk fs (Ly o cs) fr:=by
 have H:=Fw P.tree.rooted P.rise P.good;refine⟨λc a=>?_,by have:=P.fewF;omega,P.place⟩;have b:iU o cs=some c:=a;rw[b]at H;exact H.1
abbrev Db.made(D:Db)(lv':Value)(fs':Fs)(v rt:Nat):Db:={D with lv:=lv',fs:=fs',ver:=(v:Nat),root:=rt,aroot:=D.root,ka:=none,ia:=none,ea:=none,kc:=0,ic:=0,ec:=0}
structure View (n:Nat) (fs:Fs) (v:Nat) (o ao:Option (Nat×T)):Prop where
 len:fs.safe.length=n
 m0:gE fs (v % 2) v (rootOf o)
 sure:Tr [] fs o
 ahead:Tr [] fs ao
def fA.view {n v:Nat}{o ao:Option (Nat×T)}(S:fA [] n fs v o ao):View n fs v o ao:=⟨S.len,S.meta0,S.sure,S.ahead⟩
def Nt {b k l p s u v x y z A q r m n o t}(h:cW w b #[k,l,p,s,u,v,x,y,z,A,q,r,m,n,o] t)(v3 d e f g i j a c:Value):(qIw (w.setCell (aD b 11) c) b v3 d e f g i j a).heap[b]?=some (.cells #[k,l,p,v3,d,e,f,g,i,j,a,c,m,n,o] t):=by
 have:=aB (aB (aB (aB (aB (aB (aB (aB (aB h 11 c) 3 v3) 4 d) 5 e) 6 f) 7 g) 8 i) 9 j) 10 a;simpa using this
def Tz(w:World)(b:Nat)(v3 d e f g h i a c:Value):Fr (Bl.one b) w (qIw (w.setCell (aD b 11) c) b v3 d e f g h i a):=
 (((((((((AE (Bl.one b) w).setCell (p:=(aD b 11)) (.inl rfl) _).setCell (p:=(aD b 3)) (.inl rfl) _).setCell (p:=(aD b 4)) (.inl rfl) _).setCell (p:=(aD b 5)) (.inl rfl) _).setCell (p:=(aD b 6)) (.inl rfl) _).setCell (p:=(aD b 7)) (.inl rfl) _).setCell (p:=(aD b 8)) (.inl rfl) _).setCell (p:=(aD b 9)) (.inl rfl) _).setCell (p:=(aD b 10)) (.inl rfl) _
def qKw(D:Db)(st:Int)(l:List (Nat×Pg))(fr:List Nat)(v rt:Nat)(w:World)(e:Ending)(w':World):Prop :=
 (bW w w'/\((fr.length<l.length/\e=.panicked (kH 8))\/(l.length<=fr.length/\D.failed=true/\e=.returned (.bool false)))) \/
 (l.length<=fr.length/\D.failed=false/\∃b fs' lv',WrR D.fs l (v % 2) (bK (v:Nat) (rt:Nat)) b fs'/\e=.returned (.bool b)/\aO w' st (if b then D.made lv' fs' v rt else {D with lv:=lv',fs:=fs'})/\Fr (λk=>k=D.d\/fpF D.β D.sv D.lv k) w w'/\aJ w (fpF D.β D.sv D.lv) (fpF D.β D.sv lv'))
def qDw (D:Db)(x:Int)(v:Nat)(o ao:Option (Nat×T))(s:Tx->Option (Nat×T))(z:Option Addr)(I:Nat)(cs:List Ch)(S:Bl)(w:World)(h:aO w x D)(ac:D.fs.dy)(hal:(D.fs.life==0)=false)(m:D.failed=false->fA [] n D.fs v o ao)(aq:D.ver=v)(ar:v+1<9223372036854775808)(hn:D.ts.length<=1000)(y:View n D.fs v o ao)(b3:2<=n)(hr:D.root=rootOf o)(am:D.aroot=rootOf ao)(ap:∀t∈D.ts,bQ D.fs (rootOf (s t)) (s t)/\t.root=rootOf (s t))(P:sE [] n D.fs o cs (frD D o ao s))(aj:aH w S z (cs.flatMap Ch.cells))(b6:lW S w)(ba:cs.length<=1000000)(b8:cs.length<=I)(b9:(z=none/\I=0)\/∃b bh,z=some (aD b bh)):
  cL 94 #[.p D.d 0,.s z cs.length I] w (qKw D x (bM o cs (frD D o ao s)).2 (frD D o ao s) (v+1) (rootOf (bM o cs (frD D o ao s)).1) w):=by
 have a7:=fU D.β D.sv D.lv D.fs w h.file;rw[hal]at a7;have bc:D.fs.safe.length=n:=y.len;have J:=qCv D x v o ao s z I cs S w h aq ar hn hal (by omega) (hr▸y.m0) y.sure.rooted hr y.sure.flat y.ahead.rooted am ap aj b6 P.rise ba b8 b9 (qJu P) (qLd P);obtain⟨k,an⟩:=nM (frD D o ao s);rw[an]at J P⊢;obtain⟨a,ab⟩:=nM (rootOf (bM o cs k).1);obtain⟨l,M⟩:=nM ((bM o cs k).2);have ah:l.length<=k.length->D.failed=false->D.fs.late=[]/\(∀B∈l,B.2.encE=0)/\(∀B∈l,B.1<D.fs.safe.length)/\(a=0\/bI (a:Nat)=true)/\l.length<=4096:=λi L=>by
  have af:Xp [] n D.fs o cs k:=⟨P,by rw[M];exact i⟩;obtain⟨F,G,H,_,_⟩:=nF (m L) af ar b3;have bb:=af.few;rw[M]at G H bb;refine⟨(m L).late,G,λB be=>?_,ab▸F.sure.root,by omega⟩;have:=P.free _ (sK H B be);omega
 change Calls _ _ _ _ (λg w'=>qKw D x (bM o cs k).2 k (v+1) (rootOf (bM o cs k).1) w g w');rw[ab,M]at J⊢;obtain⟨O,Q,Z,a0,a1,a2,a3,a4,a5,a6,U,V,E,W,Y⟩:=eQ h.box;have ax:Hid (∀X e f,l.length<=k.length->D.failed=false->bW w X->aH X (New w X) e ((l.map enc1).flatMap dQ)->l.length<=f->cL 130 #[.p D.d 0,.agg #[.i (a:Nat),.s e l.length f],.agg #[.i 1,.i ((v:Int)+1),.i (a:Nat),.i 0,.n,.n,.n,.e]] X λg w'=>∃b q r,WrR D.fs l ((v+1) % 2) (bK (v+1:Nat) (a:Nat)) b q/\g=.r (.bool b)/\aO w' x {D with lv:=r,fs:=q}/\Fr (fpF D.β D.sv D.lv) X w'/\aJ X (fpF D.β D.sv D.lv) (fpF D.β D.sv r)):=λX e f i L aa K N=>by
  obtain⟨F,G,H,b0,b1⟩:=ah i L;have b4:=h.on (vV aa h.lies);obtain⟨⟨b,q⟩,ak⟩:∃R,D.fs.wrA (lL l) ((v+1) % 2) (bK (v+1:Nat) (a:Nat)).encS=R:=⟨_,rfl⟩;refine(qLb D x l ⟨0,v+1,a,none,none,none,0,0,0⟩ a e f (New w X) X b4 ac F K (λd c=>⟨c.2,λg=>by have:=h.file.lies d g;have:=c.1;omega⟩) N b1 G H (tO (v+1:Nat) a (by omega) (b0.imp (λh=>by rw[h];rfl) id)) (Eu _ _) (by omega) _ ak).m ?_;rintro g w' ⟨rfl,r,au,bi,bj⟩;exact⟨b,q,r,qIp F ac ak,rfl,au,bi,bj⟩
 have C:Hid (∀X,bW w X->X.c D.d 2=some (.p D.β 0)/\X.c D.d 12=some (.bool D.failed)):=λX aa=>by
  obtain⟨O,Q,Z,a0,a1,a2,a3,a4,a5,a6,U,V,E,W,Y⟩:=eQ (h.on (vV aa h.lies)).box;exact⟨Z,E⟩
 have aw:Hid (∀d,w.heap.size<=d->¬fpF D.β D.sv D.lv d):=λd c g=>by have:=h.file.lies d g;omega
 clear an ab M P ap aj ac ah h hr am aq bc m y O Q a0 a1 a2 a3 a4 a5 a6 U V E W Y;cases m:D.failed
 .rw[m]at C
  go_enter Tryz.func94,Tryz.ntmps94;go_wp2_with (first
   |(go_at_call 49;apply Calls.m a7;rintro g w' ⟨rfl,bd⟩;subst w')
   |(go_at_call 129;apply Calls.m J;rintro g j ⟨u,a9⟩;rcases a9.symm with⟨i,rfl⟩|⟨i,e,f,rfl,K,N⟩;(exact⟨rfl,GP ⟨u,.inl ⟨i,rfl⟩⟩⟩);have ad:=u.size;have p:bW w ((j.alloc (gI (a:Nat) (.s e l.length f))).alloc (Ao ((v:Int)+1) (a:Nat))):=(u.alloc ad _).alloc (by simp;omega) _;have ay:((j.alloc (gI (a:Nat) (.s e l.length f))).alloc (Ao ((v:Int)+1) (a:Nat))).heap[j.heap.size]?=some (gI (a:Nat) (.s e l.length f)):=aQ _ (aC j _);have ag:((j.alloc (gI (a:Nat) (.s e l.length f))).alloc (Ao ((v:Int)+1) (a:Nat))).heap[j.heap.size+1]?=some (Ao ((v:Int)+1) (a:Nat)):=(by have:=aC (j.alloc (gI (a:Nat) (.s e l.length f))) (Ao ((v:Int)+1) (a:Nat));simpa using this);obtain⟨bg,bf⟩:=C.o _ p;obtain⟨bt,au⟩:=bY ay;obtain⟨bk,bl,bm,bn,bo,bp,bq,br⟩:=bO ag;have b7:=ax.o ((j.alloc (gI (a:Nat) (.s e l.length f))).alloc (Ao ((v:Int)+1) (a:Nat))) e f i m p ((K.on (((CN (New w j) j).alloc (λd c=>c.2) _).alloc (λd c=>by have:=c.2;simp;omega) _)).m (λd c=>⟨c.1,by have:=c.2;simp;omega⟩)) N)
   |(go_at_call 130;apply Calls.m b7;rintro g X3 ⟨az,q,r,al,rfl,A,a8,ai⟩;obtain⟨O,Q,Z,a0,a1,a2,a3,a4,a5,a6,U,V,E,W,Y⟩:=eQ A.box;have bs:=aA A.box;have b2:=a8.heap ag (aw.o _ (by omega));obtain⟨bk,bl,bm,bn,bo,bp,bq,br⟩:=bO b2;cases az))
  .go_ret
   exact Or.inr ⟨i,m,false,q,r,al,rfl,A,(AB p).t (a8.m (λd c=>.inl (.inr c))),λd c=>(ai d c).imp id (λh=>by have:=p.size;omega)⟩
  .have av:=Nt A.box (.i 1) (.i ((v:Int)+1)) (.i (a:Nat)) (.i 0) .n .n .n .e (.i D.root)
   have ae:=Tz X3 D.d (.i 1) (.i ((v:Int)+1)) (.i (a:Nat)) (.i 0) .n .n .n .e (.i D.root);have b5:aO _ x (D.made r q (v+1) a):=A.rebox (D':=D.made r q (v+1) a) ae rfl rfl rfl rfl rfl rfl rfl av;go_ret;exact Or.inr ⟨i,m,true,q,r,al,rfl,b5,((AB p).t (a8.m (λd c=>.inl (.inr c)))).t (ae.m (λd c=>.inl (.inl c))),λd c=>(ai d c).imp id (λh=>by have:=p.size;omega)⟩
 .rw[m]at C
  go_enter Tryz.func94,Tryz.ntmps94;go_wp2_with (first
   |(go_at_call 49;apply Calls.m a7;rintro g w' ⟨rfl,bd⟩;subst w')
   |(go_at_call 129;apply Calls.m J;rintro g j ⟨u,a9⟩;rcases a9.symm with⟨i,rfl⟩|⟨i,e,f,rfl,K,N⟩;(exact⟨rfl,GP ⟨u,.inl ⟨i,rfl⟩⟩⟩);have ad:=u.size;have p:bW w ((j.alloc (gI (a:Nat) (.s e l.length f))).alloc (Ao ((v:Int)+1) (a:Nat))):=(u.alloc ad _).alloc (by simp;omega) _;obtain⟨bg,bf⟩:=C.o _ p))
  go_ret;exact GP ⟨p,.inr ⟨i,m,rfl⟩⟩
def Zx(D:Db)(f:Int)(b:Option Addr)(d c:Nat)(w:World)(h:aO w f D)(hal:D.fs.life=0):
  cL 94 #[.p D.d 0,.s b d c] w λe w'=>e=.r (.bool false)/\w'=w:=by
 have a:=fU D.β D.sv D.lv D.fs w h.file;rw[show(D.fs.life==0)=true by rw[hal];rfl]at a;have⟨g,i,o,p,q,r,s,t,u,v,j,k,l,m,n⟩:=eQ h.box;go_enter Tryz.func94,Tryz.ntmps94;go_wp2_with (go_at_call 49;apply Calls.m a;rintro e w' ⟨rfl,x⟩;subst w');go_ret;exact⟨rfl,rfl⟩
def aO.away {e:Int}{D t}(h:aO w e D)(c:eI w D.β t)(d:∀x∈D.ts,rY x t):∀k,fpT t k->¬fpD D k:=by
 rintro k b (a|a|a|⟨x,g,a⟩)
 .subst a;exact wJ c h.box (by decide) (by decide) b
 .exact h.txFile c k b a
 .exact h.txRow c k b a
 .exact d x g k a b
structure Cz (ts:List Tx) (cs:List Ch) (ts':List Tx):Prop where
 len:ts'.length=ts.length
 each:∀i (h:i<ts.length),qDl ts[i] cs (ts'[i]'(by omega))
structure Nc (ts:List Tx) (cs:List Ch) (j:Nat) (ts':List Tx):Prop where
 len:ts'.length=ts.length
 done:∀i (h:i<ts.length),i<j->qDl ts[i] cs (ts'[i]'(by omega))
 left:∀i (h:i<ts.length),j<=i->ts'[i]'(by omega)=ts[i]
def qDl.b {t t'}(h:qDl t cs t'):t'.b=t.b:=by obtain⟨_,_,rfl,_⟩:=h;rfl
def Nc.step {ts a:List Tx}{j t'}(h:Nc ts cs j a)(c:j<ts.length)(ht:qDl ts[j] cs t'):Nc ts cs (j+1) (a.set j t'):=by
 refine⟨by rw[CL,h.len],λi g b=>?_,λi g b=>?_⟩
 .rw[DN]
  split
  .next e=>subst e;exact ht
  .exact h.done i g (by omega)
 .rw[DN,AR (by omega)]
  exact h.left i g (by omega)
def Tl(D:Db)(l:List (Nat×Pg))(fr:List Nat)(v rt:Nat)(cs:List Ch)(z:Int)(D':Db):Prop :=
 (z=9/\((D.fs.life=0\/(l.length<=fr.length/\D.failed=true))/\D' = {D with failed:=true} \/
  ((D.fs.life==0)=false/\l.length<=fr.length/\D.failed=false/\∃fs' lv',WrR D.fs l (v % 2) (bK (v:Nat) (rt:Nat)) false fs'/\D' = {D with lv:=lv',fs:=fs',failed:=true}))) \/
 (z=0/\(D.fs.life==0)=false/\l.length<=fr.length/\D.failed=false/\∃fs' lv' ts',WrR D.fs l (v % 2) (bK (v:Nat) (rt:Nat)) true fs'/\Cz D.ts cs ts'/\D' = {D.made lv' fs' v rt with ts:=ts'})
def qKk(D:Db)(st:Int)(l:List (Nat×Pg))(fr:List Nat)(v rt:Nat)(cs:List Ch)(w:World)(e:Ending)(w':World):Prop :=
 (e=.panicked (kH 8)/\(D.fs.life==0)=false/\fr.length<l.length/\bW w w') \/
 (∃z D',e=.returned (.i z)/\aO w' st D'/\Fr (fpD D) w w'/\aJ w (fpD D) (fpD D')/\Tl D l fr v rt cs z D')
def Wz (D:Db)(st:Int)(v:Nat)(o ao:Option (Nat×T))(ot:Tx->Option (Nat×T))(t:Tx)(w:World)(h:aO w st D)(hT:eI w D.β t)(hap:∀x∈D.ts,rY x t)(hne:0<t.cs.length)(hks:∀c∈t.cs,c.key ∉ t.ks)(hcn:t.cs.length<=1000000)(hw:D.fs.dy)(hfd:D.failed=false->fA [] n D.fs v o ao)(hv:D.ver=v)(hv63:v+1<9223372036854775808)(hn:D.ts.length<=1000)(V:View n D.fs v o ao)(h2:2<=n)(hr:D.root=rootOf o)(har:D.aroot=rootOf ao)(hts:∀t∈D.ts,bQ D.fs (rootOf (ot t)) (ot t)/\t.root=rootOf (ot t))(P:sE [] n D.fs o t.cs (frD D o ao ot)):
  cL 44 #[.p D.d 0,.p t.b 0] w (qKk D st (bM o t.cs (frD D o ao ot)).2 (frD D o ao ot) (v+1) (rootOf (bM o t.cs (frD D o ao ot)).1) t.cs w):=by
 have ay:=Gq D.β t w hT (by omega) hks;obtain⟨fr,Z⟩:=nM (frD D o ao ot);obtain⟨l,aa⟩:=nM ((bM o t.cs fr).2);obtain⟨rt,S⟩:=nM (rootOf (bM o t.cs fr).1);have am:=h.away hT hap;obtain⟨a0,c0,he,bd,L⟩:=bR hT.row;simp only[Tx.cv,AQ,CV]at he;obtain⟨e1,e2⟩:=he;subst e1 e2;have b2:Hid (∀X,bW w X->cL 94 #[.p D.d 0,.s t.ca t.cs.length t.cc] X λe w'=>(e=.panicked (kH 8)/\qKk D st l fr (v+1) rt t.cs w (.panicked (kH 8)) w')\/(∃b B,e=.r (.bool b)/\B.d=D.d/\aO w' st B/\Fr (fpD D) w w'/\aJ w (fpD D) (fpD B)/\(b=false->Tl D l fr (v+1) rt t.cs 9 {B with failed:=true})/\(b=true->∃y u,B=D.made u y (v+1) rt/\∀q,Cz D.ts t.cs q->Tl D l fr (v+1) rt t.cs 0 {B with ts:=q}))):=λX K=>by
  have O:=h.on (vV K h.lies);have az:=hT.on (vV K hT.lies);cases hal:D.fs.life==0
  .refine(qDw D st v o ao ot t.ca t.cc t.cs (λk=>t.cv.ownBlock=some k) X O hw hal hfd hv hv63 hn V h2 hr har hts P (L.on (vV K (λk A=>aK hT.row A))) (λk A=>aK az.row A) hcn bd (by
    rcases jH az.row with⟨h3,h4,_⟩|⟨g,c,bp,h3,_⟩
    .simp only[Tx.cv,AQ]at h3;exact .inl ⟨h3.1,h3.2.2⟩
    .simp only[Tx.cv,AQ]at h3;exact .inr ⟨g,0,h3.1⟩)).m ?_
   rw[Z,aa,S];rintro e w' (⟨hb,(⟨q1,rfl⟩|⟨q1,q2,rfl⟩)⟩|⟨q1,q2,b,y,u,hW,rfl,hD,hF,hG⟩)
   .exact .inl ⟨rfl,.inl ⟨rfl,hal,q1,K.t (hb.m K.size)⟩⟩
   .exact .inr ⟨false,D,rfl,rfl,O.on (vV hb O.lies),AB (K.t (hb.m K.size)),CR _ _,λ_=>.inl ⟨rfl,.inl ⟨.inr ⟨q1,q2⟩,rfl⟩⟩,nofun⟩
   .have F:Fr (fpD D) w w':=(AB K).t (hF.m (λk A=>.inl (A.elim .inl (λh=>.inr (.inl h)))))
    have G:∀B:Db,B.d=D.d->B.β=D.β->B.sv=D.sv->B.lv=u->B.ov=D.ov->B.ts=D.ts->aJ w (fpD D) (fpD B):=λB p1 p2 p3 p4 p5 p6=>by
     rintro k (A|A|A|A)
     .exact .inl (.inl (A.t p1))
     .rw[p2,p3,p4]at A;exact(hG k A).imp (λh=>.inr (.inl h)) (λh=>vJ K.size h)
     .rw[p5]at A;exact .inl (.inr (.inr (.inl A)))
     .rw[p6]at A;exact .inl (.inr (.inr (.inr A)))
    cases b
    .exact .inr ⟨false,{D with lv:=u,fs:=y},rfl,rfl,hD,F,G _ rfl rfl rfl rfl rfl rfl,λ_=>.inl ⟨rfl,.inr ⟨hal,q1,q2,y,u,hW,rfl⟩⟩,nofun⟩
    .exact .inr ⟨true,D.made u y (v+1) rt,rfl,rfl,hD,F,G _ rfl rfl rfl rfl rfl rfl,nofun,λ_=>⟨y,u,rfl,λq hL=>.inr ⟨rfl,hal,q1,q2,y,u,q,hW,hL,rfl⟩⟩⟩
  .refine(Zx D st t.ca t.cs.length t.cc X O (by simpa using hal)).m ?_
   rintro e w' ⟨rfl,rfl⟩;exact .inr ⟨false,D,rfl,rfl,O,AB K,CR _ _,λ_=>.inl ⟨rfl,.inl ⟨.inl (by simpa using hal),rfl⟩⟩,nofun⟩
 rw[Z,aa,S];have bj:=(qA hT.box).2.2.2.2.1;have bl:¬((t.cs.length:Int)=0):=by omega
 have HT:Hid (eI w D.β t):=hT;have ag:Hid (∀k,fpT t k->¬fpD D k):=am;have ai:Hid (aH w (λk=>t.cv.ownBlock=some k) t.ca (t.cs.flatMap Ch.cells)):=L;have ap:Hid (∀X u y q,q.length=D.ts.length->aO X st {D.made u y (v+1) rt with ts:=q}->∃E J,D.ov=.s E D.ts.length J/\X.c D.d 14=some (.s E D.ts.length J)/\aH X (λk=>D.ov.ownBlock=some k) E (lR q)):=λX u y q hl K=>by
  obtain⟨a0,a1,a2,a3,a4,a5,a6,a7,a8,a9,bo,bq,bk,bm,b4⟩:=eQ K.box;have hr:=K.row;obtain⟨E,J,he,hc,ab⟩:=bR hr;have ax:D.ov=.s E D.ts.length J:=by rw[<-hl];exact he
  exact⟨E,J,ax,by rw[<-ax];exact b4,ab⟩
 clear Z aa S P V hfd hw hT h hv hr har hts am L hap;go_enter Tryz.func44,Tryz.ntmps44;go_wp2_with (first
  |(go_at_call 93;apply Calls.m ay;rintro e X1 ⟨rfl,b3⟩;have ak:=b2.o X1 b3)
  |(go_at_call 94;apply Calls.m ak;rintro e X2 (⟨rfl,hq⟩|⟨b,B,rfl,W,af,U,ac,an,aj⟩);(exact⟨rfl,hq⟩);have Y:Hid (aO X2 st B):=af;have HQ:Hid ((b=false->Tl D l fr (v+1) rt t.cs 9 {B with failed:=true})/\(b=true->∃y u,B=D.made u y (v+1) rt/\∀q,Cz D.ts t.cs q->Tl D l fr (v+1) rt t.cs 0 {B with ts:=q})):=⟨an,aj⟩;have I:=af.box;rw[W]at I;have ad:=(eQ I).2.2.2.2.2.2.2.2.2.2.2.2.2.2;have b6:=(eQ I).2.2.2.2.2.2.2.2.2.2.2.2.1;have b7:=aA I;clear an aj ak ay;cases b))
 .have F3:Fr (Bl.one D.d) X2 (X2.setCell (aD D.d 12) (.bool true)):=(AE (Bl.one D.d) X2).setCell (p:=(aD D.d 12)) (.inl rfl) _
  have bf:aO (X2.setCell (aD D.d 12) (.bool true)) st {B with failed:=true}:=Y.o.rebox (D':={B with failed:=true}) (W.symm▸F3) rfl rfl rfl rfl rfl rfl rfl (by rw[W];simpa using aB I 12 (.bool true));go_ret;exact Or.inr ⟨9,_,rfl,bf,U.t (F3.m (λk A=>.inl (.inl A))),ac,HQ.o.1 trivial⟩
 .obtain⟨y,u,rfl,hq⟩:=HQ.o.2 trivial
  obtain⟨E,J,au,aw,b1⟩:=ap.o X2 u y D.ts rfl Y.o;rw[au]at ad;have bb:=U;have HG2:Hid (aJ w (fpD D) (fpD (D.made u y (v+1) rt))):=ac;have HR:Hid (∀q,Cz D.ts t.cs q->Tl D l fr (v+1) rt t.cs 0 {D.made u y (v+1) rt with ts:=q}):=hq;clear af U ac hq HQ I aw b6 b7;go_wp2;go_loopw [30] (λi wr=>∃(j:Nat) (q:List Tx),i=.i j/\j<=D.ts.length/\Hid (Nc D.ts t.cs j q)/\Hid (aO wr st {D.made u y (v+1) rt with ts:=q})/\Hid (Fr (fpD D) w wr)/\Hid (aJ w (fpD D) (fpD {D.made u y (v+1) rt with ts:=q}))) (λi _=>D.ts.length-(intOf i).toNat)
  case atStart=>exact⟨0,D.ts,rfl,AG _,⟨rfl,λi _ h=>by omega,λi _ _=>rfl⟩,Y,bb,HG2⟩
  case round =>
   obtain⟨j,q,rfl,hj,HL,Q,HF,HG⟩:=hrel;clear b1 ad;by_cases hlt:j<D.ts.length
   .have bg:(j:Int)<(D.ts.length:Int):=by omega
    have H:j<q.length:=by rw[HL.o.len];exact hlt
    obtain⟨bi,bh,N,ad,ab⟩:=ap.o wr u y q HL.o.len Q.o;rw[au]at N;simp only[AQ,CV]at N;obtain⟨rfl,rfl⟩:=N;obtain⟨rb,ro,bc,bn,av⟩:=aH.at (f:=λt:Tx=>Value.p t.b 0) (l:=q) (j:=j) ab H;have C:q[j]=D.ts[j]:=HL.o.left j hlt (jU _);rw[C]at av;have R:D.ts[j]∈D.ts:=AA hlt;have b0:eI wr D.β D.ts[j]:=C▸Q.o.each q[j] (AA H);have ae:∀k,fpT D.ts[j] k->fpD D k:=λk A=>.inr (.inr (.inr ⟨_,R,A⟩));have al:=qGe D.β D.ts[j] t.cs t.ca t.cc (λk=>t.cv.ownBlock=some k) wr b0 (ai.o.on (HF.o.on (λk A=>⟨aK HT.o.row A,ag.o k (.inr (.inl A))⟩))) (λk A=>⟨jY (aK HT.o.row A) HF.o.size,λe=>ag.o k (.inr (.inl A)) (ae k e)⟩) (by omega);obtain⟨tj,M⟩:=nM (D.ts[j]);have be:Hid (D.ts[j]=tj):=M;have HLE:Hid (q[j]=tj):=C.t M;have b9:Hid (∀k,fpT tj k->fpD D k):=M▸ae;rw[M]at al av;clear ae b0 R C M;subst bc;go_wp2_with (go_at_call 95;apply Calls.m al;rintro e X3 ⟨rfl,t',ar,b8,ah,aq⟩);have ba:=Q.o.retx (i:=j) (t:=tj) (t':=t') H HLE.o b8 ar.b ah aq;refine⟨⟨j+1,q.set j t',by go_num,by omega,HL.o.step hlt (by rw[be.o];exact ar),ba,HF.o.t (ah.m (λk A=>.inl (b9.o k A))),λk A=>?_⟩,by simp[intOf];omega⟩;rcases Fz (D:={D.made u y (v+1) rt with ts:=q}) (i:=j) H HLE.o aq k A with h'|h'
    .exact HG.o k h'
    .exact .inr (vJ HF.o.size h')
   .obtain rfl:j=D.ts.length:=by omega
    go_wp2;go_ret;exact Or.inr ⟨0,_,rfl,Q.o,HF.o,HG.o,HR.o q ⟨HL.o.len,λi hi=>HL.o.done i hi hi⟩⟩
def Si(d β:Nat)(t:Tx)(w:World)(a:eI w β t)(n:0<t.cs.length)(m:t.cs.length<=1000000)(f:∃c∈t.cs,c.key∈t.ks):
  cL 44 #[.p d 0,.p t.b 0] w λe w'=>e=.r (.i 7)/\bW w w':=by
 have h:cL 93 #[.p t.b 0] w λe w'=>e=.r (.bool true)/\bW w w':=by
  apply(vC β t w a (by omega)).m;rintro e w' ⟨b,rfl,j,g⟩;rw[j.2 f];exact⟨rfl,g⟩
 have l:=(qA a.box).2.2.2.2.1;have o:¬((t.cs.length:Int)=0):=by omega
 go_enter Tryz.func44,Tryz.ntmps44;go_wp2_with (go_at_call 93;apply Calls.m h;rintro e k ⟨rfl,i⟩);go_ret;exact⟨rfl,i⟩
