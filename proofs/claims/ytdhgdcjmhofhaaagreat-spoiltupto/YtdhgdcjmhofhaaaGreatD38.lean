import Derived.Test.YtdhgdcjmhofhaaaGreatD37
set_option linter.all false
set_option maxRecDepth 100000
set_option maxHeartbeats 8000000
namespace Go.Proofs.YtdhgdcjmhofhaaaGreat.Tree
open Go.RowKit Go.Shelf Pages Tryz
theorem Om{es:List En}{cs:List Ch}(d:cT es)(e:cJ cs):(bJ es cs).length<=es+cs:=by
 have a:=oB d e;have:=Ox (l:=(bJ es cs).map (λb=>b.e.key)) (m:=es.map (λb=>b.e.key)++cs.map (λc=>c.key)) (Ya (by rw[EV];exact a)) (λb g=>by
  obtain⟨f,h,rfl⟩:=AY.1 g;rw[AN];rcases(gH d e f).1 h with⟨c,a,_,rfl⟩|⟨a,_⟩
  .exact .inr (AY.2 ⟨c,a,rfl⟩)
  grind)
 grind
theorem Di{b β:Type}(f:b->List β):∀{l:List b}{x:b},x∈l->(f x).length<=(l.flatMap f)
 |y :: l,x,a=>by
  rw[AK,jK];rcases AS.1 a with rfl|a
  .omega
  .have:=Di f a;omega
theorem qKs{fs h p ks b s cs}(e:aZ fs (h+1) (.branch p ks b) s)(m:s.lo.size<=24)(k:cJ cs)(r:∀c∈cs,c.good)(t:∀c∈cs,s.has c.key=true):
  eE fs h ((parts s ks b).flatMap (pM (λx=>chP h x.1 x.2 (dH cs x.2)) cs))/\bQ h ((parts s ks b).flatMap (pM (λx=>chP h x.1 x.2 (dH cs x.2)) cs))=bJ (T.ents (h+1) (.branch p ks b)) cs:=by
 have j:=vS e m;have⟨v,w,q,_,o⟩:=dR e;have u:∀x∈parts s ks b,Fc fs h x.2 (bJ (T.ents h x.1) (dH cs x.2)) (pM (λx=>chP h x.1 x.2 (dH cs x.2)) cs x):=by
  intro x f;have d:=o x f;unfold pM;split
  .rename_i h0;rw[AH h0,oD (eC d)];refine⟨⟨ζ,?_,σ⟩,by simp[bQ,jL],iA d,by intro n a;rw[AL]at a;subst a;exact bG _,.inl rfl⟩
   .intro n a y l;rw[AL]at a;subst a;rw[jL]at l;exact uU (iA d y l)
  .exact qAr h d (iE (j x f)).2.1 (lF k x.2) (λc h=>r c (mS.1 h).1) (λc h=>(mS.1 h).2)
 have⟨g,i⟩:=qLi (fs:=fs) (h:=h) (pM (λx=>chP h x.1 x.2 (dH cs x.2)) cs) (λx=>bJ (T.ents h x.1) (dH cs x.2)) (parts s ks b) u (oY s ks b v w q);exact⟨g,i.t (Gt e k t (i▸g.rise))⟩
theorem Vu(β sv lv fs)(j:(fs.life==0)=false)(root f i g):∀(h:Nat) (t:T) (s:Sp) (cs:List Ch) (d:Option Addr) (e:Nat) (S:Bl) (w:World),aZ fs h t s->s.lo.size<=24->aA w β sv lv fs->aH w S d (cs.flatMap Ch.cells)->(lW S w)->cJ cs->(∀c∈cs,c.good)->(∀c∈cs,s.has c.key=true)->cs<=e->((d=none/\e=0)\/∃b X,d=some (aD b X))->(T.ents h t).length+cs<=1000000 ->
  cL 191 #[.agg #[.p β 0,.i root,.s f i g],.i t.place,.agg #[.t s.lo,.t s.hi],.s d cs e] w (ChR (chP h t s cs) w)
 |0,.leaf p es,s,cs,d,e,S,w,ht,h24,hf,hR,hS,hr,hg,hcs,hc,hxa,hE=>by
  have B:es.length+cs<=1000000:=hE;have Z:(bJ es cs).length<=es+cs:=Om (eC (h:=0) ht) hr;apply(Pr β sv lv fs j root f i g p s es cs d e S w ht hf hR hS hr hg ω hc hxa ω).m;rintro Y w' ⟨v,k,rfl,M,D,y,J⟩;refine⟨v,k,rfl,M,?_,y,J⟩;show bK w' _ ((dE _).map ndT) k;rw[xN];exact D
 |0,.branch _ _ _,s,cs,d,e,S,w,ht,_,_,_,_,_,_,_,_,_,_=>ht.elim
 |h+1,.leaf _ _,s,cs,d,e,S,w,ht,_,_,_,_,_,_,_,_,_,_=>by simp[aZ]at ht
 |h+1,.branch p ks kids,s,cs,d,e,S,w,ht,h24,hf,hR,hS,hr,hg,hcs,hc,hxa,hE=>by
  have⟨a2,a5,y,_,H⟩:=dR ht;have⟨o,z⟩:=qKs ht h24 hr hg hcs;have a4:=Om (eC ht) hr;have C:(bQ h ((parts s ks kids).flatMap (pM (λa=>chP h a.1 a.2 (dH cs a.2)) cs))).length<=1000000:=by rw[z];omega
  have a1:=o.count;have l:=qKv (c:=⟨#[]⟩) o (λm _=>Be _);have I:=l.lst.count;rw[l.ents]at I;exact qAp β sv lv fs j root f i g h p s ks kids cs d e S w ht hf hR hS hr ω hc hxa (λa=>chP h a.1 a.2 (dH cs a.2))
   (λa u a3 U V W r q F O N=>Vu β sv lv fs j root f i g h a.1 a.2 (dH cs a.2) U V S W (H a u) (iE ((vS ht h24) a u)).2.1 r q F (lF hr a.2) (λc h=>hg c (mS.1 h).1) (λc h=>(mS.1 h).2) O N (by
    have x:=qJp cs a.2;have a0:=Di (T.ents h) (rH (fs:=fs) u);have B:(kids.flatMap (T.ents h)).length+cs<=1000000:=hE;omega))
   ω (rN (qK h) ((parts s ks kids).flatMap (pM (λa=>chP h a.1 a.2 (dH cs a.2)) cs))) ω (λn K=>sL (l.lst.ok n K))
   (λk Q R A W r q E G L=>qCm β sv lv fs root f i g (Ku β sv lv fs j root f i g h) _ o C k Q R A W r q E G L)
variable {K:List ByteArray} {W w:World} {cs:List Ch} {fr:List Nat} {fs:Fs} {ms:List MN} {n:Nat} {ns:List NT} {o:Option (Nat×T)}
def qIc:Option (Nat×NT)->List NT
 |none=>[]
 |some x=>[x.2]
structure vF (w W:World) (ns:List NT) (a:Option Addr) (c:Nat) (ms:List MN):Prop where
 row:aH W (New w W) a (aM ms)
 nds:bK W (New w W) (ns.map ndT) ms
 cap:ms.length<=c
 new:bW w W
theorem vF.len {a:Option Addr}{c:Nat}(h:vF w W ns a c ms):ms.length=ns:=by have:=h.nds.1;rwa[AF]at this
theorem vF.of_own {v:Value}(d:W.ownsRow 0 242 5 v ms (aM ms))(e:bK W (New w W) (ns.map ndT) ms)(f:bW w W)(h:nW v w):∃a c,v=.s a ms c/\vF w W ns a c ms:=by
 obtain⟨a,c,rfl,g,i⟩:=cA d;exact⟨a,c,rfl,i.m (λj b=>⟨h j b,aL d b⟩),e,g,f⟩
theorem qFv {h:Nat}{a:Option Addr}{c:Nat}(L:vF w W ns a c ms)(H:eE fs h ns)(C:ns.length<=1000000):
  cL 192 #[.s a ms c] W λe w'=>∃k i ms',e=.r (.s k ms'.length i)/\vF w w' (eL ns) k i ms':=by
 have B:=L.len;have o:∀d∈ms,d.lo.size<=24:=λd f=>by
  obtain⟨p,z,rfl⟩:=AW f;have m:p<ns:=ω;rw[(L.nds.2 p (ndT ns[p]) ms[p] (by rw[BM,jQ m];rfl) (jQ z)).lo,uM];exact sL (H.ok _ (AA m))
 apply(nC a c ms (New w W) W L.row (λg b=>b.2) ω L.cap (λd f=>o d f) (λd f=>by have:=o d f;unfold ksz;omega)).m;rintro e w' ⟨v,qs,rfl,y,j,r,l,A⟩;have D:=l.size;have t:=L.new.size;have x:bK w' (New w w') (ns.map ndT) ms:=(L.nds.on (vV l (λg b=>b.2))).m (λg b=>⟨b.1,by have:=b.2;omega⟩);have n:=Jc (w:=w) x j (λq j=>⟨(r q j).1,(r q j).2.m (λg b=>⟨b.1,by have:=b.2;omega⟩)⟩);rw[<-Bg]at n;have⟨k,i,s,u⟩:=vF.of_own (w:=w) (ms:=qs.map mP) (by rw[AF];exact y) n (L.new.t (l.m t)) (λg b=>vJ t (A g b));exact⟨k,i,qs.map mP,by rw[s],u⟩
def Tm:NT->Nat
 |.bran _ ks=>ks.length
 |_=>0
theorem jM.knT {S:Bl}{n:Nd}{m:MN}(h:jM w S n m):m.kn=n.kids:=by cases h;assumption
theorem qKg {S n m}(h:jM w S (ndT n) m):m.kn=Tm n:=by
 rw[h.knT];cases n with
 |kept=>rw[uN];rfl
 |leaf=>rw[Hd];rfl
 |bran s ks=>rw[rE];exact AF ..
theorem qAh{h n}(a:Tm n≠1):kZ h n=(h,n):=by
 cases h with
 |zero=>cases n<;>rfl
 |succ h =>
  cases n with
  |kept=>rfl
  |leaf=>rfl
  |bran s ks =>
   match ks,a with
   |[],_=>rfl
   |[k],a=>exact absurd rfl a
   |k :: k' :: r,_=>simp only[kZ]
theorem Yj(cs):dH cs ⟨⟨#[]⟩,⟨#[]⟩⟩=cs:=by
 unfold dH;rw[List.filter_eq_self];intro c _;exact Ny _
def qPi:Value->Nat
 |.slice _ n _=>n
 |_=>0
theorem qQq(β sv lv fs)(ax:(fs.life==0)=false)(o root)(L:bO fs root o)(u z cs S w)(a6:aA w β sv lv fs)(an:aH w S u (cs.flatMap Ch.cells))(ap:lW S w)(K:cJ cs)(a7:∀c∈cs,c.good)(av:cs.length<=z)(aw:(u=none/\z=0)\/∃b ck,u=some (aD b ck))(bs:(aT o).length+cs<=1000000):
  cL 173 #[.agg #[.p β 0,.i root,.s u cs z]] w λe w'=>∃a c ms,e=.r (.s a ms.length c)/\vF w w' (qIc (jG o cs)) a c ms:=by
 obtain⟨b4,b5,b6⟩:=Sk L K a7;have b1:=Om (eP L) K;have ao:(bQ (gI o cs).1 (gI o cs).2).length<=1000000:=by rw[b5];omega
 obtain⟨m,ct,F,cn,-⟩:=al1 w (.cells #[.p β 0,.i root,.s u cs z] 90);obtain⟨d2,d3,d4⟩:=eM cn;have O:=a6.bl F;have a4:=an.on (vV F ap);have a5:=λd f=>jY (ap d f) F.size;have Q:=F.size;go_enter func173,ntmps173;go_upto_if 6 with fail;go_cut [3] (λv cq=>∃a c ms,v=.s a ms.length c/\Hid (vF w cq (gI o cs).2 a c ms))
 case first =>
  cases o with
  |none =>
   have c9:=L;subst c9;have a2:=Aa β sv lv fs 0 u z cs ⟨⟨#[]⟩,⟨#[]⟩⟩ none (λ_=>ax) rfl S m O a4 a5 K ω av aw;rw[Yj]at a2;have T:Hid ((bJ (dB ⟨⟨#[]⟩,⟨#[]⟩⟩ none) cs).length<=1000000):=by
    have bq:=b1;show(bJ [] cs).length<=_;have cw:(bJ [] cs).length<=0+cs:=bq;omega
   have R:Hid (∀C∈bJ (dB ⟨⟨#[]⟩,⟨#[]⟩⟩ none) cs,C.good fs):=kU (fs:=fs) (es:=[]) .nil K σ a7;have ag:Hid ((fA esz (bJ (dB ⟨⟨#[]⟩,⟨#[]⟩⟩ none) cs)).map Bn=(gI none cs).2.map ndT):=by show _=(dE _).map ndT;rw[xN];exact(xO _).symm
   obtain⟨P,cd⟩:=nM (bJ (dB ⟨⟨#[]⟩,⟨#[]⟩⟩ none) cs);rw[cd]at a2 T R ag;have bx:=λd f=>O.lies d f;go_wp2_with (first
    |(apply Calls.m a2;rintro e X ⟨ce,rfl,bt,N⟩;have br:=Dv 195 ce (enters_of func195 κ rfl) P _ X bt (λd f=>(by rcases f with f|f|f;have:=a5 d f;have:=N.size;omega;have:=bx d f;have:=N.size;omega;exact f.2)) (η T.o))
    |(apply Calls.m br;rintro e ah ⟨d5,rfl,b0,ar,c1⟩;obtain⟨co,cp,rfl,cb,ca⟩:=cA b0;have bv:=qN co cp P (λd=>X<=d/\d<ah) ah (ca.m (λd f=>⟨c1 d f,aL b0 f⟩)) (λd f=>f.2) (η T.o) cb (λC cc=>rP (R.o C cc)) (qA R.o))
    |(apply Calls.m bv;rintro e X3 ⟨d6,qs,rfl,c5,c8,b3,au,c2⟩))
   have cr:=N.size;have d8:=ar.size;have d9:=au.size;have M:=Bm (S:=New w X3) (λq b2=>⟨(b3 q b2).1,(b3 q b2).2.m (λd f=>⟨by have:=f.1;omega,by have:=f.2;omega⟩)⟩);rw[c8,ag.o]at M;obtain⟨I,J,bh,a3⟩:=vF.of_own (w:=w) (ms:=qs.map mL) (by rw[AF];exact c5) M (((F.t (N.m Q)).t (ar.m ω)).t (au.m ω)) (λd f=>by have:=c2 d f;omega);go_meet
   case rel=>exact⟨I,J,qs.map mL,bh,a3⟩
  |some C =>
   obtain⟨i,t⟩:=C;obtain⟨d1,c6,c7⟩:=L;have al:=Vu β sv lv fs ax root u cs z i t ⟨⟨#[]⟩,⟨#[]⟩⟩ cs u z S m c7 δ O a4 a5 K a7 (λc _=>Ny _) av aw bs;rw[c6]at al
   go_wp2_with (apply Calls.m al;rintro e X ⟨v,ad,rfl,c4,M,aq,c0⟩);have cr:=aq.size;obtain⟨I,J,rfl,a3⟩:=vF.of_own (w:=w) c4 (M.m (λd f=>⟨vJ Q f.1,f.2⟩)) (F.t (aq.m Q)) (λd f=>vJ Q (c0 d f));go_meet
   case rel=>exact⟨I,J,ad,rfl,a3⟩
 case rest =>
  obtain⟨I,J,ad,rfl,ba⟩:=hcut;have be:Hid (∃d i,upP d i (gI o cs).2=jG o cs/\(gI o cs).2.length<=d+1/\eE fs i (gI o cs).2/\iO (gI o cs).2/\(bQ i (gI o cs).2).length<=1000000):=⟨_,_,rfl,ω,b4,b6,ao⟩;clear b4 b5 b6 b1 ao L a6 an O a4;go_wp2;go_loopw [3] (λv af=>∃a c ms h,v=.s a ms.length c/\Hid (vF w af h a c ms)/\Hid (∃d i,upP d i h=jG o cs/\h<=d+1/\eE fs i h/\iO h/\(bQ i h).length<=1000000)) (λv _=>qPi v)
  case atStart=>exact⟨I,J,ad,_,rfl,ba,be⟩
  case round =>
   obtain⟨a,c,ms,h,rfl,k,x⟩:=hrel;have A:=k.o.len;by_cases hgt:1<ms.length
   .have bz:(1:Int)<(ms.length:Int):=ω;obtain⟨d,i,l,G,p,Z,a0⟩:=x.o;have bu:=qFv k.o p (η p.count);have aa:=Jd p ω;have b8:Hid (∃d i,upP d i (eL h)=jG o cs/\(eL h).length<=d+1/\eE fs i (eL h)/\iO (eL h)/\(bQ i (eL h)).length<=1000000):=by
     have E:2<=h.length:=ω;obtain⟨W,V,cu,Y,cv⟩:=Py p Z (λe=>by rw[e]at E;simp at E);match h,d,E,l,G,W,V,Y,aa with
     |[],_,E,_,_,_,_,_,_=>simp at E
     |[_],_,E,_,_,_,_,_,_=>simp at E
     |C :: y :: r,0,_,_,G,_,_,_,_=>simp at G
     |C :: y :: r,d+1,_,l,G,W,V,Y,aa=>exact⟨d,i+1,l,ω,W,Y,V▸a0⟩
    have bb:Hid ((eL h).length<ms.length):=by show _<_;omega
    clear l G p Z a0 x A aa;go_wp2_with (apply Calls.m bu;rintro e d7 ⟨bf,bg,cf,rfl,am⟩);have cy:=am.len;have cz:=bb.o;exact⟨⟨bf,bg,cf,_,rfl,am,b8⟩,by simp only[qPi];omega⟩
   .have bz:¬(1:Int)<(ms.length:Int):=ω;have H:Hid (∃g,(h=[]/\jG o cs=none)\/∃n,h=[n]/\OkH fs g n/\jG o cs=some (kZ g n)):=by
     obtain⟨d,i,l,G,p,Z,a0⟩:=x.o;match h,l,p with
     |[],l,_=>exact⟨0,.inl ⟨rfl,by rw[<-l];cases d<;>rfl⟩⟩
     |[n],l,p=>exact⟨i,.inr ⟨n,rfl,p.ok n σ,by rw[<-l];cases d<;>rfl⟩⟩
     |C :: y :: r,_,_=>exfalso;rw[jB,jB]at A;omega
    obtain⟨bi,H⟩:=H.o;have H:Hid _:=H;clear x A;go_wp2;go_loopg [3] bi (λg v af=>∃a c ms h,v=.s a ms.length c/\Hid (vF w af h a c ms)/\Hid ((h=[]/\jG o cs=none)\/∃n,h=[n]/\OkH fs g n/\jG o cs=some (kZ g n)))
    case atStart=>exact⟨a,c,ms,h,rfl,k,H⟩
    case round =>
     obtain⟨a,c,ms,h,rfl,k,x⟩:=hrel;have A:=k.o.len;rcases x.o with⟨rfl,az⟩|⟨n,rfl,ac,a8⟩
     .have c3:=AH A;subst c3;have U:Hid (vF w wr (qIc (jG o cs)) a c []):=by rw[az];exact k.o
      clear k x A az;go_wp2;go_ret;exact⟨a,c,[],rfl,U.o⟩
     .obtain⟨B,rfl⟩:=FC.1 A;obtain⟨cl,cm,bw,_,cg,ch,ci,cj,b7⟩:=k.o.row.nod (j:=0) σ;simp only[EO,EC,CX]at cg ch ci cj b7;subst bw;have ab:=k.o.nds.2 0 (ndT n) B rfl rfl;have a9:=qKg ab;by_cases f:Tm n=1
      .rw[f]at a9;obtain⟨s,d,rfl⟩:∃s d,n=.bran s [d]:=by
        cases n with
        |kept=>simp[Tm]at f
        |leaf=>simp[Tm]at f
        |bran s ks =>
         obtain⟨d,rfl⟩:=FC.1 (show ks.length=1 from f);exact⟨s,d,rfl⟩
       obtain⟨D,rfl⟩:∃D,gk=D+1:=by
        cases gk with
        |zero=>exact ac.elim
        |succ D=>exact⟨D,rfl⟩
       rw[rE]at ab;obtain⟨_,_,_,_,_,ae,bj,bk,bl,bm,bn,bo,aj,bp,ak,a1,ai⟩:=ab;have ay:=a1;have b9:Hid (vF w wr [d] B.ka B.kc ae):=⟨ak,⟨a1,ai⟩,by have:=aj;omega,k.o.new⟩;have bd:Hid (([d]=[]/\jG o cs=none)\/∃n,[d]=[n]/\OkH fs D n/\jG o cs=some (kZ D n)):=.inr ⟨d,rfl,(ac.2.2.2.2.1 d σ).1,by rw[a8,Bv]⟩;have bc:Hid (ae.length=1):=ay;rw[a9]at b7;clear bj bk bl bm bn bo aj bp ak a1 ai ac a8 x k f a9 ay A;go_wp2;go_roundg D
       case measure=>omega
       case rel=>exact⟨B.ka,B.kc,ae,[d],by rw[bc.o],b9.o,bd.o⟩
      .have U:Hid (vF w wr (qIc (jG o cs)) (some (aD cl cm)) c [B]):=by rw[a8,qAh f];exact k.o
       have cx:¬((B.kn:Int)=1):=ω;go_wp2;go_ret;exact⟨_,c,[B],rfl,U.o⟩
def Eb(b:Nat)(Sf:Bl)(f:NT->List Nat->T×List (Nat×Pg))(n:NT):Prop:=∀(m:MN) (S:Bl) (fa:Option Addr) (fc:Nat) (fr:List Nat) (wv:Value) (ws:List (Nat×ByteArray)) (w:World),fM w b Sf fa fc fr wv ws->jM w S (ndT n) m->(∀k,S k->k<w.1.size/\¬fpL b wv k)->(∀p∈fr,bF (p:Nat)=true)->ws.length+fr.length<=10000 ->
  cL 174 #[.pointer (some (aD b 0)),.agg #[.string m.lo,.string m.hi,.int .i64 m.place,.slice m.ea m.en m.ec,.slice m.ka m.kn m.kc]] w (iT b Sf fr wv ws w (f n fr).1.place (f n fr).2)
def pD(f:NT->List Nat->T×List (Nat×Pg))(ns:List NT)(fr:List Nat):T×List (Nat×Pg):=
 (.branch (fr.getD (cK f ns fr).2.length 0) (ns.tail.map (λn=>n.sp.lo)) (cK f ns fr).1,
  (cK f ns fr).2++[(fr.getD (cK f ns fr).2.length 0,fC (ns.tail.map (λn=>n.sp.lo)) ((cK f ns fr).1.map T.place))])
theorem Hm(f):∀(ns:List NT) (n:NT) (fr:List Nat),cK f (ns++[n]) fr=((cK f ns fr).1++[(f n (fr.drop (cK f ns fr).2)).1],(cK f ns fr).2++(f n (fr.drop (cK f ns fr).2)).2)
 |[],n,fr=>by simp[cK]
 |y :: ns,n,fr=>by
  simp only[jF,cK,Hm f ns n,LS,jK,CA]
theorem Tc(f)(ns:List NT)(fr j)(a:j<ns.length):cK f (ns.take (j+1)) fr=((cK f (ns.take j) fr).1++[(f ns[j] (fr.drop (cK f (ns.take j) fr).2)).1],(cK f (ns.take j) fr).2++(f ns[j] (fr.drop (cK f (ns.take j) fr).2)).2):=by
 rw[AJ a,Hm]
theorem wP(f):∀(ns:List NT) (fr:List Nat) (j:Nat),(cK f (ns.take j) fr).2.length<=(cK f ns fr).2
 |[],_,_=>by simp[cK]
 |x :: ns,fr,0=>by simp[cK]
 |x :: ns,fr,j+1=>by
  have:=wP f ns (fr.drop (f x fr).2) j;simp only[EJ,cK,jK];omega
def cZ(f:NT->List Nat->T×List (Nat×Pg))(ns:List NT)(fr:List Nat)(j:Nat):List Nat:=(cK f (ns.take j) fr).1.map T.place
theorem Ru(f ns fr j)(a:j<=ns.length):(cZ f ns fr j).length=j:=by
 unfold cZ;rw[AF,fY,AX];omega
theorem qAu(b Sf f ns)(hn:∀n∈ns,Eb b Sf f n)(ms ka kc S fa fc fr wv ws w)(h:fM w b Sf fa fc fr wv ws)(hR:aH w S ka (aM ms))(hm:bK w S (ns.map ndT) ms)(hS:∀k,S k->k<w/\¬fpL b wv k)(hlen:ns.length<=1000)(hkc:ns.length<=kc)(hp:∀p∈fr,bF (p:Nat)=true)(hws:ws.length+fr.length<=10000)(hE:(cK f ns fr).2.length<fr->(fC (ns.tail.map (λn=>n.sp.lo)) ((cK f ns fr).1.map T.place)).encE=0/\(fC (ns.tail.map (λn=>n.sp.lo)) ((cK f ns fr).1.map T.place)).small):
  cL 193 #[.p b 0,.s ka ns kc] w (iT b Sf fr wv ws w (pD f ns fr).1.place (pD f ns fr).2):=by
 have cv:ms.length=ns.length:=by rw[hm.1,AF]
 have xP:=aB w (.cells #[.i 2,.i 0,.i 0,.i 0,.n,.n,.n,.t ⟨#[]⟩] 80);have bP:bW w (w.alloc (.cells #[.i 2,.i 0,.i 0,.i 0,.n,.n,.n,.t ⟨#[]⟩] 80)):=bA _ _;have cf:=h.fr bP;go_enter func193,ntmps193;go_wp2;go_loopw [11] (λi wr=>∃(j:Nat) (y t:Option Addr) (z r:Nat) (am:Option Addr) (al:Nat) (a3:Value),i=.i j/\j<=ns/\(cK f (ns.take j) fr).2.length<=fr.length/\wr.1[w.1.size]?=some (.cells #[.i 2,.i 0,.i 0,.i 0,.s y (fQ ns j) z,.s t (cZ f ns fr j) r,.n,.t ⟨#[]⟩] 80)/\wr.ownsRow 0 9 1 (.s y (fQ ns j) z) (fQ ns j) ((fQ ns j).map .string)/\wr.ownsRow 0 3 1 (.s t (cZ f ns fr j) r) (cZ f ns fr j) ((cZ f ns fr j).map (λn:Nat=>Value.i n))/\fM wr b Sf am al (fr.drop (cK f (ns.take j) fr).2) a3 (ws++(cK f (ns.take j) fr).2.map enc1)/\Fr (fpL b wv) w wr/\(∀k,a3.ownBlock=some k->wv.ownBlock=some k\/w<=k)/\(∀k,(Value.s y (fQ ns j) z).ownBlock=some k->w<=k)/\(∀k,(Value.s t (cZ f ns fr j) r).ownBlock=some k->w<=k)) (λi _=>ns-(intOf i).toNat)
 case atStart=>exact⟨0,none,none,0,0,fa,fc,wv,rfl,AG _,by simp[cK],by simpa[fQ,cZ,cK] using xP,by simpa[fQ] using AO _ _ _ _,by simpa[cZ,cK] using AO _ _ _ _,by simpa[cK] using cf,AB bP,λk hk=>.inl hk,ι,ι⟩
 case round =>
  obtain⟨j,y,t,z,r,am,al,a3,rfl,hj,b9,xp,a5,Y,hL,hF,ac,W,E⟩:=hrel;have cy:=(gL xp);by_cases hlt:j<ns
  .obtain⟨n,ai⟩:=nM (ns[j])
   have az:j<ms:=ω
   obtain⟨m,bg⟩:=nM (ms[j]);have oS:=hF.on (λk hk=>hS k hk);obtain⟨rb,ro,cj,cq,n0,n1,n2,n3,n4⟩:=(hR.on oS).nod az;rw[bg]at n0 n1 n2 n3 n4;subst cj;have bp:=(hm.2 j (ndT n) m (by rw[BM,jQ hlt,ai];rfl) (by rw[jQ az,bg])).on oS;have ch:=hn n (ai▸AA hlt);have bf:=bp.lo;obtain⟨B,M,pl,N,G,U,O,L,Q⟩:=m;dsimp only at n0 n1 n2 n3 n4 bf;have hlo':n.sp.lo=B:=by rw[bf,uM]
   have F:=Tc f ns fr j hlt;rw[ai]at F;obtain⟨fq,hf⟩:=nM (fr.drop (cK f (ns.take j) fr).2.length);rw[hf]at F hL;have ad:=wP f ns fr (j+1);rw[F]at ad;simp only[jK]at ad;have c9:fq.length=fr-(cK f (ns.take j) fr).2:=by rw[<-hf,BJ]
   have cl:∀p∈fq,bF (p:Nat)=true:=λp af=>hp p (BV (hf▸af));have nE:=aB wr (.cells #[.t B,.t M,.i pl,.s N G U,.s O L Q] 242);have bE:bW wr (wr.alloc (.cells #[.t B,.t M,.i pl,.s N G U,.s O L Q] 242)):=bA _ _;have b7:=aP (.cells #[.t B,.t M,.i pl,.s N G U,.s O L Q] 242) xp;have ae:=hL.fr bE;have ax:=CG (w:=wr) a5 (.cells #[.t B,.t M,.i pl,.s N G U,.s O L Q] 242);have aw:=CG (w:=wr) Y (.cells #[.t B,.t M,.i pl,.s N G U,.s O L Q] 242);have FE:=hF.t (AB bE);have c8:∀k,S k->k<(wr.alloc (.cells #[.t B,.t M,.i pl,.s N G U,.s O L Q] 242)):=λk hk=>by have:=(hS k hk).1;simp;omega
   have bd:=ch ⟨B,M,pl,N,G,U,O,L,Q⟩ S am al fq a3 (ws++(cK f (ns.take j) fr).2.map enc1) (wr.alloc (.cells #[.t B,.t M,.i pl,.s N G U,.s O L Q] 242)).drew (ae.fr ((AC _ _).drew)) (((bp.on (vV bE (λk hk=>by have:=(hS k hk).1;omega))).on (vV ((AC _ _).drew) c8))) (λk hk=>⟨c8 k hk,λe=>by
     rcases e with e|e
     .exact(hS k hk).2 (.inl e)
     .rcases ac k e with e|e
      .exact(hS k hk).2 (.inr e)
      .have:=(hS k hk).1;omega⟩) cl (by rw[jK,AF];omega)
   obtain⟨pp,af⟩:=nM ((f n fq).1.place);rw[af]at bd;have bt:Hid (cZ f ns fr (j+1)=cZ f ns fr j++[pp]):=by
    show _=_
    unfold cZ;rw[F,BL,<-af];rfl
   have cc:Hid ((cK f (ns.take (j+1)) fr).2=(cK f (ns.take j) fr).2++(f n fq).2):=by show _=_;rw[F]
   have HF:Hid (fr.drop (cK f (ns.take j) fr).2.length=fq):=hf;have ca:Hid (fq.length<(f n fq).2.length->fr.length<(cK f ns fr).2.length):=λhh=>by omega
   have c3:Hid ((f n fq).2.length<=fq.length->(cK f (ns.take (j+1)) fr).2.length<=fr.length):=λhh=>by rw[F,jK];omega
   have ck:Hid (0<j->fQ ns (j+1)=fQ ns j++[B]):=λh0=>by rw[Yw ns j hlt h0,ai,hlo']
   have b0:=Ru f ns fr j hj;have b2:=qFx ns j hj;obtain⟨u0,u1,u2,u3,u4,u5,u6,u7⟩:=bU b7;obtain⟨q0,q1,q2,q3,q4⟩:=cS nE;have cw:(cZ f ns fr j).length+1<=100000:=ω
   have cu:(fQ ns j).length+1<=100000:=ω
   clear F hf ad c9 af bf hlo' ai bg b0 b2;go_wp2;refine cY (S:=(λX=>X.c wr 0=some (.t B)/\X.c wr 1=some (.t M)/\X.c wr 2=some (.i pl)/\X.c wr 3=some (.s N G U)/\X.c wr 4=some (.s O L Q)/\X.c w.1.size 5=some (.s t (cZ f ns fr j) r))) 8 κ ?_;have a8:=(show((λX=>X.c wr 0=some (.t B)/\X.c wr 1=some (.t M)/\X.c wr 2=some (.i pl)/\X.c wr 3=some (.s N G U)/\X.c wr 4=some (.s O L Q)/\X.c w.1.size 5=some (.s t (cZ f ns fr j) r))) ((wr.alloc (.cells #[.t B,.t M,.i pl,.s N G U,.s O L Q] 242)).drew) from ⟨q0,q1,q2,q3,q4,u5⟩);refine tks [(0,.p w 5),(1,.s t (cZ f ns fr j) r),(2,.p b 0),(3,.agg #[.t B,.t M,.i pl,.s N G U,.s O L Q])] ψ ?_;iterate 4 (refine tk1 rfl ?_;try simp only[pS])
   refine tke ?_;refine aR (i:=4) κ rfl (λK hK=>?_);go_simp
   (apply Calls.m bd;rintro e wt ⟨ah,hQ⟩;have bv:=FE.grow ((AE _ _).drew.t ah) (λk hk=>by rcases hk with hk|hk;exact .inl (.inl hk);exact(ac k hk).imp (λh=>.inr h) id);rcases hQ.symm with⟨I,rfl⟩|⟨I,rfl,bb,b6,aq,bq,bm⟩;exact⟨rfl,iT.full bv (ca.o I)⟩;have an:=(AE _ _).drew.t ah;have ap:=an.heap b7 (ae.not b7 δ δ);have ar:=an.heap nE (ae.not nE δ δ);have au:=eN ax an (ae.notOwn ax δ δ);have D:=eN aw an (ae.notOwn aw δ δ);obtain⟨u0,u1,u2,u3,u4,u5,u6,u7⟩:=bU ap;obtain⟨q0,q1,q2,q3,q4⟩:=cS ar;have ay:=aP (.cells #[.i (pp:Nat)] 3) ap;have b3:=aP (.cells #[.i (pp:Nat)] 3) ar;obtain⟨t0,t1,t2,t3,t4,t5,t6,t7⟩:=bU ay;obtain⟨bu,bl,bj,c5,bz⟩:=cS b3)
   simp only[];refine hK.out _ _ (λ_=>⟨q0,q1,q2,q3,q4,u5⟩) ?_;clear hK K;try simp only[pS]
   refine aR (i:=5) κ rfl (λK hK=>?_);go_simp;refine hK.out _ _ (λ_=>⟨bu,bl,bj,c5,bz,t5⟩) ?_;clear hK K;try simp only[pS]
   refine aR (i:=6) κ rfl (λK hK=>?_)
   (refine kA wt rfl (.tmp 17) (.tmp 21) 44 3 _ 1 8 rfl underlying44 qCn rfl δ (.s t (cZ f ns fr j) r) (cZ f ns fr j) ((cZ f ns fr j).map (λn:Nat=>Value.i n)) ξ D [.i (pp:Nat)] ξ rfl υ ω ω ?_;intro v3 w3 A3;obtain⟨g3,k3,rfl⟩:=A3.shape δ;have a0:=A3.fr.heap ap (aQ D ap δ);have c0:=A3.fr.heap ar (aQ D ar δ);obtain⟨u0,u1,u2,u3,u4,u5,u6,u7⟩:=bU a0;obtain⟨q0,q1,q2,q3,q4⟩:=cS c0;have d0:=aF a0)
   refine hK.out _ _ (λ_=>⟨q0,q1,q2,q3,q4,u5⟩) ?_;clear hK K;try simp only[pS]
   have a8:=(show((λX=>X.c wr 0=some (.t B)/\X.c wr 1=some (.t M)/\X.c wr 2=some (.i pl)/\X.c wr 3=some (.s N G U)/\X.c wr 4=some (.s O L Q)/\X.c w.1.size 5=some (.s t (cZ f ns fr j) r))) w3 from ⟨q0,q1,q2,q3,q4,u5⟩);refine mR (i:=7) (v:=.p w 5) rfl κ (λ_ _ _ h=>h) τ ψ (λa8=>?_);try simp only[pS]
   refine aR (i:=8) κ rfl (λK hK=>?_);go_simp;refine hK.out _ _ (λe=>by cases e) ?_;clear hK K;try simp only[pS]
   refine dF κ ?_ _
   all_goals
    obtain⟨w4,ao⟩:=nM (w3.setCell (aD w 5) (.q g3 ((cZ f ns fr j)+1) k3));rw[ao];have f4:=ao▸(AE (Bl.one w) w3).s w 5;have ab:w4.1[w.1.size]?=some (.cells #[.i 2,.i 0,.i 0,.i 0,.s y (fQ ns j) z,.q g3 ((cZ f ns fr j)+1) k3,.n,.t ⟨#[]⟩] 80):=by rw[<-ao];have:=aC a0 5 (.q g3 ((cZ f ns fr j)+1) k3);simpa using this
    have c6:=f4.heap c0 φ;have bo:=eN A3.row f4 (λk hk e=>by cases e;exact aQ A3.row a0 δ hk);have b1:=eN au A3.fr (λk hk e=>by rcases dU au D δ with A|A;rw[A]at hk;cases hk;exact A (hk.t e.symm));have C:=eN b1 f4 (λk hk e=>by cases e;exact aQ b1 a0 δ hk);have bs:=bq.beside A3.fr (λk hk=>bq.notOwn D δ δ k hk) (λk hk hs=>by have A:=E k hk;have h2:=(h.apart k hs).1;omega);have cg:=bs.beside f4 (λk hk=>by cases hk;exact bs.not a0 δ δ) (λk hk hs=>by simp only[Bl.one]at hk;have h2:=(h.apart k hs).1;omega);have F3:=bv;have F4:=(F3.grow A3.fr (λk hk=>.inr (E k hk))).grow f4 (λk hk=>.inr (by simp only[Bl.one]at hk;omega));have av:∀k,aq.ownBlock=some k->wv.ownBlock=some k\/w<=k:=λk hk=>by
     rcases bm k hk with A|A
     .exact ac k A
     .have h2:=by simpa using A
      exact .inr ω
    have b5:∀k,(Value.q g3 ((cZ f ns fr j)+1) k3).ownBlock=some k->w<=k:=λk hk=>by
     rcases A3.lies k hk with A|A
     .exact E k A
     .have:=F3.size;omega
    have HI:Hid (w4.ownsRow 0 3 1 (.q g3 (cZ f ns fr (j+1)).length k3) (cZ f ns fr (j+1)).length ((cZ f ns fr (j+1)).map (λn:Nat=>Value.i n))):=by
     rw[bt.o,jK,AP,BL];exact bo
    have bi:Hid (fM w4 b Sf bb b6 (fr.drop (cK f (ns.take (j+1)) fr).2) aq (ws++(cK f (ns.take (j+1)) fr).2.map enc1)):=by
     rw[cc.o,jK,BL,<-LS,HF.o,<-CA];exact cg
    have V:Hid ((cZ f ns fr (j+1)).length=(cZ f ns fr j).length+1):=by show _=_;rw[bt.o,jK];rfl
    obtain⟨v0,v1,v2,ci,v4,ce,v6,v7⟩:=bU ab;obtain⟨q0,q1,q2,q3,q4⟩:=cS c6;clear u0 u1 u2 u3 u4 u5 u6 u7 ao bd ay b3 bu bl bj c5 bz t0 t1 t2 t3 t4 t5 t6 t7 n0 n1 n2 n3 n4;by_cases hj0:0<j
    .have bw:(0:Int)<(j:Int):=ω
     go_wp2_with (at_builtin;refine gQ w4 rfl (.tmp 27) (.tmp 31) 60 9 _ 1 16 rfl underlying60 sV rfl δ (.s y (fQ ns j) z) (fQ ns j) ((fQ ns j).map .string) rfl C [.t B] (by simp[Act.eval]) rfl υ ω ω ?_;intro cz w5 A5;obtain⟨g5,k5,rfl⟩:=A5.shape δ;have Z:=A5.fr.heap ab (aQ C ab δ);obtain⟨z0,z1,z2,z3,z4,z5,z6,z7⟩:=bU Z;have cn:=aF Z);have f6:Fr (Bl.one w) w5 (w5.setCell (aD w 4) (.q g5 ((fQ ns j)+1) k5)):=(AE (Bl.one w) w5).s w 4;have cb:=aC Z 4 (.q g5 ((fQ ns j)+1) k5);have b4:=eN HI.o A5.fr (λk hk e=>by rcases dU HI.o C δ with A|A;rw[A]at hk;cases hk;exact A (hk.t e.symm));have bn:=eN b4 f6 (λk hk e=>by cases e;exact aQ b4 Z δ hk);have c7:=eN A5.row f6 (λk hk e=>by cases e;exact aQ A5.row Z δ hk);have bk:=bi.o.beside A5.fr (λk hk=>bi.o.notOwn C δ δ k hk) (λk hk hs=>by have A:=W k hk;have h2:=(h.apart k hs).1;omega);have cd:=bk.beside f6 (λk hk=>by cases hk;exact bk.not Z δ δ) (λk hk hs=>by simp only[Bl.one]at hk;have h2:=(h.apart k hs).1;omega);have aa:=ck.o hj0;have ak:(fQ ns (j+1)).length=(fQ ns j).length+1:=by rw[aa,jK];rfl
     refine⟨⟨j+1,some (aD g5 0),some (aD g3 0),k5,k3,bb,b6,aq,σ,ω,c3.o I,?_,?_,bn,cd,(F4.grow A5.fr (λk hk=>.inr (W k hk))).grow f6 (λk hk=>.inr (by simp only[Bl.one]at hk;omega)),av,?_,?_⟩,θ⟩
     .rw[ak,V.o];simpa using cb
     .rw[ak,aa,BL];exact c7
     .intro k hk
      rw[ak]at hk;rcases A5.lies k hk with A|A
      .exact W k A
      .have:=F4.size;omega
     .intro k hk
      rw[V.o]at hk;exact b5 k hk
    .have bw:¬(0:Int)<(j:Int):=ω
     have ag:j=0:=ω
     have I:fQ ns (j+1)=fQ ns j:=by rw[ag,qFw];rfl
     have b8:Hid (fQ ns (j+1)=fQ ns j):=I;clear I ag;go_wp2;refine⟨⟨j+1,y,some (aD g3 0),z,k3,bb,b6,aq,σ,ω,c3.o I,?_,?_,HI.o,bi.o,F4,av,?_,?_⟩,θ⟩
     .rw[b8.o,V.o];exact ab
     .rw[b8.o];exact C
     .intro k hk;rw[b8.o]at hk;exact W k hk
     .intro k hk
      rw[V.o]at hk;exact b5 k hk
  .obtain rfl:j=ns:=ω
   rw[BN]at hL;have aa:fQ ns ns=ns.tail.map (λn=>n.sp.lo):=by unfold fQ;rw[BN]
   have c4:cZ f ns fr ns.length=(cK f ns fr).1.map T.place:=by unfold cZ;rw[BN]
   rw[aa]at xp a5 W;rw[c4]at xp Y E;obtain⟨los,a9⟩:=nM (ns.tail.map (λn=>n.sp.lo));obtain⟨pls,aj⟩:=nM ((cK f ns fr).1.map T.place);rw[a9]at xp a5 W hE;rw[aj]at xp Y E hE;rw[BN]at b9;obtain⟨a1,c1,e1,cx,bc⟩:=cA a5;simp only[AR,CV]at e1;obtain⟨rfl,rfl⟩:=e1;obtain⟨a2,c2,e2,d1,bh⟩:=cA Y;simp only[AR,CV]at e2;obtain⟨rfl,rfl⟩:=e2;have R:=Gq b Sf am al _ a3 _ (fC los pls) y t none z r 0 (λk=>(Value.s y los z).ownBlock=some k\/(Value.s t pls r).ownBlock=some k) wr hL ⟨bc.m (λk hk=>.inl hk),(by
     have e:(fC los pls).kids.map (Value.int .i64)=pls.map (λn:Nat=>Value.i n):=by simp[fC,KJ]
     rw[e];exact bh.m (λk hk=>.inr hk)),.inl rfl⟩ (λk hk=>by rcases hk with hk|hk;exact aL a5 hk;exact aL Y hk) (λe=>by rcases e with e|e;exact hL.notOwn a5 δ δ _ e (.inl rfl);exact hL.notOwn Y δ δ _ e (.inl rfl)) (λh0=>by rw[BJ]at h0;exact(hE ω).symm) (by rw[jK,AF];omega)
   have e1:(fC los pls).kids.length=pls.length:=by simp[fC]
   rw[e1]at R;have e2:(fC los pls).ents.length=0:=rfl;rw[e2]at R;have e4:(fr.drop (cK f ns fr).2).getD 0 0=fr.getD (cK f ns fr).2.length 0:=by simp[CI]
   rw[e4]at R;have HQ:Hid (∀e w',iT b Sf fr wv ws w (fr.getD (cK f ns fr).2 0) ((cK f ns fr).2++[(fr.getD (cK f ns fr).2 0,fC los pls)]) e w'->iT b Sf fr wv ws w (pD f ns fr).1.place (pD f ns fr).2 e w'):=λe w' h=>by rw[pD,a9,aj];exact h
   obtain⟨pl,bx⟩:=nM (fr.getD (cK f ns fr).2.length 0);rw[bx]at R HQ;change cL _ #[_,.agg #[.i 2,.i 0,.i 0,.i 0,.s y los z,.s t pls r,.n,.t ⟨#[]⟩]] wr _ at R;generalize fC los pls=pg at R HQ;obtain⟨v0,v1,v2,ci,v4,ce,v6,v7⟩:=bU xp;clear e1 e2 e4 hE a9 aj bx aa c4;go_wp2_with (apply Calls.m R;rintro e wp ⟨ah,hQ⟩;rcases hQ.symm with⟨ba,rfl⟩|⟨ba,rfl,hX⟩;exact⟨rfl,HQ.o _ _ (iT.seq hF ac b9 ⟨ah,.inr ⟨ba,rfl⟩⟩)⟩);go_ret;exact HQ.o _ _ (iT.seq hF ac b9 ⟨ah,.inl ⟨ba,rfl,hX⟩⟩)
theorem uW{a:Type}(f:a->List UInt8)(b):∀(l:List a),(∀x∈l,(f x).length<=b)->(l.flatMap f).length<=b * l.length
 |[],_=>by simp
 |x :: l,h=>by
  have e:=h x σ;have g:=uW f b l (λd c=>h d (by simp[c]));rw[AK,jK,jB,Nat.mul_succ];omega
theorem Wj{a b}(h:a.length<=1000)(i:b.length<=1000)(e:∀k∈a,k.size<=24):(fC a b).small:=by
 refine⟨by simp[fC];omega,by simp[fC];omega,by simp[fC],by simp[fC],?_,by simp[fC,nI,aK],AG _⟩
 .have d:=uW (beB 2) 2 (b.map (λn:Nat=>(n:Int))) (λc _=>by rw[aK];exact jU _);have g:=uW eF 1000 a (λc f=>by have:=e c f;simp[eF,aK];omega);rw[AF]at d;show(eU a (b.map (λn:Nat=>(n:Int)))).length<=_;simp only[eU,jK,aK];omega
theorem Lt(b u f a s)(K:∀fr,f (.kept a s) fr=(a,[]))(P:0<a.place):Eb b u f (.kept a s):=by
 intro M S v x fr N a3 w I n Q R V;rw[K];have⟨r,m,c,g,i,h,o,q,p⟩:=M;obtain⟨d,l,e,O,-⟩:=al1 w (.cells #[.t r,.t m,.i c,.s g i h,.s o q p] 242);have⟨X,Y,Z,a0,a1⟩:=cS O;have J:=I.fr e;rw[uN]at n;have⟨_,_,_,_,_,a2,y,B,j,C,D,E,F,G,H,z,A⟩:=n;have k:c=a.place:=j;have U:((c:Int) != 0)=true:=χ
 have t:Hid _:=k;clear y B j k C D E F G H z A;go_enter func174,ntmps174;go_wp2;go_ret;exact⟨AB e,.inl ⟨AG _,by rw[t.o];rfl,v,x,N,by simpa using J,λW L=>.inl L⟩⟩
theorem qFk(b k f g s ns)(a4:∀fr,f (.bran s ns) fr=pD g ns fr)(J:0<ns.length)(a7:∀n∈ns,Eb b k g n)(a6:ns.length<=1000)(a1:∀fr,(pD g ns fr).2.length<=fr.length->(∀p∈fr,bF (p:Nat)=true)->(fC (ns.tail.map (λn=>n.sp.lo)) ((cK g ns fr).1.map T.place)).encE=0/\(fC (ns.tail.map (λn=>n.sp.lo)) ((cK g ns fr).1.map T.place)).small):Eb b k f (.bran s ns):=by
 intro m S O P fr ac ab w Z I j K a8;rw[a4];have a5:(pD g ns fr).2.length=(cK g ns fr).2.length+1:=by rw[pD];simp
 have⟨M,H,aa,v,N,y,r,L,t⟩:=m;rw[rE]at I;have⟨_,_,_,_,_,a9,Q,R,B,C,D,X,l,Y,E,z,A⟩:=I;have U:=B;have V:=C;have W:=by have:=D;rwa[AF]at this
 subst U V W;obtain⟨h,G,d,ad,-⟩:=al1 w (.cells #[.t M,.t H,.i 0,.s v 0 y,.s r ns t] 242);have⟨ah,ai,aj,ak,al⟩:=cS ad;have o:=qAu b k g ns a7 a9 r t S O P fr ac ab h (Z.fr d) (E.on (vV d (λc e=>(j c e).1))) (⟨z,λi c x a b=>(A i c x a b).on (vV d (λc e=>(j c e).1))⟩) (λc e=>⟨jY (j c e).1 d.size,(j c e).2⟩) a6 (by rw[AF]at l;exact l) K a8 (λae=>a1 fr ω K);have af:¬ns=[]:=λu=>by rw[u]at J;simp at J
 generalize (pD g ns fr).1.place=pp at o⊢;generalize (pD g ns fr).2=lp at o⊢;clear Q R B C D X l Y E z A a5;go_enter func174,ntmps174;go_wp2_with (apply Calls.m o;intro u am ⟨F,a2⟩;rcases a2.symm with⟨q,rfl⟩|⟨q,rfl,a3⟩;exact⟨rfl,iT.ahead (AB d) ⟨F,.inr ⟨q,rfl⟩⟩⟩);go_ret;exact iT.ahead (AB d) ⟨F,.inl ⟨q,rfl,a3⟩⟩
theorem Ym (b c){s:Sp}{es:List En}(H:OkH fs 0 (.leaf s es)):Eb b c (eK 0) (.leaf s es):=by
 intro e S g h a q p w i d j m n;have f:eK 0 (.leaf s es) a=lR (.leaf s es) a:=rI _ a;rw[f];have l:jM w S (nd0 (.leaf s es)) e:=by rw[Hd]at d;exact d
 exact Yn b c fs s es (sK H) e S g h a q p w i l (λo k=>(j o k).1) (Er H) m n
theorem Yo (b c){h:Nat}{s:Sp}{ks:List NT}(H:StH fs (h+1) (.bran s ks))(o:∀n∈ks,Eb b c (eK h) n):Eb b c (eK (h+1)) (.bran s ks):=by
 have⟨g,q,t,r,_⟩:=H.kids;have f:ks.length<=1000:=by have:=Nv gY 3 ks (λn _=>by unfold gY;omega);omega
 have e:∀a,eK (h+1) (.bran s ks) a=pD (eK h) ks a:=λa=>by simp only[eK,pD]
 refine qFk b c (eK (h+1)) (eK h) s ks e ω o f (λa k m=>⟨?_,Wj (by rw[AF,List.length_tail];omega) (by rw[AF,fY];exact f) (λu j=>?_)⟩)
 .have d:=Ho (h+1) a H (by rw[e];exact k) m;rw[e]at d;generalize hPG:fC (ks.tail.map (λn=>n.sp.lo)) ((cK (eK h) ks a).1.map T.place)=pg at d⊢;have i:(a.getD (cK (eK h) ks a).2 0,pg)∈(pD (eK h) ks a).2:=by rw[pD,hPG];exact GM _ (List.mem_singleton_self _)
  exact d _ i
 .obtain⟨p,l,rfl⟩:=AY.1 j;exact sL (g.ok p (List.mem_of_mem_tail l))
theorem qRl (b a h):∀(n:NT),StH fs h n->Eb b a (eK h) n:=by
 induction h with
 |zero =>
  intro n H;cases n with
  |kept t s=>exact Lt b a (eK 0) t s (kX 0 t s) (mJ H.ok t s rfl)
  |leaf s es=>exact Ym b a H.ok
  |bran=>exact H.elim
 |succ h ih =>
  intro n H;cases n with
  |kept t s=>exact Lt b a (eK (h+1)) t s (kX (h+1) t s) (mJ H.ok t s rfl)
  |leaf=>exact H.elim
  |bran s ks=>exact Yo b a H (λn c=>ih n (H.kids.2.2.1 n c))
def Ow(o:Option (Nat×T))(cs:List Ch):Option (Nat×NT):=jG o cs
structure qBe (fs:Fs) (o:Option (Nat×T)) (cs:List Ch):Prop where
 good:∀c∈cs,c.good
 size:(aT o).length+cs.length<=1000000
structure qMz (fs:Fs) (N:Option (Nat×NT)) (fr:List Nat):Prop where
 st:∀x,N=some x->StH fs x.1 x.2
 few:fr.length<=10000
 place:∀p∈fr,bF (p:Nat)=true
theorem qJk(β sv lv fs)(hl:(fs.life==0)=false)(o root)(hro:bO fs root o)(hf2:qG o)(ca cc cs S fa fc fr Sf w)(hf:aA w β sv lv fs)(hR:aH w S ca (cs.flatMap Ch.cells))(hS:lW S w)(hr:cJ cs)(hn:cs.length<=1000000)(hc:cs.length<=cc)(hca:(ca=none/\cc=0)\/∃b off,ca=some (aD b off))(hG:qBe fs o cs)(hFr:aH w Sf fa (fr.map (λn:Nat=>Value.i n)))(hSf:lW Sf w)(hfs:fr≠[]->∃b0 o0,fa=some (aD b0 o0))(hfc:fr.length<=fc)(hT:qMz fs (Ow o cs) fr):
  cL 157 #[.agg #[.p β 0,.i (root:Nat),.s ca cs cc],.s fa fr fc] w λe w'=>bW w w'/\(((bY o cs fr).2.length<=fr.length/\∃wa wc,e=.r (.agg #[.i (rootOf (bY o cs fr).1:Nat),.s wa (bY o cs fr).2 wc])/\aH w' (New w w') wa (((bY o cs fr).2.map enc1).flatMap dY)/\(bY o cs fr).2.length<=wc)\/(fr.length<(bY o cs fr).2.length/\e=.panicked (eS 8))):=by
 obtain⟨N,R⟩:=nM (Ow o cs);have g:Hid (bY o cs fr=cC N fr):=by show _=_;unfold bY;rw[<-R];rfl
 rw[R]at hT;obtain⟨W1,b1,B1,t1,p1,l1,z1⟩:=al3 w (qHz β (root:Nat) ca cs cc) (.cells #[.i 0,.n] 193) (.cells #[.s fa fr fc,.n] 238); obtain⟨m0,m1,m2⟩:=eM t1;have ag:=qQq β sv lv fs hl o root hro ca cc cs S W1 (hf.bl B1) (hR.on (vV B1 hS)) (λk d=>jY (hS k d) B1.size) hr hG.good hc hca hG.size;rw[show jG o cs=N from R]at ag;have Z:fM W1 (w+1+1) Sf fa fc fr .n []:=⟨l1,hFr.on (vV B1 hSf),hfs,hfc,AO _ _ _ _,λk d=>⟨by have:=hSf k d;omega,by have:=hSf k d;omega,ι⟩⟩;have HZ:Hid (W1.1.size=w+3):=z1;obtain⟨b2,az⟩:=cM l1;have ay:=aF l1;have aw:W1.setCell (aD (w+1+1) 1) .n=W1:=cH l1 rfl;clear R hf hR hro z1;go_enter func157,ntmps157;go_wp2_with (apply Calls.m ag;rintro e X ⟨a,c,ms,rfl,L⟩);have zX:=L.new.size;have f:=Z.fr L.new;have W:=(L.new.block _ (η HZ.o)).t p1;have HH:Hid (vF W1 X (qIc N) a c ms/\fM X (w+1+1) Sf fa fc fr .n []/\cW X (w+1) #[.i 0,.n] 193):=⟨L,f,W⟩;have j:=L.len;have a9:Hid (∀wr,Fr (fpL (w+1+1) .n) X wr->bW w wr):=λwr D=>by
  have hz:=HZ.o;exact(B1.tm L.new).t (D.below ω (λk d=>by rcases d with d|d;omega;simp[Value.ownBlock]at d))
 have y:Hid (∀(wr:World) (B:Option Addr) (z:Nat) (A:List Nat) (O:Value) (q:Int),fM wr (w+1+1) Sf B z A O ((cC N fr).2.map enc1)->q=(rootOf (cC N fr).1:Nat)->Fr (fpL (w+1+1) .n) X wr->(nW O X)->cW wr (w+1) #[.i 0,.n] 193->bW w wr/\∃wa wc,O=.s wa (cC N fr).2.length wc/\(cC N fr).2.length<=wc/\wr.c (w+1+1) 1=some (.s wa (cC N fr).2 wc)/\bW w ((wr.setCell (aD (w+1) 0) (.i q)).setCell (aD (w+1) 1) (.s wa (cC N fr).2 wc))/\((wr.setCell (aD (w+1) 0) (.i q)).setCell (aD (w+1) 1) (.s wa (cC N fr).2 wc)).1[w.1.size+1]?=some (.cells #[.i q,.s wa (cC N fr).2 wc] 193)/\aH ((wr.setCell (aD (w+1) 0) (.i q)).setCell (aD (w+1) 1) (.s wa (cC N fr).2 wc)) (New w ((wr.setCell (aD (w+1) 0) (.i q)).setCell (aD (w+1) 1) (.s wa (cC N fr).2 wc))) wa (((cC N fr).2.map enc1).flatMap dY)):=by
  intro wr B z A O q G F D C H;have hz:=HZ.o;have I:=a9.o wr D;have u:=G.own;rw[AF]at u;obtain⟨wa,wc,rfl,l,ac⟩:=cA u;have a0:=(cM G.box).2;have e1:=aC (aC H 0 (.i q)) 1 (.s wa (cC N fr).2 wc);have fP:Fr (Bl.one (w+1)) wr ((wr.setCell (aD (w+1) 0) (.i q)).setCell (aD (w+1) 1) (.s wa (cC N fr).2 wc)):=((AE (Bl.one (w+1)) wr).s (w+1) 0).s (w+1) 1;refine⟨I,wa,wc,rfl,l,a0,I.t (fP.below I.size (λ_=>φ)),by simpa using e1,?_⟩;have zP:=fP.size;refine(ac.on (fP.on (λk d=>⟨aL u d,λe=>by simp only[Bl.one]at e;have:=C k d;omega⟩))).m (λk d=>⟨by have:=C k d;omega,by have:=aL u d;omega⟩)
 have pb:=aF W;rcases BT 0 ms with h0|h0
 .obtain⟨x,M⟩:∃x,N=some x:=by
   cases N with
   |none=>have:ms.length=0:=j;omega
   |some x=>exact⟨x,rfl⟩
  have a5:qIc N=[x.2]:=by rw[M];rfl
  have aa:ms.length=1:=by rw[j,a5];rfl
  obtain⟨rb,ro,ai,ax,n0,n1,n2,n3,n4⟩:=L.row.nod h0;subst ai;obtain⟨m,hm⟩:=nM (ms[0]);have ae:=L.nds.2 0 (ndT x.2) m (by rw[a5];rfl) (by rw[jQ h0,hm]);rw[hm]at n0 n1 n2 n3 n4;obtain⟨lo,hi,pl,ea,en,ec,ka,kn,kc⟩:=m;dsimp only at n0 n1 n2 n3 n4;simp only[EO,EC]at n0 n1 n2 n3 n4;have xE:=aB X (.cells #[.t lo,.t hi,.i pl,.s ea en ec,.s ka kn kc] 242);have bE:bW X (X.alloc (.cells #[.t lo,.t hi,.i pl,.s ea en ec,.s ka kn kc] 242)):=bA _ _;obtain⟨X',hX'⟩:∃X',X.alloc (.cells #[.t lo,.t hi,.i pl,.s ea en ec,.s ka kn kc] 242)=X':=⟨_,rfl⟩;rw[hX']at xE bE;obtain⟨q0,q1,q2,q3,q4⟩:=cS xE;have hz:=HZ.o;have Q:=qRl (w+1+1) Sf x.1 x.2 (hT.st x M) ⟨lo,hi,pl,ea,en,ec,ka,kn,kc⟩ (New W1 X) fa fc fr .n [] X' (f.fr bE) (ae.on (vV bE (λk d=>d.2))) (λk d=>⟨by have:=d.2;have:=bE.size;omega,λe=>by rcases e with e|e;have:=d.1;omega;simp[Value.ownBlock]at e⟩) hT.place (by have:=hT.few;simpa using this);have Q:cL 174 #[.p (w+1+1) 0,.agg #[.t lo,.t hi,.i pl,.s ea en ec,.s ka kn kc]] X' (iT (w+1+1) Sf fr .n [] X' (rootOf (cC N fr).1) (cC N fr).2):=by rw[M];exact Q
  clear M;have aq:Hid (∀wr,Fr (fpL (w+1+1) .n) X' wr->cW wr (w+1) #[.i 0,.n] 193/\Fr (fpL (w+1+1) .n) X wr):=λwr af=>⟨af.heap ((bE.block _ (η ((gL W)))).t W) (λe=>by rcases e with e|e;omega;simp[Value.ownBlock]at e),(AB bE).t af⟩;rw[aa];have zE:=bE.size;clear j aa h0 hm ae xE bE L f W hz a5;go_loopw [6,14] (λr i wq=>(i=.i 0/\r=.i 0/\wq=X)\/(i=.i 1/\(cC N fr).2.length<=fr.length/\∃B z A O,r=.i (rootOf (cC N fr).1:Nat)/\Hid (fM wq (w+1+1) Sf B z A O ((cC N fr).2.map enc1)/\Fr (fpL (w+1+1) .n) X wq/\(nW O X)/\cW wq (w+1) #[.i 0,.n] 193))) (λ_ i _=>1-(intOf i).toNat)
  case atStart=>exact .inl ⟨rfl,rfl,rfl⟩
  case round =>
   rcases hrel with⟨rfl,rfl,a1⟩|⟨rfl,ar,B,z,A,O,rfl,HQ⟩
   .subst a1;go_wp2_with (apply Calls.m Q;rintro e X2 ⟨au,hQ⟩;obtain⟨aj,Y⟩:=aq.o X2 au;rcases hQ.symm with⟨a2,rfl⟩|⟨a2,rfl,ao,ak,al,av,a8⟩;exact⟨rfl,a9.o X2 Y,.inr ⟨by rw[g.o];exact a2,rfl⟩⟩);go_roundw
    case rel=>exact⟨_,_,_,_,_,_,_,_,_,.inr ⟨rfl,a2,ao,ak,_,al,rfl,av,Y,λk d=>(by rcases a8 k d with h|h;simp[Value.ownBlock]at h;omega),aj⟩,rfl⟩
    case measure=>simp[intOf]
   .obtain⟨q,F⟩:∃q:Int,q=(rootOf (cC N fr).1:Nat):=⟨_,rfl⟩
    rw[<-F];obtain⟨G,D,ap,H⟩:=HQ.o;clear n0 n1 n2 n3 n4 Q q0 q1 q2 q3 q4;obtain⟨I,wa,wc,C,l,a0,J,E,K⟩:=y.o wr B z A O q G F D ap H;subst C;obtain⟨q0,q1⟩:=cM H;have am:=aF H;have a3:Hid _:=J;have a7:Hid _:=E;have a6:Hid _:=K;have ah:Hid (q=(rootOf (cC N fr).1:Nat)):=F;have a4:Hid ((cC N fr).2.length<=wc):=l;clear J E K F l G y;go_wp2;refine BH (v:=.agg #[.i q,.s wa (cC N fr).2 wc]) ?_ rfl ⟨a3.o,.inl ⟨by rw[g.o];exact ar,wa,wc,by rw[g.o,ah.o],by rw[g.o];exact a6.o,by rw[g.o];exact a4.o⟩⟩;exact ER (p:=4) rfl _ _ (w+1) _ _ _ _ rfl a7.o underlying193 rfl κ
 .have ab:ms.length=0:=ω
  have ad:N=none:=by
   cases N with
   |none=>rfl
   |some x=>have:ms.length=1:=j;omega
  rw[ab];have U:Hid ((rootOf (cC N fr).1:Nat)=0/\(cC N fr).2=[]):=by rw[ad];exact⟨rfl,rfl⟩
  have an:Hid (fM X (w+1+1) Sf fa fc fr .n ((cC N fr).2.map enc1)):=by rw[U.o.2];exact f
  clear j ab h0 L f ad;go_loopw [6,14] (λr i wq=>i=.i 0/\r=.i 0/\wq=X) (λ_ _ _=>0)
  case atStart=>exact⟨rfl,rfl,rfl⟩
  case round =>
   obtain⟨rfl,rfl,a1⟩:=hrel;subst a1;obtain⟨I,wa,wc,C,l,a0,J,E,K⟩:=y.o wr fa fc fr .n 0 an.o (by rw[U.o.1];rfl) (AE _ _) (λk d=>by simp[Value.ownBlock]at d) W;obtain⟨q0,q1⟩:=cM W;have am:=aF W;have a3:Hid _:=J;have a7:Hid _:=E;have a6:Hid _:=K;have a4:Hid ((cC N fr).2.length<=wc):=l;clear J E K l y C;go_wp2;refine BH (v:=.agg #[.i 0,.s wa (cC N fr).2 wc]) ?_ rfl ⟨a3.o,.inl ⟨by rw[g.o,U.o.2];exact AG _,wa,wc,by rw[g.o,U.o.1];rfl,by rw[g.o];exact a6.o,by rw[g.o];exact a4.o⟩⟩;exact ER (p:=4) rfl _ _ (w+1) _ _ _ _ rfl a7.o underlying193 rfl κ
abbrev kK(rt:Int)(v:Value):Obj:=.cells #[.int .i64 rt,v] 193
abbrev Cs(ver rt:Int):Obj:=.cells #[.int .i64 1,.int .i64 ver,.int .i64 rt,.int .i64 0,.slice none 0 0,.slice none 0 0,.slice none 0 0,.string ⟨#[]⟩] 80
abbrev iN:Obj:=.cells #[.int .i64 0,.int .i64 0,.int .i64 0,.int .i64 0,.slice none 0 0,.slice none 0 0,.slice none 0 0,.string ⟨#[]⟩] 80
abbrev frD(D:Db)(o ao:Option (Nat×T))(ot:Tx->Option (Nat×T)):List Nat:=eY D.fs.safe.length (dI ([o,ao]++D.ts.map ot))
abbrev qIo(w:World)(b:Nat)(v0 v1 v2 v3 v4 v5 v6 v7:Value):World:=(((((((w.setCell (aD b 0) v0).setCell (aD b 1) v1).setCell (aD b 2) v2).setCell (aD b 3) v3).setCell (aD b 4) v4).setCell (aD b 5) v5).setCell (aD b 6) v6).setCell (aD b 7) v7
theorem qIn(w b a c d v3 e f g h):Fr (Bl.one b) w (qIo w b a c d v3 e f g h):=
  ((((((((AE (Bl.one b) w).s b 0).s b 1).s b 2).s b 3).s b 4).s b 5).s b 6).s b 7
theorem qDx {b j k l m n o p q t}(h:cW w b #[j,k,l,m,n,o,p,q] t)(a c d v3 e f g i):(qIo w b a c d v3 e f g i).1[b]?=some (.cells #[a,c,d,v3,e,f,g,i] t):=by
  have:=aC (aC (aC (aC (aC (aC (aC (aC h 0 a) 1 c) 2 d) 3 v3) 4 e) 5 f) 6 g) 7 i;simpa using this
theorem Gg{P:Program}{j:Func}{p q:Tmp}{e f:TypeId}(h:j.results=#[.cell p e,.cell q f])(a:Array Value)(w:World)(g c:Nat)(t t':TypeId)(cs b:Array Value)(d i:TypeDesc)(r:a.getD p undef=.p g 0)(u:a.getD q undef=.p c 0)(m:cW w g cs t)(n:cW w c b t')(x:P.underlying e=some d)(k:(match d with|.struct _|.array _ _=>true|_=>false)=true)(hi:(P.info? e).map (·.size)=some cs.size)(y:P.underlying f=some i)(l:(match i with|.struct _|.array _ _=>true|_=>false)=true)(o:(P.info? f).map (·.size)=some b.size):
    (results j a).run P w=.ok (.tuple #[.agg cs,.agg b]) w:=by
  have s:=by simpa using r
  have v:=by simpa using u
  simp[results,h,s,v,asAddr,JZ w g t e cs (0,0) d m x k hi,JZ w c t' f b (0,0) i n y l o]
theorem qGx(D st)(v:Nat)(o ao ot ca cc cs S w)(h:aO w st D)(hv:D.ver=v)(hv63:v+1<9223372036854775808)(hn:D.ts.length≤1000)(hl:(D.fs.life==0)=false)(hp2:1<D.fs.safe.length)(hm:bT D.fs (v % 2) v D.root)(ho:bO D.fs (rootOf o) o)(hr:D.root=rootOf o)(hf2:qG o)(hao:bO D.fs (rootOf ao) ao)(har:D.aroot=rootOf ao)(hts:∀ t∈D.ts,bO D.fs (rootOf (ot t)) (ot t)∧t.root=rootOf (ot t))(hR:aH w S ca (cs.flatMap Ch.cells))(hS:∀ b,S b→b<w.1.size)(hri:cJ cs)(hcn:cs.length≤1000000)(hc:cs.length≤cc)(hca:(ca=none∧cc=0)∨∃ b off,ca=some (aD b off))(hG:qBe D.fs o cs)(hT:qMz D.fs (Ow o cs) (frD D o ao ot)):
    cL 129 #[.p D.d 0,.s ca cs cc] w λe w'=>bW w w'∧(((bY o cs (frD D o ao ot)).2.length≤(frD D o ao ot).length∧∃ wa wc,e=.r (.tuple #[.agg #[.i (rootOf (bY o cs (frD D o ao ot)).1:Nat),.s wa (bY o cs (frD D o ao ot)).2 wc],.agg #[.i 1,.i (v+1:Nat),.i (rootOf (bY o cs (frD D o ao ot)).1:Nat),.i 0,.n,.n,.n,.e]])∧aH w' (New w w') wa (((bY o cs (frD D o ao ot)).2.map enc1).flatMap dY)∧(bY o cs (frD D o ao ot)).2.length≤wc)∨((frD D o ao ot).length<(bY o cs (frD D o ao ot)).2.length∧e=.panicked (eS 8))):=by
  obtain⟨fr,hfr⟩:=nM (frD D o ao ot);rw [hfr] at hT ⊢;obtain⟨rt,hrt⟩:=nM (rootOf (bY o cs fr).1);obtain⟨l,hll⟩:=nM ((bY o cs fr).2);rw [hrt,hll];obtain⟨W1,hW1⟩:=nM ((w.alloc (kK 0 .n)).alloc iN);have B1:bW w W1:=hW1▸(bA _ _).alloc σ _;have p1:=hW1▸aP _ (aB w _);have g1:W1.1[w.1.size+1]?=some iN:=by
    rw [← hW1];have:=aB (w.alloc (kK 0 .n)) iN;simpa using this
  have z1:W1.1.size=w+2:=by rw [← hW1];simp
  have HK:Hid (∀ X,bW W1 X→aO X st D∧X.c D.d 2=some (.p D.β 0)∧X.cell? (aD D.d 4)=some (.i (v:Nat))∧X.cell? (aD D.d 5)=some (.i D.root)∧X.1[w.1.size]?=some (kK 0 .n)∧X.1[w.1.size+1]?=some iN∧bW w X):=by
    intro X hX;have hb:=B1.tm hX;have h1:=h.bl hb;obtain⟨c0,c1,c2,c3,c4,c5,c6,c7,c8,c9,c10,c11,c12,c13,c14⟩:=eJ h1.box;rw [hv] at c4;exact⟨h1,c2,c4,c5,(hX.block _ ω).t p1,(hX.block _ ω).t g1,hb⟩
  have hCM:=Kj D st v W1 (HK.o W1 (AC _ _)).1 hv hl hp2 hm;have HTA:Hid (∀ X,bW W1 X→cL 36 #[.p D.d 0,.i D.root] X λe w'=>e=.r (.agg #[.p D.β 0,.i D.root,.n])∧bW X w'):=λX hX=>oQ D.d D.β D.root X (HK.o X hX).2.1;have HFe:Hid (∀ X,bW W1 X→cL 158 #[.p D.d 0] X λe w'=>∃ vf,e=.r vf∧w'.ownsRow 0 3 1 vf fr.length (fr.map (λn:Nat=>Value.i n))∧bW X w'):=λX hX=>by
    have:=qLh D st o ao ot X (HK.o X hX).1 ω hl ho hr hao har hts;rw [show eY D.fs.safe (dI ([o,ao]++D.ts.map ot))=fr from hfr] at this;exact this
  have HPl:Hid (∀ X fa fc,bW W1 X→X.ownsRow 0 3 1 (.s fa fr fc) fr (fr.map (λn:Nat=>Value.i n))→cL 157 #[.agg #[.p D.β 0,.i D.root,.s ca cs cc],.s fa fr fc] X λe w'=>bW X w'∧((l.length≤fr∧∃ wa wc,e=.r (.agg #[.i (rt:Nat),.s wa l wc])∧aH w' (New X w') wa ((l.map enc1).flatMap dY)∧l.length≤wc)∨(fr.length<l.length∧e=.panicked (eS 8)))):=λX fa fc hX hof=>by
    obtain⟨hD,_,_,_,_,_,hb⟩:=HK.o X hX;obtain⟨fa',fc',he,hfc,hrow⟩:=cA hof;simp only [AR,CV] at he;obtain⟨e1,e2⟩:=he;subst e1 e2;have:=qJk D.β D.sv D.lv D.fs hl o D.root (hr▸ho) hf2 ca cc cs S fa fc fr _ X hD.file (hR.on (vV hb hS)) (λk hk=>jY (hS k hk) hb.size) hri hcn hc hca hG hrow (λk hk=>aL hof hk) (λhne=>by
      rcases kE hof with⟨_,h2,_⟩|⟨g,c,cur,h3,_⟩
      . exact absurd (AH h2) hne
      . simp only [AR] at h3;exact⟨g,0,h3.1⟩) hfc hT
    rw [hrt,hll] at this;exact this
  have HZ:Hid _:=z1;have HD:Hid (D.d<w):=(gL h.box);have hadd:IntKind.i64.wrap ((v:Int)+1)=(v:Int)+1:=by rw [CQ];omega
  clear h hm ho hao hts hR hG hT hfr hrt hll z1 hv hr har;go_enter func129,ntmps129;go_wp2_with (first
    | (apply Calls.m hCM;rintro e X1 ⟨rfl,hX1⟩;obtain⟨_,k2,k4,k5,_⟩:=HK.o X1 hX1;have hTA:=HTA.o X1 hX1)
    | (apply Calls.m hTA;rintro e X2 ⟨rfl,hX2⟩;have B2:=hX1.tm hX2))
  obtain⟨X3,hX3⟩:=nM (X2.alloc (qHz D.β D.root ca cs cc));rw [hX3];have t3:=hX3▸aB X2 _;have z12:=B2.size;have B3:=hX3▸B2.alloc z12 _;have z13:=B3.size;have HS:Hid (∀ X,bW X3 X→X.cell? (aD X2 0)=some (.p D.β 0)∧X.cell? (aD X2 1)=some (.i D.root)∧X.cell? (aD X2 2)=some (.s ca cs cc)):=λX hX=>eM (hX.kp t3);have B30:bW X3 X3:=AC _ _;by_cases hno:fr.length<l
  . refine cY (S:=(λX:World=>X.cell? (aD X2 0)=some (.p D.β 0)∧X.cell? (aD X2 1)=some (.i D.root)∧X.cell? (aD X2 2)=some (.s ca cs cc))) 5 κ ?_
    refine tks [(0,.agg #[.p D.β 0,.i D.root,.s ca cs cc]),(1,.p D.d 0)] (HS.o _ B30.drew) ?_;iterate 2 (refine tk1 rfl ?_;try simp only [Act.put,jV,jZ,jX])
    refine tke ?_;refine mZ (i:=2) (j:=4) κ rfl rfl (λK hK=>?_) (λK hK=>?_)
    . go_simp
      go_at_call 158
      apply Calls.m (HFe.o _ (B3.t (Below.m (B30.drew) z13)))
      rintro e X5 ⟨vf,rfl,hof,hX5⟩;obtain⟨fa,fc,rfl⟩:=aG hof;have BF:=(B30.drew).t (hX5.m σ);simp only [];refine hK.out _ _ (λ_=>HS.o _ BF) ?_;try simp only [Act.put,jV,jZ,jX]
      refine mZ (i:=3) (j:=4) κ rfl rfl (λK hK=>?_) (λK hK=>?_)
      . go_simp
        go_at_call 157
        apply Calls.m (HPl.o _ fa fc (B3.t (Below.m (BF) z13)) (hof))
        rintro e X6 ⟨hX6,hQ⟩;rcases hQ with⟨hq,_⟩|⟨_,rfl⟩
        . omega
        exact⟨rfl,(B1.tm B3).t (((BF).t (hX6.m (by have:=BF.size;simp;omega))).m (η B1.size)),.inr ⟨hno,rfl⟩⟩
      . go_simp
        refine hK.out _ _ (λ_=>HS.o _ (BF.alloc BF.size _)) ?_;try simp only [Act.put,jV,jZ,jX]
        refine aR (i:=3) κ rfl (λK hK=>?_);go_simp;go_at_call 157
        apply Calls.m (HPl.o _ fa fc (B3.t (Below.m (BF.alloc BF.size _) z13)) (CG (w:=X5) hof _))
        rintro e X6 ⟨hX6,hQ⟩;rcases hQ with⟨hq,_⟩|⟨_,rfl⟩
        . omega
        exact⟨rfl,(B1.tm B3).t (((BF.alloc BF.size _).t (hX6.m (by have:=BF.size;simp;omega))).m (η B1.size)),.inr ⟨hno,rfl⟩⟩
    . go_simp
      refine hK.out _ _ (λ_=>HS.o _ (B30.drew.alloc (jU _) _)) ?_;try simp only [Act.put,jV,jZ,jX]
      refine aR (i:=2) κ rfl (λK hK=>?_);go_simp;go_at_call 158
      apply Calls.m (HFe.o _ (B3.t (Below.m (B30.drew.alloc (jU _) _) z13)))
      rintro e X5 ⟨vf,rfl,hof,hX5⟩;obtain⟨fa,fc,rfl⟩:=aG hof;have BF:=(B30.drew.alloc (jU _) _).t (hX5.m σ);simp only [];refine hK.out _ _ (λ_=>HS.o _ BF) ?_;try simp only [Act.put,jV,jZ,jX]
      refine aR (i:=3) κ rfl (λK hK=>?_);go_simp;go_at_call 157
      apply Calls.m (HPl.o _ fa fc (B3.t (Below.m (BF) z13)) (hof))
      rintro e X6 ⟨hX6,hQ⟩;rcases hQ with⟨hq,_⟩|⟨_,rfl⟩
      . omega
      exact⟨rfl,(B1.tm B3).t (((BF).t (hX6.m (by have:=BF.size;simp;omega))).m (η B1.size)),.inr ⟨hno,rfl⟩⟩
  have HPL:Hid (∀ X fa fc,bW W1 X→X.ownsRow 0 3 1 (.s fa fr fc) fr (fr.map (λn:Nat=>Value.i n))→cL 157 #[.agg #[.p D.β 0,.i D.root,.s ca cs cc],.s fa fr fc] X λe w'=>∃ wa wc,e=.r (.agg #[.i (rt:Nat),.s wa l wc])∧aH w' (New X w') wa ((l.map enc1).flatMap dY)∧l.length≤wc∧bW X w'):=λX fa fc hX hof=>(HPl.o X fa fc hX hof).m (by
    rintro e w' ⟨hb,(⟨_,wa,wc,he,hr,hc⟩|⟨hq,_⟩)⟩
    . exact⟨wa,wc,he,hr,hc,hb⟩
    . omega)
  go_region_held3 (λX=>X.cell? (aD X2 0)=some (.p D.β 0)∧X.cell? (aD X2 1)=some (.i D.root)∧X.cell? (aD X2 2)=some (.s ca cs cc))
    ((refine HS.o _ ?_;(repeat (first|exact BP|exact BF|exact B30|(refine KE ?_)|(refine LV ?_ (by first|omega|(simp;omega)) _)|(refine KI ?_ (by first|omega|(simp;omega)|(show X3.1.size≤X5;omega)|(show X3.1.size≤X6;omega)|exact jU _) _)))))
    (first
      | ((with_reducible refine Calls.m (HFe.o _ ?_) ?_);exact(B3.alloc z13 _).drew;rintro e X5 ⟨vf,rfl,hof,hX5⟩;obtain⟨fa,fc,rfl⟩:=aG hof;have BF:=(B30.alloc (jU _) _).drew.t (hX5.m σ);have zF:=BF.size;have xA:=(hX5.block X3 σ).t (aB X3 (kK 0 .n));have lA:=(gL xA))
      | ((with_reducible refine Calls.m (HFe.o _ ?_) ?_);exact B3.drew;rintro e X5 ⟨vf,rfl,hof,hX5⟩;obtain⟨fa,fc,rfl⟩:=aG hof;have BF:=B30.drew.t hX5;have zF:=BF.size)
      | ((with_reducible refine Calls.m (HPL.o _ fa fc ?_ ?_) ?_);exact B3.t (BF.m z13);exact hof;rintro e X6 ⟨wa,wc,rfl,hRw,hwc,hX6⟩;have BP:=BF.t (hX6.m zF);have zP:=BP.size;have xB:=(hX6.block X3 lA).t xA;obtain⟨g0,g1⟩:=cM xB;have gfr:=aF xB)
      | ((with_reducible refine Calls.m (HPL.o _ fa fc ?_ ?_) ?_);exact(B3.t (BF.m z13)).alloc ω _;exact CG (w:=X5) hof _;rintro e X6 ⟨wa,wc,rfl,hRw,hwc,hX6⟩;have BP:=(BF.alloc zF _).t (hX6.m χ);have zP:=BP.size;have xB:=(hX6.block X5 σ).t (aB X5 (kK 0 .n));obtain⟨g0,g1⟩:=cM xB;have gfr:=aF xB)
      | ((with_reducible refine Calls.m (HPL.o _ fa fc ?_ ?_) ?_);exact B3.t (BF.m z13);exact hof;rintro e X6 ⟨wa,wc,rfl,hRw,hwc,hX6⟩;have BP:=BF.t (hX6.m zF);have zP:=BP.size;have xE:=aB X6 (kK 0 .n);obtain⟨g0,g1⟩:=cM xE;have gfr:=aF xE))
  all_goals
    have zz:=HZ.o;first
      | (obtain⟨Xf,hXf⟩:=nM (X6.alloc (kK (rt:Nat) (.s wa l wc)))
         rw [hXf];have BFf:=hXf▸BP.alloc zP _;have b7:Xf.1[X6.1.size]?=some (kK (rt:Nat) (.s wa l wc)):=by rw [← hXf];exact aB X6 _
         have HRF:Hid (aH Xf (λk=>X3≤k∧k<Xf) wa ((l.map enc1).flatMap dY)):=by show aH _ _ _ _;rw [← hXf];exact(hRw.on ((CM _ X6).alloc (λk hk=>hk.2) _)).m (λk hk=>⟨by have:=hk.1;omega,by have:=hk.2;simp;omega⟩)
         obtain⟨B7,hB7⟩:=nM (X6.1.size);have zB7:X3≤B7:=ω
         rw [hB7] at b7 ⊢;clear hXf hB7)
      | (obtain⟨Xf,hXf⟩:=nM ((X6.setCell (aD X5 0) (.i (rt:Nat))).setCell (aD X5 1) (.s wa l wc))
         rw [hXf];have BFf:=hXf▸(BP.setCell (p:=(aD X5 0)) zF _).setCell (p:=(aD X5 1)) zF _;have b7:Xf.1[X5.1.size]?=some (kK (rt:Nat) (.s wa l wc)):=by rw [← hXf];have:=aC (aC xB 0 (.i (rt:Nat))) 1 (.s wa l wc);simpa using this
         have HRF:Hid (aH Xf (λk=>X3≤k∧k<Xf) wa ((l.map enc1).flatMap dY)):=by show aH _ _ _ _;rw [← hXf];exact(hRw.on (((CM _ X6).setCell (p:=(aD X5 0)) (λhk=>by have h1:(X5.alloc (kK 0 .n)).1.size≤X5:=hk.1;rw [LG] at h1;omega) _).setCell (p:=(aD X5 1)) (λhk=>by have h1:(X5.alloc (kK 0 .n)).1.size≤X5:=hk.1;rw [LG] at h1;omega) _)).m (λk hk=>⟨by have h1:(X5.alloc (kK 0 .n)).1.size≤k:=hk.1;rw [LG] at h1;omega,by have:=hk.2;simp;omega⟩)
         obtain⟨B7,hB7⟩:=nM (X5.1.size);have zB7:X3≤B7:=ω
         rw [hB7] at b7 ⊢;clear hXf hB7)
      | (obtain⟨Xf,hXf⟩:=nM ((X6.setCell (aD X3 0) (.i (rt:Nat))).setCell (aD X3 1) (.s wa l wc))
         rw [hXf];have BFf:=hXf▸(BP.setCell (p:=(aD X3 0)) (jU _) _).setCell (p:=(aD X3 1)) (jU _) _;have b7:Xf.1[X3.1.size]?=some (kK (rt:Nat) (.s wa l wc)):=by rw [← hXf];have:=aC (aC xB 0 (.i (rt:Nat))) 1 (.s wa l wc);simpa using this
         have HRF:Hid (aH Xf (λk=>X3≤k∧k<Xf) wa ((l.map enc1).flatMap dY)):=by show aH _ _ _ _;rw [← hXf];exact(hRw.on (((CM _ X6).setCell (p:=(aD X3 0)) (λhk=>by have h1:X5.1.size≤X3:=hk.1;omega) _).setCell (p:=(aD X3 1)) (λhk=>by have h1:X5.1.size≤X3:=hk.1;omega) _)).m (λk hk=>⟨by have h1:=hk.1;omega,by have:=hk.2;simp;omega⟩)
         obtain⟨B7,hB7⟩:=nM (X3.1.size);have zB7:X3≤B7:=ω
         rw [hB7] at b7 ⊢;clear hXf hB7)
    clear g0 g1 gfr hRw hX6 hof hX5;have BW:bW W1 Xf:=B3.t (BFf.m z13);obtain⟨_,k2,k4,k5,pP,pG,hBw⟩:=HK.o Xf BW;have dlt:D.d<w:=HD.o;obtain⟨g0,g1⟩:=cM b7;obtain⟨q0,q1⟩:=cM pP;have qfr:=aF pP;obtain⟨r0,r1,r2,r3,r4,r5,r6,r7⟩:=bU pG;have rfr:=aF pG;go_wp2;go_region_held3 (λX=>X.cell? (aD B7 0)=some (.i (rt:Nat))∧X.cell? (aD B7 1)=some (.s wa l wc)∧X.cell? (aD D.d 4)=some (.i (v:Nat)))
      ((first|(with_reducible exact⟨g0,g1,k4⟩)|(refine⟨?_,?_,?_⟩<;>(try rw [Cb])<;>(repeat apply cO ω)<;>(first|(with_reducible exact g0)|(with_reducible exact g1)|(with_reducible exact k4)))|(simp [g0,g1,k4])))
      (fail)
    obtain⟨Xh,hXh⟩:=nM ((Xf.setCell (aD w 0) (.i (rt:Nat))).setCell (aD w 1) (.s wa l wc));have fh:=hXh▸(((AE (Bl.one w) Xf).setCell (p:=(aD w 0)) (.inl rfl) _).setCell (p:=(aD w 1)) (.inl rfl) _);have bh:Xh.1[w.1.size]?=some (kK (rt:Nat) (.s wa l wc)):=by rw [← hXh];have:=aC (aC pP 0 (.i (rt:Nat))) 1 (.s wa l wc);simpa using this
    have gh:=fh.heap pG (oN (by omega));obtain⟨Xg,hXg⟩:=nM ((qIo Xh (w+1) (.i 1) (.i ((v:Int)+1)) (.i (rt:Nat)) (.i 0) .n .n .n .e).drew);have fg:=hXg▸(qIn Xh (w+1) _ _ _ _ _ _ _ _).drew;have bg:=fg.heap bh (oN (by omega));have gg:Xg.1[w.1.size+1]?=some (Cs ((v:Int)+1) (rt:Nat)):=by rw [← hXg,JH];exact qDx gh _ _ _ _ _ _ _ _
    rw [hXh,hXg];have zg:=fg.size;have zh:=fh.size;have HBG:Hid (bW w Xg):=(hBw.t (fh.below hBw.size (oK (by omega)))).t (fg.below (η hBw.size) (oK (by omega)));have HRG:Hid (aH Xg (New w Xg) wa ((l.map enc1).flatMap dY)):=by
      have hRf':=HRF.o;refine((hRf'.on (fh.on (λk hk=>⟨hk.2,λe=>by simp only [Bl.one] at e;have:=hk.1;omega⟩))).on (fg.on (λk hk=>⟨by have:=hk.2;omega,λe=>by simp only [Bl.one] at e;have:=hk.1;omega⟩))).m (λk hk=>⟨by have:=hk.1;omega,by have:=hk.2;omega⟩)
    clear hXh hXg bh gh fh fg g0 g1 q0 q1 qfr r0 r1 r2 r3 r4 r5 r6 r7 rfr pP pG;go_wp2;refine BH (v:=.tuple #[.agg #[.i (rt:Nat),.s wa l wc],.agg #[.i 1,.i (v+1:Nat),.i (rt:Nat),.i 0,.n,.n,.n,.e]]) ?_ rfl ⟨HBG.o,.inl ⟨ω,wa,wc,rfl,HRG.o,hwc⟩⟩;exact Gg (p:=4) (q:=5) rfl _ _ w.1.size (w+1) _ _ _ _ _ _ rfl rfl bg gg underlying193 rfl κ underlying80 rfl κ
theorem qOn (P:tL K n fs o cs fr):qBe fs o cs:=⟨P.good,P.size⟩
theorem tL.fewF (P:tL K n fs o cs fr):fr.length<=4096:=by
 have a:=Ox (l:=fr) (m:=List.range n) P.nodup (λp b=>JG.2 (P.free p b).2);rw[List.length_range]at a;have:=P.small;omega
theorem qBb.few (P:qBb K n fs o cs fr):(bY o cs fr).2.length<=4096:=vJ P.room P.fewF
theorem qQc (P:tL K n fs o cs fr):qMz fs (Ow o cs) fr:=by
 have H:=Hz P.tree.rooted P.rise P.good;refine⟨λc a=>?_,by have:=P.fewF;omega,P.place⟩;have b:jG o cs=some c:=a;rw[b]at H;exact H.1
abbrev Db.made(D:Db)(lv':Value)(fs':Fs)(v rt:Nat):Db:={D with lv:=lv',fs:=fs',ver:=(v:Nat),root:=rt,aroot:=D.root,ka:=none,ia:=none,ea:=none,kc:=0,ic:=0,ec:=0}
structure View (n:Nat) (fs:Fs) (v:Nat) (o ao:Option (Nat×T)):Prop where
 len:fs.safe.length=n
 m0:bT fs (v % 2) v (rootOf o)
 sure:Tr [] fs o
 ahead:Tr [] fs ao
theorem dN.view {n v:Nat}{o ao:Option (Nat×T)}(S:dN [] n fs v o ao):View n fs v o ao:=⟨S.len,S.meta0,S.sure,S.ahead⟩
theorem Ra {b k l p s u v x y z A q r m n o t}(h:cW w b #[k,l,p,s,u,v,x,y,z,A,q,r,m,n,o] t)(v3 d e f g i j a c:Value):(qNp (w.setCell (aD b 11) c) b v3 d e f g i j a).1[b]?=some (.cells #[k,l,p,v3,d,e,f,g,i,j,a,c,m,n,o] t):=by
 have:=aC (aC (aC (aC (aC (aC (aC (aC (aC h 11 c) 3 v3) 4 d) 5 e) 6 f) 7 g) 8 i) 9 j) 10 a;simpa using this
theorem Xq(w:World)(b:Nat)(v3 d e f g h i a c:Value):Fr (Bl.one b) w (qNp (w.setCell (aD b 11) c) b v3 d e f g h i a):=
 (((((((((AE (Bl.one b) w).setCell (p:=(aD b 11)) (.inl rfl) _).setCell (p:=(aD b 3)) (.inl rfl) _).setCell (p:=(aD b 4)) (.inl rfl) _).setCell (p:=(aD b 5)) (.inl rfl) _).setCell (p:=(aD b 6)) (.inl rfl) _).setCell (p:=(aD b 7)) (.inl rfl) _).setCell (p:=(aD b 8)) (.inl rfl) _).setCell (p:=(aD b 9)) (.inl rfl) _).setCell (p:=(aD b 10)) (.inl rfl) _
def qPt(D:Db)(st:Int)(l:List (Nat×Pg))(fr:List Nat)(v rt:Nat)(w:World)(e:Ending)(w':World):Prop :=
 (bW w w'/\((fr.length<l.length/\e=.panicked (eS 8))\/(l.length<=fr.length/\D.failed=true/\e=.returned (.bool false)))) \/
 (l.length<=fr.length/\D.failed=false/\∃b fs' lv',WrR D.fs l (v % 2) (bL (v:Nat) (rt:Nat)) b fs'/\e=.returned (.bool b)/\aO w' st (if b then D.made lv' fs' v rt else {D with lv:=lv',fs:=fs'})/\Fr (λk=>k=D.d\/fpF D.β D.sv D.lv k) w w'/\aI w (fpF D.β D.sv D.lv) (fpF D.β D.sv lv'))
theorem qId (D:Db)(x:Int)(v:Nat)(o ao:Option (Nat×T))(s:Tx->Option (Nat×T))(z:Option Addr)(I:Nat)(cs:List Ch)(S:Bl)(w:World)(h:aO w x D)(ac:D.fs.dy)(hal:(D.fs.life==0)=false)(m:D.failed=false->dN [] n D.fs v o ao)(aq:D.ver=v)(ar:v+1<9223372036854775808)(hn:D.ts.length<=1000)(y:View n D.fs v o ao)(b3:2<=n)(hr:D.root=rootOf o)(am:D.aroot=rootOf ao)(ap:∀t∈D.ts,bO D.fs (rootOf (s t)) (s t)/\t.root=rootOf (s t))(P:tL [] n D.fs o cs (frD D o ao s))(aj:aH w S z (cs.flatMap Ch.cells))(b6:lW S w)(ba:cs.length<=1000000)(b8:cs<=I)(b9:(z=none/\I=0)\/∃b bh,z=some (aD b bh)):
  cL 94 #[.p D.d 0,.s z cs I] w (qPt D x (bY o cs (frD D o ao s)).2 (frD D o ao s) (v+1) (rootOf (bY o cs (frD D o ao s)).1) w):=by
 have a7:=fH D.β D.sv D.lv D.fs w h.file;rw[hal]at a7;have bc:=y.len;have J:=qGx D x v o ao s z I cs S w h aq ar hn hal ω (hr▸y.m0) y.sure.rooted hr y.sure.flat y.ahead.rooted am ap aj b6 P.rise ba b8 b9 (qOn P) (qQc P);obtain⟨k,an⟩:=nM (frD D o ao s);rw[an]at J P⊢;obtain⟨a,ab⟩:=nM (rootOf (bY o cs k).1);obtain⟨l,M⟩:=nM ((bY o cs k).2);have ah:l.length<=k.length->D.failed=false->D.fs.late=[]/\(∀B∈l,B.2.encE=0)/\(∀B∈l,B.1<D.fs.safe)/\(a=0\/bF (a:Nat)=true)/\l.length<=4096:=λi L=>by
  have af:qBb [] n D.fs o cs k:=⟨P,by rw[M];exact i⟩;obtain⟨F,G,H,_,_⟩:=nT (m L) af ar b3;have bb:=af.few;rw[M]at G H bb;refine⟨(m L).late,G,λB be=>?_,ab▸F.sure.root,ω⟩;have:=P.free _ (tQ H B be);omega
 change Calls _ _ _ _ (λg w'=>qPt D x (bY o cs k).2 k (v+1) (rootOf (bY o cs k).1) w g w');rw[ab,M]at J⊢;obtain⟨O,Q,Z,a0,a1,a2,a3,a4,a5,a6,U,V,E,W,Y⟩:=eJ h.box;have ax:Hid (∀X e f,l.length<=k.length->D.failed=false->bW w X->aH X (New w X) e ((l.map enc1).flatMap dY)->l.length<=f->cL 130 #[.p D.d 0,.agg #[.i (a:Nat),.s e l f],.agg #[.i 1,.i ((v:Int)+1),.i (a:Nat),.i 0,.n,.n,.n,.e]] X λg w'=>∃b q r,WrR D.fs l ((v+1) % 2) (bL (v+1:Nat) (a:Nat)) b q/\g=.r (.bool b)/\aO w' x {D with lv:=r,fs:=q}/\Fr (fpF D.β D.sv D.lv) X w'/\aI X (fpF D.β D.sv D.lv) (fpF D.β D.sv r)):=λX e f i L aa K N=>by
  obtain⟨F,G,H,b0,b1⟩:=ah i L;have b4:=h.bl aa;obtain⟨⟨b,q⟩,ak⟩:∃R,D.fs.wrA (mA l) ((v+1) % 2) (bL (v+1:Nat) (a:Nat)).encS=R:=⟨_,rfl⟩;refine(qQa D x l ⟨0,v+1,a,none,none,none,0,0,0⟩ a e f (New w X) X b4 ac F K (λd c=>⟨c.2,λg=>by have:=h.file.lies d g;have:=c.1;omega⟩) N b1 G H (uY (v+1:Nat) a ω (b0.imp (λh=>by rw[h];rfl) id)) (He _ _) ω _ ak).m ?_;rintro g w' ⟨rfl,r,au,bi,bj⟩;exact⟨b,q,r,qNd F ac ak,rfl,au,bi,bj⟩
 have C:Hid (∀X,bW w X->X.c D.d 2=some (.p D.β 0)/\X.c D.d 12=some (.bool D.failed)):=λX aa=>by
  obtain⟨O,Q,Z,a0,a1,a2,a3,a4,a5,a6,U,V,E,W,Y⟩:=eJ (h.bl aa).box;exact⟨Z,E⟩
 have aw:Hid (∀d,w.1.size<=d->¬fpF D.β D.sv D.lv d):=λd c g=>by have:=h.file.lies d g;omega
 clear an ab M P ap aj ac ah h hr am aq bc m y O Q a0 a1 a2 a3 a4 a5 a6 U V E W Y;cases m:D.failed
 .rw[m]at C;go_enter func94,ntmps94;go_wp2_with (first
   |(apply Calls.m a7;rintro g w' ⟨rfl,bd⟩;subst w')
   |(apply Calls.m J;rintro g j ⟨u,a9⟩;rcases a9.symm with⟨i,rfl⟩|⟨i,e,f,rfl,K,N⟩;(exact⟨rfl,Or.inl ⟨u,.inl ⟨i,rfl⟩⟩⟩);have ad:=u.size;have p:bW w ((j.alloc (kK (a:Nat) (.s e l f))).alloc (Cs ((v:Int)+1) (a:Nat))):=(u.alloc ad _).alloc χ _;have ay:((j.alloc (kK (a:Nat) (.s e l f))).alloc (Cs ((v:Int)+1) (a:Nat))).1[j.1.size]?=some (kK (a:Nat) (.s e l f)):=aP _ (aB j _);have ag:((j.alloc (kK (a:Nat) (.s e l f))).alloc (Cs ((v:Int)+1) (a:Nat))).1[j.1.size+1]?=some (Cs ((v:Int)+1) (a:Nat)):=(by have:=aB (j.alloc (kK (a:Nat) (.s e l f))) (Cs ((v:Int)+1) (a:Nat));simpa using this);obtain⟨bg,bf⟩:=C.o _ p;obtain⟨bt,au⟩:=cM ay;obtain⟨bk,bl,bm,bn,bo,bp,bq,br⟩:=bU ag;have b7:=ax.o ((j.alloc (kK (a:Nat) (.s e l f))).alloc (Cs ((v:Int)+1) (a:Nat))) e f i m p ((K.on (((CM (New w j) j).alloc (λd c=>c.2) _).alloc (λd c=>by have:=c.2;simp;omega) _)).m (λd c=>⟨c.1,by have:=c.2;simp;omega⟩)) N)
   |(apply Calls.m b7;rintro g X3 ⟨az,q,r,al,rfl,A,a8,ai⟩;obtain⟨O,Q,Z,a0,a1,a2,a3,a4,a5,a6,U,V,E,W,Y⟩:=eJ A.box;have bs:=aF A.box;have b2:=a8.heap ag (aw.o _ ω);obtain⟨bk,bl,bm,bn,bo,bp,bq,br⟩:=bU b2;cases az))
  .go_ret;exact Or.inr ⟨i,m,false,q,r,al,rfl,A,(AB p).t (a8.m (λd c=>.inl (.inr c))),λd c=>(ai d c).imp id (λh=>by have:=p.size;omega)⟩
  .have av:=Ra A.box (.i 1) (.i ((v:Int)+1)) (.i (a:Nat)) (.i 0) .n .n .n .e (.i D.root);have ae:=Xq X3 D.d (.i 1) (.i ((v:Int)+1)) (.i (a:Nat)) (.i 0) .n .n .n .e (.i D.root);have b5:=A.rebox (D':=D.made r q (v+1) a) ae rfl rfl rfl rfl rfl rfl rfl av;go_ret;exact Or.inr ⟨i,m,true,q,r,al,rfl,b5,((AB p).t (a8.m (λd c=>.inl (.inr c)))).t (ae.m (λd c=>.inl (.inl c))),λd c=>(ai d c).imp id (λh=>by have:=p.size;omega)⟩
 .rw[m]at C;go_enter func94,ntmps94;go_wp2_with (first
   |(apply Calls.m a7;rintro g w' ⟨rfl,bd⟩;subst w')
   |(apply Calls.m J;rintro g j ⟨u,a9⟩;rcases a9.symm with⟨i,rfl⟩|⟨i,e,f,rfl,K,N⟩;(exact⟨rfl,Or.inl ⟨u,.inl ⟨i,rfl⟩⟩⟩);have ad:=u.size;have p:bW w ((j.alloc (kK (a:Nat) (.s e l f))).alloc (Cs ((v:Int)+1) (a:Nat))):=(u.alloc ad _).alloc χ _;obtain⟨bg,bf⟩:=C.o _ p))
  go_ret;exact Or.inl ⟨p,.inr ⟨i,m,rfl⟩⟩
theorem qDq(D:Db)(f:Int)(b:Option Addr)(d c:Nat)(w:World)(h:aO w f D)(hal:D.fs.life=0):
  cL 94 #[.p D.d 0,.s b d c] w λe w'=>e=.r (.bool false)/\w'=w:=by
 have a:=fH D.β D.sv D.lv D.fs w h.file;rw[show(D.fs.life==0)=true by rw[hal];rfl]at a;have⟨g,i,o,p,q,r,s,t,u,v,j,k,l,m,n⟩:=eJ h.box;go_enter func94,ntmps94;go_wp2_with (apply Calls.w a);go_ret;exact⟨rfl,rfl⟩
theorem aO.away {e:Int}{D t}(h:aO w e D)(c:eX w D.β t)(d:∀x∈D.ts,tF x t):∀k,fpT t k->¬fpD D k:=by
 rintro k b (a|a|a|⟨x,g,a⟩)
 .subst a;exact yI c h.box δ δ b
 .exact h.txFile c k b a
 .exact h.txRow c k b a
 .exact d x g k a b
structure Qj (ts:List Tx) (cs:List Ch) (ts':List Tx):Prop where
 len:ts'.length=ts.length
 each:∀i (h:i<ts.length),qHq ts[i] cs (ts'[i]'(by omega))
structure Qi (ts:List Tx) (cs:List Ch) (j:Nat) (ts':List Tx):Prop where
 len:ts'.length=ts.length
 done:∀i (h:i<ts.length),i<j->qHq ts[i] cs (ts'[i]'(by omega))
 left:∀i (h:i<ts.length),j<=i->ts'[i]'(by omega)=ts[i]
theorem qHq.b {t t'}(h:qHq t cs t'):t'.b=t.b:=by obtain⟨_,_,rfl,_⟩:=h;rfl
theorem Qi.step {ts a:List Tx}{j:Nat}{t':Tx}(h:Qi ts cs j a)(c:j<ts)(ht:qHq ts[j] cs t'):Qi ts cs (j+1) (a.set j t'):=by
 refine⟨by rw[BQ,h.len],λi g b=>?_,λi g b=>?_⟩
 .rw[DK];split
  .next e=>subst e;exact ht
  .exact h.done i g ω
 .rw[DK,AQ ω];exact h.left i g ω
def qBf(D:Db)(l:List (Nat×Pg))(fr:List Nat)(v rt:Nat)(cs:List Ch)(z:Int)(D':Db):Prop :=
 (z=9/\((D.fs.life=0\/(l.length<=fr.length/\D.failed=true))/\D' = {D with failed:=true} \/
  ((D.fs.life==0)=false/\l.length<=fr.length/\D.failed=false/\∃fs' lv',WrR D.fs l (v % 2) (bL (v:Nat) (rt:Nat)) false fs'/\D' = {D with lv:=lv',fs:=fs',failed:=true}))) \/
 (z=0/\(D.fs.life==0)=false/\l.length<=fr.length/\D.failed=false/\∃fs' lv' ts',WrR D.fs l (v % 2) (bL (v:Nat) (rt:Nat)) true fs'/\Qj D.ts cs ts'/\D' = {D.made lv' fs' v rt with ts:=ts'})
def qPg(D:Db)(st:Int)(l:List (Nat×Pg))(fr:List Nat)(v rt:Nat)(cs:List Ch)(w:World)(e:Ending)(w':World):Prop :=
 (e=.panicked (eS 8)/\(D.fs.life==0)=false/\fr.length<l.length/\bW w w') \/
 (∃z D',e=.returned (.i z)/\aO w' st D'/\Fr (fpD D) w w'/\aI w (fpD D) (fpD D')/\qBf D l fr v rt cs z D')
theorem qAn (D:Db)(st:Int)(v:Nat)(o ao:Option (Nat×T))(ot:Tx->Option (Nat×T))(t:Tx)(w:World)(h:aO w st D)(hT:eX w D.β t)(hap:∀x∈D.ts,tF x t)(hne:0<t.cs.length)(hks:∀c∈t.cs,c.key ∉ t.ks)(hcn:t.cs.length<=1000000)(hw:D.fs.dy)(hfd:D.failed=false->dN [] n D.fs v o ao)(hv:D.ver=v)(hv63:v+1<9223372036854775808)(hn:D.ts.length<=1000)(V:View n D.fs v o ao)(h2:2<=n)(hr:D.root=rootOf o)(har:D.aroot=rootOf ao)(hts:∀t∈D.ts,bO D.fs (rootOf (ot t)) (ot t)/\t.root=rootOf (ot t))(P:tL [] n D.fs o t.cs (frD D o ao ot)):
  cL 44 #[.p D.d 0,.p t.b 0] w (qPg D st (bY o t.cs (frD D o ao ot)).2 (frD D o ao ot) (v+1) (rootOf (bY o t.cs (frD D o ao ot)).1) t.cs w):=by
 have ay:=Iv D.β t w hT ω hks;obtain⟨fr,Z⟩:=nM (frD D o ao ot);obtain⟨l,aa⟩:=nM ((bY o t.cs fr).2);obtain⟨rt,S⟩:=nM (rootOf (bY o t.cs fr).1);have am:=h.away hT hap;obtain⟨a0,c0,he,bd,L⟩:=cA hT.row;simp only[Tx.cv,AR,CV]at he;obtain⟨e1,e2⟩:=he;subst e1 e2;have b2:Hid (∀X,bW w X->cL 94 #[.p D.d 0,.s t.ca t.cs t.cc] X λe w'=>(e=.panicked (eS 8)/\qPg D st l fr (v+1) rt t.cs w (.panicked (eS 8)) w')\/(∃b B,e=.r (.bool b)/\B.d=D.d/\aO w' st B/\Fr (fpD D) w w'/\aI w (fpD D) (fpD B)/\(b=false->qBf D l fr (v+1) rt t.cs 9 {B with failed:=true})/\(b=true->∃y u,B=D.made u y (v+1) rt/\∀q,Qj D.ts t.cs q->qBf D l fr (v+1) rt t.cs 0 {B with ts:=q}))):=λX K=>by
  have O:=h.on (vV K h.lies);have az:=hT.on (vV K hT.lies);cases hal:D.fs.life==0
  .refine(qId D st v o ao ot t.ca t.cc t.cs (λk=>t.cv.ownBlock=some k) X O hw hal hfd hv hv63 hn V h2 hr har hts P (L.on (vV K (λk A=>aL hT.row A))) (λk A=>aL az.row A) hcn bd (by
    rcases kE az.row with⟨h3,h4,_⟩|⟨g,c,bp,h3,_⟩
    .simp only[Tx.cv,AR]at h3;exact .inl ⟨h3.1,h3.2.2⟩
    .simp only[Tx.cv,AR]at h3;exact .inr ⟨g,0,h3.1⟩)).m ?_
   rw[Z,aa,S];rintro e w' (⟨hb,(⟨q1,rfl⟩|⟨q1,q2,rfl⟩)⟩|⟨q1,q2,b,y,u,hW,rfl,hD,hF,hG⟩)
   .exact .inl ⟨rfl,.inl ⟨rfl,hal,q1,K.t (hb.m K.size)⟩⟩
   .exact .inr ⟨false,D,rfl,rfl,O.on (vV hb O.lies),AB (K.t (hb.m K.size)),CS _ _,λ_=>.inl ⟨rfl,.inl ⟨.inr ⟨q1,q2⟩,rfl⟩⟩,nofun⟩
   .have F:Fr (fpD D) w w':=(AB K).t (hF.m (λk A=>.inl (A.elim .inl (λh=>.inr (.inl h)))));have G:∀B:Db,B.d=D.d->B.β=D.β->B.sv=D.sv->B.lv=u->B.ov=D.ov->B.ts=D.ts->aI w (fpD D) (fpD B):=λB p1 p2 p3 p4 p5 p6=>by
     rintro k (A|A|A|A)
     .exact .inl (.inl (A.t p1))
     .rw[p2,p3,p4]at A;exact(hG k A).imp (λh=>.inr (.inl h)) (λh=>vJ K.size h)
     .rw[p5]at A;exact .inl (.inr (.inr (.inl A)))
     .rw[p6]at A;exact .inl (.inr (.inr (.inr A)))
    cases b
    .exact .inr ⟨false,{D with lv:=u,fs:=y},rfl,rfl,hD,F,G _ rfl rfl rfl rfl rfl rfl,λ_=>.inl ⟨rfl,.inr ⟨hal,q1,q2,y,u,hW,rfl⟩⟩,nofun⟩
    .exact .inr ⟨true,D.made u y (v+1) rt,rfl,rfl,hD,F,G _ rfl rfl rfl rfl rfl rfl,nofun,λ_=>⟨y,u,rfl,λq hL=>.inr ⟨rfl,hal,q1,q2,y,u,q,hW,hL,rfl⟩⟩⟩
  .refine(qDq D st t.ca t.cs.length t.cc X O (by simpa using hal)).m ?_;rintro e w' ⟨rfl,rfl⟩;exact .inr ⟨false,D,rfl,rfl,O,AB K,CS _ _,λ_=>.inl ⟨rfl,.inl ⟨.inl (by simpa using hal),rfl⟩⟩,nofun⟩
 rw[Z,aa,S];have bj:=(qQ hT.box).2.2.2.2.1;have HT:Hid _:=hT;have ag:Hid (∀k,fpT t k->¬fpD D k):=am;have ai:Hid (aH w (λk=>t.cv.ownBlock=some k) t.ca (t.cs.flatMap Ch.cells)):=L;have ap:Hid (∀X u y q,q.length=D.ts.length->aO X st {D.made u y (v+1) rt with ts:=q}->∃E J,D.ov=.s E D.ts.length J/\X.c D.d 14=some (.s E D.ts.length J)/\aH X (λk=>D.ov.ownBlock=some k) E (mH q)):=λX u y q hl K=>by
  obtain⟨a0,a1,a2,a3,a4,a5,a6,a7,a8,a9,bo,bq,bk,bm,b4⟩:=eJ K.box;have hr:=K.row;obtain⟨E,J,he,hc,ab⟩:=cA hr;have ax:D.ov=.s E D.ts.length J:=by rw[<-hl];exact he
  exact⟨E,J,ax,by rw[<-ax];exact b4,ab⟩
 clear Z aa S P V hfd hw hT h hv hr har hts am L hap;go_enter func44,ntmps44;go_wp2_with (first
  |(apply Calls.m ay;rintro e X1 ⟨rfl,b3⟩;have ak:=b2.o X1 b3)
  |(apply Calls.m ak;rintro e X2 (⟨rfl,hq⟩|⟨b,B,rfl,W,af,U,ac,an,aj⟩);(exact⟨rfl,hq⟩);have Y:Hid (aO X2 st B):=af;have HQ:Hid ((b=false->qBf D l fr (v+1) rt t.cs 9 {B with failed:=true})/\(b=true->∃y u,B=D.made u y (v+1) rt/\∀q,Qj D.ts t.cs q->qBf D l fr (v+1) rt t.cs 0 {B with ts:=q})):=⟨an,aj⟩;have I:=af.box;rw[W]at I;have ad:=(eJ I).2.2.2.2.2.2.2.2.2.2.2.2.2.2;have b6:=(eJ I).2.2.2.2.2.2.2.2.2.2.2.2.1;have b7:=aF I;clear an aj ak ay;cases b))
 .have F3:Fr (Bl.one D.d) X2 (X2.setCell (aD D.d 12) (.bool true)):=(AE (Bl.one D.d) X2).setCell (p:=(aD D.d 12)) (.inl rfl) _;have bf:aO (X2.setCell (aD D.d 12) (.bool true)) st {B with failed:=true}:=Y.o.rebox (D':={B with failed:=true}) (W.symm▸F3) rfl rfl rfl rfl rfl rfl rfl (by rw[W];simpa using aC I 12 (.bool true));go_ret;exact Or.inr ⟨9,_,rfl,bf,U.t (F3.m (λk A=>.inl (.inl A))),ac,HQ.o.1 trivial⟩
 .obtain⟨y,u,rfl,hq⟩:=HQ.o.2 trivial;obtain⟨E,J,au,aw,b1⟩:=ap.o X2 u y D.ts rfl Y.o;rw[au]at ad;have bb:=U;have HG2:Hid _:=ac;have HR:Hid _:=hq;clear af U ac hq HQ I aw b6 b7;go_wp2;go_loopw [30] (λi wr=>∃(j:Nat) (q:List Tx),i=.i j/\j<=D.ts/\Hid (Qi D.ts t.cs j q)/\Hid (aO wr st {D.made u y (v+1) rt with ts:=q})/\Hid (Fr (fpD D) w wr)/\Hid (aI w (fpD D) (fpD {D.made u y (v+1) rt with ts:=q}))) (λi _=>D.ts-(intOf i).toNat)
  case atStart=>exact⟨0,D.ts,rfl,AG _,⟨rfl,λi _ h=>ω,λi _ _=>rfl⟩,Y,bb,HG2⟩
  case round =>
   obtain⟨j,q,rfl,hj,HL,Q,HF,HG⟩:=hrel;clear b1 ad;by_cases hlt:j<D.ts
   .have bg:(j:Int)<(D.ts.length:Int):=ω;have H:j<q.length:=by rw[HL.o.len];exact hlt
    obtain⟨bi,bh,N,ad,ab⟩:=ap.o wr u y q HL.o.len Q.o;rw[au]at N;simp only[AR,CV]at N;obtain⟨rfl,rfl⟩:=N;obtain⟨rb,ro,bc,bn,av⟩:=aH.at (f:=λt:Tx=>Value.p t.b 0) (l:=q) (j:=j) ab H;have C:=HL.o.left j hlt (jU _);rw[C]at av;have R:=AA hlt;have b0:=C▸Q.o.each q[j] (AA H);have ae:∀k,fpT D.ts[j] k->fpD D k:=λk A=>.inr (.inr (.inr ⟨_,R,A⟩));have al:=qKn D.β D.ts[j] t.cs t.ca t.cc (λk=>t.cv.ownBlock=some k) wr b0 (ai.o.on (HF.o.on (λk A=>⟨aL HT.o.row A,ag.o k (.inr (.inl A))⟩))) (λk A=>⟨jY (aL HT.o.row A) HF.o.size,λe=>ag.o k (.inr (.inl A)) (ae k e)⟩) ω;obtain⟨tj,M⟩:=nM (D.ts[j]);have be:Hid _:=M;have HLE:Hid (q[j]=tj):=C.t M;have b9:Hid (∀k,fpT tj k->fpD D k):=M▸ae;rw[M]at al av;clear ae b0 R C M;subst bc;go_wp2_with (apply Calls.m al;rintro e X3 ⟨rfl,t',ar,b8,ah,aq⟩);have ba:=Q.o.retx (i:=j) (t:=tj) (t':=t') H HLE.o b8 ar.b ah aq;refine⟨⟨j+1,q.set j t',by go_num,ω,HL.o.step hlt (be.o▸ar),ba,HF.o.t (ah.m (λk A=>.inl (b9.o k A))),λk A=>?_⟩,by simp[intOf];omega⟩;rcases Ie (D:={D.made u y (v+1) rt with ts:=q}) (i:=j) H HLE.o aq k A with h'|h'
    .exact HG.o k h'
    .exact .inr (vJ HF.o.size h')
   .obtain rfl:j=D.ts:=ω;go_wp2;go_ret;exact Or.inr ⟨0,_,rfl,Q.o,HF.o,HG.o,HR.o q ⟨HL.o.len,λi hi=>HL.o.done i hi hi⟩⟩
theorem Vr(d β:Nat)(t:Tx)(w:World)(a:eX w β t)(n:0<t.cs.length)(m:t.cs.length<=1000000)(f:∃c∈t.cs,c.key∈t.ks):
  cL 44 #[.p d 0,.p t.b 0] w λe w'=>e=.r (.i 7)/\bW w w':=by
 have h:cL 93 #[.p t.b 0] w λe w'=>e=.r (.bool true)/\bW w w':=by
  apply(wU β t w a ω).m;rintro e w' ⟨b,rfl,j,g⟩;rw[j.2 f];exact⟨rfl,g⟩
 have l:=(qQ a.box).2.2.2.2.1;go_enter func44,ntmps44;go_wp2_with (apply Calls.m h;rintro e k ⟨rfl,i⟩);go_ret;exact⟨rfl,i⟩
