import Derived.Test.YtdhgdcjmhofhaaaGreatD23
set_option linter.all false
set_option maxRecDepth 100000
set_option maxHeartbeats 8000000
namespace Go.Proofs.YtdhgdcjmhofhaaaGreat.Tree
open Go.RowKit Pages
variable {cs:List Ch} {fs:Fs}
def ovr:List En->List Ch->List En
 |[],cs=>dT cs
 |x :: es,cs=>dT (cs.take (dH cs x.e.key))++((if fnd cs x.e.key=true then [] else [x])++ovr es (cs.drop (dH cs x.e.key)))
def Kd:∀(es:List En) (a:List En×List Ch),(es.foldl oF a).1++dT (es.foldl oF a).2=a.1++ovr es a.2
 |[],a=>rfl
 |x :: es,a=>by
  rw[LX,Kd es (oF a x)];simp[oF,ovr,BU]
def nQ(es cs):bF es cs=ovr es cs:=by
 have:=Kd es ([],cs);simpa[bF,fT] using this
def cQ(es:List En):Prop:=es.Pairwise (λa b=>lt a.e.key b.e.key=true)
def Ew {d}:d∈dT cs↔∃c∈cs,c.gone=false/\d=chE c:=by
 unfold dT;grind
def Ck {k c}(h:c∈cs.take (dH cs k)):lt c.key k=true:=by
 obtain⟨a,d,rfl⟩:=AV h;rw[AY]at d;rw[List.getElem_take];have⟨_,b⟩:=uA (cs:=cs) (k:=k) (i:=a) (by omega);exact b
def qKc (b:cF cs){k c}(h:c∈cs.drop (dH cs k)):lt c.key k=false:=by
 obtain⟨d,a,rfl⟩:=AV h;rw[BE]at a;rw[GS];exact rA b (by omega) (by omega)
def Ct (m:cF cs)(k):fnd cs k=true↔∃c∈cs,c.key=k:=by
 unfold fnd;cases h:cs[dH cs k]? with
 |none =>
  simp only[EV,false_iff];rintro⟨c,a,rfl⟩;rw[ML]at h;obtain⟨j,f,rfl⟩:=AV a;have⟨_,b⟩:=uA (cs:=cs) (k:=cs[j].key) (i:=j) (by omega);rw[cI]at b;cases b
 |some c =>
  have⟨f,a⟩:=AD.1 h;have l:lt c.key k=false:=by rw[<-a];exact rA m (jU _) f
  simp only[LM];constructor
  .intro p
   exact⟨c,a▸AA f,lE l p⟩
  .rintro⟨d,n,rfl⟩
   obtain⟨g,o,rfl⟩:=AV n;rcases GT g (dH cs cs[g].key) with e|e|e
   .have⟨_,b⟩:=uA e
    rw[cI]at b;cases b
   .grind
   .have i:=BD.1 m _ g f o e
    grind
def zD (n){c:Ch}:c∈cs↔c∈cs.take n\/c∈cs.drop n:=by
 conv=>lhs;rw[<-CD n cs]
 grind
def uI:∀(es:List En) (cs:List Ch),cQ es->cF cs->∀d,d∈ovr es cs↔(∃c∈cs,c.gone=false/\d=chE c)\/(d∈es/\∀c∈cs,c.key≠d.e.key)
 |[],cs,_,_,d=>by simp only[ovr,Ew,FK,false_and,KT]
 |x :: es,cs,he,hr,d=>by
  have n:cF (cs.drop (dH cs x.e.key)):=GY (FH _ _) hr;have⟨o,m⟩:=BG.1 he;simp only[ovr,AO,Ew,uI es _ m n d];have k:=Ct hr x.e.key;constructor
  .rintro(⟨c,a,g,rfl⟩|b|⟨c,a,g,rfl⟩|⟨b,h⟩)
   .grind
   .grind
   .grind
   .refine .inr ⟨KU _ b,λc a f=>?_⟩
    rcases(zD (dH cs x.e.key)).1 a with e|e
    .have j:=eY (Ck e) (o d b);rw[f,cI]at j;cases j
    grind
  .rintro(⟨c,a,g,rfl⟩|⟨b,h⟩)
   .rcases(zD (dH cs x.e.key)).1 a with e|e
    .grind
    grind
   grind
def Ja (a:cF cs):cQ (dT cs):=by
 unfold dT cQ;rw[EO];exact EM _ a
def sN:∀(es:List En) (cs:List Ch),cQ es->cF cs->cQ (ovr es cs)
 |[],cs,_,hr=>Ja hr
 |x :: es,cs,he,hr=>by
  have l:cF (cs.drop (dH cs x.e.key)):=GY (FH _ _) hr;have⟨o,k⟩:=BG.1 he;have m:∀e∈ovr es (cs.drop (dH cs x.e.key)),lt e.e.key x.e.key=false/\(fnd cs x.e.key=false->lt x.e.key e.e.key=true):=by
   intro e g;rcases(uI es _ k l e).1 g with⟨c,h,_,rfl⟩|⟨g,_⟩
   .have j:=qKc hr h
    refine⟨j,λi=>?_⟩;cases h2:lt x.e.key c.key with
    |true=>exact h2
    |false =>
     have:=(Ct hr x.e.key).2 ⟨c,BS h,lE j h2⟩;grind
   .exact⟨Ex (o e g),λ_=>o e g⟩
  have n:∀e∈dT (cs.take (dH cs x.e.key)),lt e.e.key x.e.key=true:=by
   intro e g;obtain⟨c,h,_,rfl⟩:=Ew.1 g;exact Ck h
  simp only[ovr];refine CO.2 ⟨Ja (GY (FU _ _) hr),CO.2 ⟨by split<;>simp,sN es _ k l,by grind⟩,?_⟩
  .intro a f b d
   rcases AO.1 d with d|d
   .grind
   .exact cA (n a f) (El.1 (m b d).1)
def oJ{o}:∀(s:Sp) (ks:List ByteArray) (c:List o),c.length=ks.length+1->ks.Pairwise (λa b=>lt a b=true)->(∀k∈ks,lt s.lo k=true/\Sp.below s.hi k=true)->(parts s ks c).Pairwise (λx d=>x.2.hi≠⟨#[]⟩/\le x.2.hi d.2.lo=true)
 |s,_,[],hl,_,_=>by simp at hl
 |s,[],k :: c,hl,_,_=>by
  have:=AH (by simpa using hl);subst this;simp[parts]
 |s,q :: ks,k :: c,hl,hp,hb=>by
  have⟨m,h⟩:=BG.1 hp;have⟨e,p⟩:=hb q (by simp);have g:c.length=ks.length+1:=by grind
  have f:∀x∈ks,lt q x=true/\Sp.below s.hi x=true:=λx i=>⟨m x i,(hb x (by simp[i])).2⟩;simp only[parts];refine BG.2 ⟨λd n=>⟨λj=>?_,(sU ⟨q,s.hi⟩ ks c g h f d n).1⟩,oJ ⟨q,s.hi⟩ ks c g h f⟩;have l:q=⟨#[]⟩:=j;rw[l,Vb]at e;cases e
def eB:∀{h:Nat}{t:T}{s:Sp},aV fs h t s->cQ (T.ents h t)
 |0,.leaf p es,s,ht=>by
  have⟨g,u,k,r,_⟩:=ht;have:=(Qr u k).1;rw[r,EO]at this;exact this
 |0,.branch _ _ _,s,ht=>by simp[T.ents,cQ]
 |h+1,.leaf _ _,s,ht=>by simp[aV]at ht
 |h+1,.branch p ks kids,s,ht=>by
  have⟨d,l,i,_,q⟩:=dO ht;have y:∀(e:List (T×Sp)),(∀c∈e,aV fs h c.1 c.2)->e.Pairwise (λc f=>c.2.hi≠⟨#[]⟩/\le c.2.hi f.2.lo=true)->cQ ((e.map (·.1)).flatMap (T.ents h)):=by
   intro e d l;induction e with
   |nil=>exact .nil
   |cons c e ih =>
    have⟨x,v⟩:=BG.1 l;rw[BH,AK];refine CO.2 ⟨eB (d c (by simp)),ih (λf j=>d f (by simp[j])) v,?_⟩;intro a o b i;have⟨C,k,i⟩:=AX.1 i;obtain⟨f,j,rfl⟩:=AW.1 k;have⟨A,B⟩:=x f j;have m:=gQ (d c (by simp)) a o;have n:=gQ (d f (by simp[j])) b i;unfold Sp.has at m n;rw[AP]at m n;have z:lt a.e.key c.2.hi=true:=by
     rcases gD.1 m.2 with h|h
     .grind
     .exact h
    exact cA (cA z B) n.1
  have:=y _ q (oJ s ks kids d l i);rw[jG]at this;simpa only[T.ents] using this
def aU:Option (Nat×T)->List En
 |none=>[]
 |some (h,t)=>T.ents h t
def vM {root o}(a:bQ fs root o)(q):cU q o=(aU o).filter (λx=>q.has x.e.key):=by
 cases o with
 |none=>rfl
 |some x=>exact Oi q a.2.2
def eL {root o}(a:bQ fs root o):cQ (aU o):=by
 cases o with
 |none=>exact .nil
 |some x=>exact eB a.2.2
open Go.Shelf
attribute [local go_sem] CM
def qJs{b P g a}{Has:b->Array Value->Bl->World->Prop}{xs Rd w w'}(h:nH P g a Has xs Rd w)(f:On Rd w w'):nH P g a Has xs Rd w' :=
 λj c d e W i=>h j c d e W (f.t i)
def aT(es:List En):List Value:=(es.map (·.e)).flatMap Ent.cells
def Rr(es x):aT (es++[x])=aT es++x.e.cells:=by simp[aT]
def Nj(bs ea ec es S Rd w)(xs:cW w bs #[.s ea es.length ec] 67)(hR:aH w S ea (aT es))(hn:es.length<=1000000)(hc:es.length<=ec)(r1:Rd bs)(rs:∀k,S k->Rd k):
  nH Tryz.prog 214 #[.p bs 0] pL es Rd w:=by
 intro l J Jx Y W A B sJ lJ a2 Z hY h0;refine KB Tryz.func214 rfl trivial ?_ rfl;simp only[Tryz.ntmps214,jA,jB,jN,Nat.reduceAdd,Nat.reduceSub,jR,jO,jP,jT,jE,jF];have c0:W.c bs 0=some (.s ea es.length ec):=by simp[World.cell?,A.heap xs r1]
 have Q:=hR.on (A.m rs);gi_wp2;gi_loopw [7] (λi wr=>∃(j:Nat) (z:Bl),j<=es.length/\i=.i j/\J (es.take j) z wr/\Fr Y W wr/\aJ W Y z) (λi _=>es.length-(intOf i).toNat)
 case atStart=>exact⟨0,Y,AG _,rfl,by simpa using h0,AE _ _,CR _ _⟩
 case round =>
  obtain⟨j,z,hj,rfl,o,q,n⟩:=hrel;by_cases hlt:j<es.length
  .have C:j<(es.map (·.e)).length:=by simpa using hlt
   have⟨rb,ro,N,a1,k0,k1,k2,k3⟩:=(Q.on (q.on (λk I=>⟨(B k (rs k I)).2,(B k (rs k I)).1⟩))).ent C;subst N;have⟨X,G⟩:=nM (es[j]);simp only[EJ,G]at k0 k1 k2 k3;obtain⟨Wa,L,-,xa,-⟩:=al1 wr (.cells #[.t X.e.key,.t X.e.val,.i X.e.size,.i X.e.over] 69);have⟨g0,g1,g2,g3⟩:=kA xa;have O:Fr Bl.none wr Wa:=L▸(AE _ wr).alloc _;have y:es=es.take j++X :: es.drop (j+1):=by rw[<-G];exact sM (jQ hlt)
   have D:es.take (j+1)=es.take j++[X]:=by rw[<-G];exact AN hlt
   have a0:Hid (es=es.take j++X :: es.drop (j+1)):=y;have E:Hid (es.take (j+1)=es.take j++[X]):=D;have F:Fr Y W Wa:=q.t (O.m (λ_ h=>h.elim));have⟨fn,T,K,R,hy,M⟩:=hY _ X _ #[.agg #[.t X.e.key,.t X.e.val,.i X.e.size,.i X.e.over]] Bl.none z Wa y (sJ _ _ _ _ o (O.on (λk I=>⟨(lJ _ _ _ o) k I,λh=>h⟩))) rfl (λ_ h=>h.elim) F n;clear y D G hR Q;gi_wp2;refine⟨rfl,(eT M).m ?_⟩;rintro e V (⟨rfl,H,v,r,u⟩|⟨rfl,H,v,r,u⟩)
   .have HN:Hid (J (es.take (j+1)) H V):=by rw[E.o];exact v
    gi_wp2;go_roundw
    case rel=>exact⟨j+1,H,by omega,by go_num,HN,F.grow r n,n.t F.size u⟩
    case measure=>simp[intOf];omega
   .gi_wp2
    apply BI (EN rfl _ _ _) rfl;exact⟨⟨_,rfl⟩,H,F.grow r n,n.t F.size u,.inr ⟨_,by rw[<-E.o];exact JU _ _,by simp,v⟩⟩
  .obtain rfl:j=es.length:=by omega
   have U:Hid (J es z wr):=by rw[BK]at o;exact o
   gi_wp2;go_end0;exact⟨⟨_,rfl⟩,z,q,n,.inl U⟩
def Fq:(Tryz.prog.info? 69).map (λi=>(i.zero,i.size,i.bytes))=some (some (.agg #[.e,.e,.i 0,.i 0]),4,48):=Za
def Ib(gf:Nat)(lb)(eg:∀args w,(callFunc gf args).run Tryz.prog w=.ok (.enter gf args) w)(xs Re w)(hseq:nH Tryz.prog gf lb pL xs Re w)(hRe:lW Re w)(hn:xs.length<=1000000):
  cL 204 #[.n,.func (.func gf) #[] lb] w λe w'=>∃v,e=.r v/\w'.ownsRow 0 69 4 v xs.length (aT xs)/\bW w w'/\nW v w:=by
 refine(AZ (n:=0)).1 (BX Tryz.func204 rfl trivial ?_ rfl);simp only[Tryz.ntmps204,jA,jB,jN,Nat.reduceAdd,Nat.reduceSub,jR,jO,jP,jT,jE,jF];obtain⟨W1,U,-,N,-⟩:=al1 w (.cells #[.n] 67);have f1:Fr Bl.none w W1:=U▸(AE _ w).alloc _;have z1:w.heap.size<W1.heap.size:=(gL N);gi_wp2;let b:=w.heap.size;let I:List En->Bl->World->Prop:=λo Y W=>∃v,W.heap[b]?=some (.cells #[v] 67)/\W.ownsRow 0 69 4 v o.length (aT o)/\(∀k,Y k↔k=b\/v.ownBlock=some k)/\(∀k,v.ownBlock=some k->w.heap.size<=k);refine fI (P:=Tryz.prog) (Has:=pL) (Rd:=Re) rfl eg (qJs hseq (f1.on (λk t=>⟨hRe k t,λh=>h⟩))) (λx args S W M=>by rw[show args=_ from M];rfl) I (λ_ _ _ _=>False) ?_ (λ_ _ _ _ _ h=>h.elim) ?_ (λ_ _ _ _ h=>h.elim) (Bl.one b) ⟨.n,N,by simpa[aT] using AL _ _ _ _,λk=>by simp[Bl.one,Value.ownBlock],by simp[Value.ownBlock]⟩ ?_ ?_ ?_ (λ_ _ _ _ _ _ _ _ _ h=>h.elim)
 .intro o Y A B ⟨v,z,y,u,F⟩ ho
  exact⟨v,ho.heap z ((u _).2 (.inl rfl)),aS y ho (λk t=>(u k).2 (.inr t)),u,F⟩
 .intro o Y A ⟨v,z,y,u,F⟩ k t
  rcases(u k).1 t with rfl|h
  .exact(gL z)
  .exact aK y h
 .intro k t
  exact⟨λh=>by simp only[Bl.one,b]at h;have:=hRe k t;omega,by have:=hRe k t;omega⟩
 .intro l o x a0 args S Y' W hx ⟨v,z,y,u,F⟩ M hS C O a2 V H ⟨r,hr⟩
  have L:args=#[.agg #[.string x.e.key,.string x.e.val,.i x.e.size,.i x.e.over]]:=M;subst L;have a4:o.length<1000000:=by have:=CI List.length hx;simp at this;omega
  clear hx;unfold iY;gi_wp2;refine⟨(AE _ W).alloc _,?_⟩;intro W₂ hT;have⟨m0,m1,m2,m3⟩:=kA (hT.heap (k:=W.heap.size) (aC W (.cells #[.string x.e.key,.string x.e.val,.i x.e.size,.i x.e.over] 69)) (DL V));have aW:Fr Bl.none W (W.alloc (.cells #[.string x.e.key,.string x.e.val,.i x.e.size,.i x.e.over] 69)):=(AE _ W).alloc _;have X:Fr (Bl.one l) W W₂:=(aW.m (λ_ h=>h.elim)).t hT.fr;have K:=X.heap z (λh=>by simp only[Bl.one]at h;exact H ((u _).2 (.inl h.symm)));have R:W₂.ownsRow 0 69 4 v o.length (aT o):=aS y (X.on (Z:=λk=>v.ownBlock=some k) (λk t=>⟨aK y t,λh=>by simp only[Bl.one]at h;subst h;exact H ((u _).2 (.inr t))⟩)) (λk t=>t);have c2:W₂.c w.heap.size 0=some v:=by
   have:W₂.heap[w.heap.size]?=_:=K;simp[World.cell?,this]
  obtain⟨a,c,rfl⟩:=aG R;have zb:b<W₂.heap.size:=(gL K);gi_wp2_with (gi_at_builtin;apply Ik W₂ rfl (.tmp 8) (.tmp 10) 67 69 _ 4 48 rfl Tryz.underlying67 Fq rfl (by decide) (.slice a o.length c) o.length (aT o) rfl R [.string x.e.key,.string x.e.val,.i x.e.size,.i x.e.over] rfl rfl (by simp[Value.oneCell']) (by omega) (by omega);intro v3 W₃ E;obtain⟨Q,k3,rfl⟩:=E.shape (by decide);have J:=E.fr.heap K (aP R K (by decide));have c3:W₃.c w.heap.size 0=some (.slice a o.length c):=(by have:W₃.heap[w.heap.size]?=_:=J;simp[World.cell?,this]);have a1:∀k,W₃.frozen? (aD w.heap.size k)=false:=aA (show W₃.heap[w.heap.size]?=_ from J));have b4:=aB (show W₃.heap[w.heap.size]?=_ from J) 0 (.q Q (o.length+1) k3);refine⟨λk=>k=b\/Q=k,⟨.q Q (o.length+1) k3,by simpa using b4,?_,λk=>by simp[Value.ownBlock],?_⟩,?_,?_⟩
  .rw[jK,AM,Rr]
   exact aS E.row ((CN (λk=>Value.ownBlock _=some k) W₃).setCell (p:=(aD w.heap.size 0)) (λt=>aP E.row (show W₃.heap[w.heap.size]?=_ from J) (by decide) t) _) (λk t=>t)
  .intro k t
   rcases E.lies k t with h|h
   .exact F k h
   .have:w.heap.size<W₂.heap.size:=zb;omega
  .have FA:Fr Y' W₂ W₃:=E.fr.m (λk t=>.inl ((u k).2 (.inr t)))
   exact FA.s w.heap.size 0 (.inl ((u _).2 (.inl rfl)))
  .rintro k (rfl|t)
   .exact .inl ((u _).2 (.inl rfl))
   .rcases E.lies k (by simp[Value.ownBlock,t]) with h|h
    .exact .inl ((u k).2 (.inr h))
    .exact .inr h
 .intro D Y' W hD a3 ⟨v,z,y,u,F⟩ C O T
  have c1:W.c w.heap.size 0=some v:=by
   have:W.heap[w.heap.size]?=_:=z;simp[World.cell?,this]
  obtain⟨a,c,rfl⟩:=aG y;have hm:Marks w.heap.size [mk D] W:=(FQ w.heap.size W1).cons (λD' _ h=>C.heap h (λe=>by simp only[Bl.one,b]at e;subst e;rw[N]at h;simp at h)) (by omega) T hD;gi_wp2;apply Rn rfl hm;intro w' G;exact⟨_,rfl,sW y G,((f1.m (λ_ h=>h.elim)).t C |>.took G (jU _)).below (jU _) (λk t=>by simp only[Bl.one,b]at t;omega),F⟩
def Bu(a:Nat)(c)(d:∀args w,(callFunc a args).run Tryz.prog w=.ok (.enter a args) w)(xs b w)(m:nH Tryz.prog a c pL xs b w)(j:lW b w)(l:xs.length<=1000000):
  cL 190 #[.func (.func a) #[] c] w λe w'=>∃v,e=.r v/\w'.ownsRow 0 69 4 v xs.length (aT xs)/\bW w w'/\nW v w:=by
 go_enter Tryz.func190,Tryz.ntmps190;go_wp2_with (go_at_call 204;apply (Ib a c d xs b w m j l).m;rintro e n ⟨v,rfl,f,g,h⟩);go_ret;exact⟨_,rfl,f,g,h⟩
variable {S:Bl} {a:Option Addr} {b c d:Type} {fs:Fs} {j p z:Nat} {w:World}
def tot{α:Type}(sz:α->Nat)(l:List α):Nat:=(l.map sz).sum
def La (a:b->Nat):tot a []=0:=rfl
def cK (a x)(l:List b):tot a (x :: l)=a x+tot a l:=by simp[tot]
def qY (a)(l m:List b):tot a (l++m)=tot a l+tot a m:=by simp[tot]
def lP (a)(l:List b)(j)(h:j<l.length):tot a (l.take (j+1))=tot a (l.take j)+a l[j]:=by
 rw[AN h,qY];simp[tot]
def yM (a:b->Nat)(l j):tot a l=tot a (l.take j)+tot a (l.drop j):=by
 rw[<-qY,CD]
def pN (a)(l:List b)(m:Nat)(h:∀x∈l,a x<=m):tot a l<=l.length * m:=by
 induction l with
 |nil=>simp[tot]
 |cons x l ih =>
  rw[cK,jB,JG];grind
def shN{α:Type}(sz:α->Nat)(all:Nat):List α->Nat->Nat
 |[],_=>0
 |x :: l,f=>if 2 * f+sz x<=all/\f+sz x<=250 then shN sz all l (f+sz x)+1 else 0
def vF (a b):∀(l:List c) (f:Nat),shN a b l f<=l.length
 |[],_=>by simp[shN]
 |x :: l,f=>by
  simp only[shN];have:=vF a b l (f+a x);split<;>simp<;>omega
def Dq (a b):∀(l:List d) (f j:Nat),j<=shN a b l f->(c:j<l.length)->(j<shN a b l f↔(2 * (f+tot a (l.take j))+a l[j]<=b/\f+tot a (l.take j)+a l[j]<=250))
 |[],_,_,_,c=>by simp at c
 |x :: l,f,0,_,_=>by
  simp only[shN,List.take_zero,La,DW,CX];split<;>simp_all
 |x :: l,f,j+1,h,c=>by
  simp only[shN]at h⊢;split at h
  .rename_i hc
   rw[AU hc,EQ,cK,DI,<-FN];have:=Dq a b l (f+a x) j (by omega) (by grind);omega
  .omega
def uD (a b):∀(l:List c) (f:Nat),f<=250->f+tot a (l.take (shN a b l f))<=250
 |[],f,h=>by simpa[shN,tot] using h
 |x :: l,f,h=>by
  simp only[shN];split
  .rename_i hc
   rw[EQ,cK,<-FN];exact uD a b l _ hc.2
  .simpa[tot] using h
def yO (a)(b:Nat)(l:List d)(e:250<tot a l):shN a b l 0<l.length:=by
 rcases BR (shN a b l 0) l.length with c|c
 .exact c
 .have:=uD a b l 0 (by omega)
  rw[CQ c]at this;omega
def rB (a)(l:List b)(c:250<tot a l)(d:∀x∈l,a x<=250):0<shN a (tot a l) l 0:=by
 cases l with
 |nil=>simp[tot]at c
 |cons x l =>
  simp only[shN];grind
def lH{α:Type}(sz:α->Nat):Nat->List α->List (List α)
 |0,_=>[]
 |k+1,l=>if tot sz l<=250 then (if l.length=0 then [] else [l]) else l.take (shN sz (tot sz l) l 0):: lH sz k (l.drop (shN sz (tot sz l) l 0))
def Kn (a):∀(k:Nat) (l:List b),(∀x∈l,a x<=250)->l.length<k->(lH a k l).flatten=l
 |0,l,_,h=>by omega
 |k+1,l,hs,h=>by
  simp only[lH];split
  .grind
  .rename_i hb
   have e:=rB a l (by omega) hs;have d:=vF a (tot a l) l 0;rw[FI,Kn a k _ (λx c=>hs x (BS c)) (by grind),CD]
def Zg (b):∀(k:Nat) (l:List d),(∀x∈l,b x<=250)->∀p∈lH b k l,p≠[]
 |0,l,_,p,a=>by simp[lH]at a
 |k+1,l,hs,p,a=>by
  simp only[lH]at a;split at a
  .grind
  .rename_i hb
   have g:=rB b l (by omega) hs;have f:=vF b (tot b l) l 0;rcases AS.1 a with rfl|a
   .intro c
    have:=CI List.length c;grind
   .exact Zg b k _ (λx e=>hs x (BS e)) p a
def Sa (b):∀(k:Nat) (l:List c),∀p∈lH b k l,tot b p<=250
 |0,l,p,a=>by simp[lH]at a
 |k+1,l,p,a=>by
  simp only[lH]at a;split at a
  .grind
  .rcases AS.1 a with rfl|a
   .have:=uD b (tot b l) l 0 (by omega);omega
   .exact Sa b k _ p a
def Km (a):∀(k b:Nat) (l:List c),(∀x∈l,a x<=250)->l.length<k->l.length<b->lH a k l=lH a b l
 |0,_,l,_,h,_=>by omega
 |_,0,l,_,_,h=>by omega
 |k+1,b+1,l,hs,h,h'=>by
  simp only[lH];split
  .rfl
  .rename_i hb
   have f:=rB a l (by omega) hs;have e:=vF a (tot a l) l 0;rw[Km a k b _ (λx d=>hs x (BS d)) (by grind) (by grind)]
def dV{α:Type}(sz:α->Nat)(l:List α):List (List α):=lH sz (l.length+1) l
def zR (a)(l:List c)(b:∀x∈l,a x<=250)(e:250<tot a l):dV a l=l.take (shN a (tot a l) l 0):: dV a (l.drop (shN a (tot a l) l 0)):=by
 have g:=rB a l (by omega) b;have f:=vF a (tot a l) l 0;show lH a (l.length+1) l=_;simp only[lH];rw[AR (by omega)];congr 1;exact Km a _ _ _ (λx d=>b x (BS d)) (by grind) (by omega)
def jL (a)(l:List b)(c:tot a l<=250):dV a l=if l.length=0 then [] else [l]:=by
 show lH a (l.length+1) l=_
 simp only[lH];rw[AU c]
def mA (a:b->Nat)(l:List b)(c:∀x∈l,a x<=250):(dV a l).flatten=l:=Kn a _ l c (by omega)
def xZ (a:b->Nat)(l:List b)(c:∀x∈l,a x<=250):∀p∈dV a l,p≠[]:=Zg a _ l c
def Ry (a:b->Nat)(l:List b):∀p∈dV a l,tot a p<=250:=Sa a _ l
def esz(x:En):Nat:=if 60<x.e.size then x.e.key.size+6 else x.e.key.size+x.e.val.size+3
def vA(x w)(i:x.e.key.size<=1000000)(j:x.e.val.size<=1000000):
  cL 203 #[.agg #[.t x.e.key,.t x.e.val,.i x.e.size,.i x.e.over]] w λe w'=>e=.r (.i (esz x))/\bW w w':=by
 obtain⟨a,h,g,-⟩:=al1 w (.cells #[.t x.e.key,.t x.e.val,.i x.e.size,.i x.e.over] 69);have⟨k,l,m,n⟩:=kA (h▸aC w _:cW a w.heap.size #[.t x.e.key,.t x.e.val,.i x.e.size,.i x.e.over] 69);have c:60<x.e.size->esz x=x.e.key.size+6:=λf=>AU f;have d:¬60<x.e.size->esz x=x.e.key.size+x.e.val.size+3:=λf=>AR f;go_enter Tryz.func203,Tryz.ntmps203;by_cases hs:60<x.e.size
 .have b:Hid (esz x=x.e.key.size+6):=c hs
  clear c d;go_wp2;go_ret;exact⟨by rw[b.o];first|rfl|(congr 2;go_num),g⟩
 .have b:Hid (esz x=x.e.key.size+x.e.val.size+3):=d hs
  clear c d;go_wp2;go_ret;exact⟨by rw[b.o];first|rfl|(congr 2;go_num),g⟩
def En.fits(x:En):Prop:=x.e.key.size<=24/\x.e.val.size<=400
def qS{x}(h:x.fits):esz x<=427:=by unfold esz;have:=h.1;have:=h.2;split<;>omega
def Dk(ea ec es S w)(hR:aH w S ea (aT es))(hS:lW S w)(hn:es.length<=1000000)(hc:es.length<=ec)(hf:∀x∈es,x.fits):
  cL 212 #[.s ea es.length ec,.func (.func 203) #[] #[]] w λe w'=>e=.r (.i (tot esz es))/\bW w w':=by
 go_enter Tryz.func212,Tryz.ntmps212;go_wp2;go_loopw [5,10] (λa b wr=>∃j:Nat,a=.i (tot esz (es.take j))/\b=.i j/\j<=es.length/\bW w wr) (λ_ b _=>es.length-(intOf b).toNat)
 case atStart=>exact⟨0,by simp[tot],rfl,AG _,AC _ _⟩
 case round =>
  obtain⟨j,rfl,rfl,Y,p⟩:=hrel;by_cases hlt:j<es.length
  .have k:j<(es.map (·.e)).length:=by simpa using hlt
   have⟨Z,T,A,H,M,N,I,L⟩:=(hR.on (vV p hS)).ent k;subst A;have⟨X,v⟩:=nM (es[j]);simp only[EJ,v]at M N I L;have g:X.fits:=v▸hf _ (AA hlt);obtain⟨Wa,q,-,G,-⟩:=al1 wr (.cells #[.t X.e.key,.t X.e.val,.i X.e.size,.i X.e.over] 69);have⟨V,R,U,O⟩:=kA G;have C:bW w Wa:=q▸p.alloc p.size _;have D:=vA X Wa (by have:=g.1;omega) (by have:=g.2;omega);have l:tot esz (es.take (j+1))=tot esz (es.take j)+esz X:=by rw[<-v];exact lP esz es j hlt
   have K:=l;have F:=pN esz (es.take j) 427 (λx E=>qS (hf x (DC E)));have o:tot esz (es.take j)<=427000000:=by
    have:(es.take j).length<=1000000:=by rw[AY];omega
    omega
   have y:=qS g;have⟨n,f⟩:=nM (tot esz (es.take j));have⟨m,u⟩:=nM (esz X);rw[f]at o;rw[u]at y;simp only[u]at D;have J:Hid (tot esz (es.take (j+1))=n+m):=by rw[l,f,u];exact rfl
   have Q:=f;simp only[f];go_wp2_with (go_at_call 203;apply D.m;rintro e W ⟨rfl,z⟩);go_roundw
   case rel=>exact⟨j+1,by rw[J.o];congr 1,by go_num,by omega,C.t (z.m C.size)⟩
   case measure=>simp[intOf];omega
  .obtain rfl:j=es.length:=by omega
   have B:Hid (tot esz (es.take es.length)=tot esz es):=by rw[BK];exact rfl
   go_wp2;go_ret;exact⟨by first|rfl|(rw[<-B.o];rfl)|(rw[B.o];rfl)|(simp[B.o];done),p⟩
def Lo{a a' b c:Nat}(d:a=a')(e:b=c):Ending.returned (.tuple #[.i a,.i b])=.r (.tuple #[.i a',.i c]):=by rw[d,e]
def Ty(ea ec es)(all:Nat)(S w)(hR:aH w S ea (aT es))(hS:lW S w)(hn:es.length<=1000000)(hc:es.length<=ec)(hf:∀x∈es,x.fits)(ha:250<tot esz es)(ha2:all<=427000000):
  cL 213 #[.s ea es.length ec,.func (.func 203) #[] #[],.i all] w λe w'=>e=.r (.tuple #[.i (shN esz all es 0),.i (tot esz (es.take (shN esz all es 0)))])/\bW w w':=by
 go_enter Tryz.func213,Tryz.ntmps213;go_wp2;go_loopw [8,9] (λa b wr=>∃j:Nat,b=.i (tot esz (es.take j))/\a=.i j/\j<=shN esz all es 0/\bW w wr) (λa _ _=>es.length-(intOf a).toNat)
 case atStart=>exact⟨0,by simp[tot],rfl,AG _,AC _ _⟩
 case round =>
  obtain⟨j,rfl,rfl,Z,z⟩:=hrel;have y:=Nat.lt_of_le_of_lt Z (yO esz all es ha);have g:=Dq esz all es 0 j Z y;have C:j<(es.map (·.e)).length:=by simpa using y
  obtain⟨L,K,U,p,I,D,F,H⟩:=(hR.on (vV z hS)).ent C;subst U;have v:=lP esz es j y;have q:=hf _ (AA y);obtain⟨X,V⟩:=nM (es[j]);simp only[EJ,V]at I D F H v q g;have M:=qS q;have T:=uD esz all es 0 (by omega);obtain⟨n,u⟩:=nM (tot esz (es.take j));obtain⟨m,J⟩:=nM (esz X);have a0:n<=427000000:=by
   have h1:=pN esz (es.take j) 427 (λx hx=>qS (hf x (DC hx)));have h2:(es.take j).length<=1000000:=by rw[AY];omega
   omega
  simp only[u,DS,J]at g v M⊢;have HM:Hid (tot esz (es.take (j+1))=n+m):=v;have HN:Hid (tot esz (es.take j)=n):=u;have HX:Hid (esz X=m):=J;have R:Hid (j<shN esz all es 0↔2 * n+m<=all/\n+m<=250):=g;have E:∀W,bW wr W->On S wr W:=λW B=>vV B (λk hk=>jY (hS k hk) z.size);have N:Hid (∀W,bW wr W->W.c L (K+j * 4)=some (.t X.e.key)/\W.c L (K+j * 4+1)=some (.t X.e.val)/\W.c L (K+j * 4+2)=some (.i X.e.size)/\W.c L (K+j * 4+3)=some (.i X.e.over)):=λW B=>⟨(E W B).cell _ p |>.trans I,(E W B).cell _ p |>.trans D,(E W B).cell _ p |>.trans F,(E W B).cell _ p |>.trans H⟩;have O:Hid (∀W,cL 203 #[.agg #[.t X.e.key,.t X.e.val,.i X.e.size,.i X.e.over]] W λe w'=>e=.r (.i m)/\bW W w'):=λW=>by have h:=vA X W (by have:=q.1;omega) (by have:=q.2;omega);rw[J]at h;exact h
  have f:bW wr wr:=AC _ _;have A:¬j<shN esz all es 0->Hid (shN esz all es 0=j/\tot esz (es.take (shN esz all es 0))=n):=λh=>by
   have e:shN esz all es 0=j:=by omega
   exact⟨e,by rw[e,u]⟩
  clear v V hR u J T E;by_cases hle1:2 * n+m<=all
  .have Q:2 * (n:Int)+(m:Int)<=(all:Int):=by omega
   by_cases hle:n+m<=250
   .have G:(n:Int)+(m:Int)<=250:=by omega
    clear A g;go_wp2_with (go_at_call 203;refine Calls.m (O.o _) ?_;rintro e Y ⟨rfl,o⟩;have f:=f.t (o.m f.size);obtain⟨I,D,F,H⟩:=N.o _ f);go_roundw
    case rel=>exact⟨j+1,by rw[HM.o];congr 1,by go_num,R.o.2 ⟨hle1,hle⟩,z.t (f.m z.size)⟩
    case measure=>simp[intOf];omega
   .have G:¬(n:Int)+(m:Int)<=250:=by omega
    have l:=A (λh=>hle (g.1 h).2);go_wp2_with (go_at_call 203;refine Calls.m (O.o _) ?_;rintro e Y ⟨rfl,o⟩;have f:=f.t (o.m f.size);obtain⟨I,D,F,H⟩:=N.o _ f);go_ret2;exact⟨Lo l.o.1.symm l.o.2.symm,z.t (f.m z.size)⟩
  .have Q:¬2 * (n:Int)+(m:Int)<=(all:Int):=by omega
   have l:=A (λh=>hle1 (g.1 h).1);go_wp2_with (go_at_call 203;refine Calls.m (O.o _) ?_;rintro e Y ⟨rfl,o⟩;have f:=f.t (o.m f.size);obtain⟨I,D,F,H⟩:=N.o _ f);go_ret2;exact⟨Lo l.o.1.symm l.o.2.symm,z.t (f.m z.size)⟩
structure Pc (α:Type) where
 a:Option Addr
 c:Nat
 l:List α
def Pc.val{α:Type}(q:Pc α):Value:=.slice q.a q.l.length q.c
def Gf {g:b->List Value}(l:List b)(a:∀x∈l,(g x).length=z):(l.flatMap g).length=l.length * z:=by
 induction l with
 |nil=>simp
 |cons x l ih =>
  rw[AK,jK,ih (λd c=>a d (by simp[c])),a x (by simp),jB,JG];omega
def aH.takeZ {e:Type}{g}{z:Nat}{l:List e}(n)(h:aH w S a (l.flatMap g)):aH w S a ((l.take n).flatMap g):=by
 have c:l.flatMap g=(l.take n).flatMap g++(l.drop n).flatMap g:=by rw[<-BV,CD]
 rcases h with h|⟨b,m,f,j,i⟩
 .rw[c]at h
  exact .inl (ER.1 h).1
 .refine .inr ⟨b,m,f,j,λk o d=>i k o ?_⟩
  rw[c,BO (AD.1 d).1];exact d
def aH.dropZ {e:Type}{g b a}{l:List e}(n)(p:∀x∈l,(g x).length=z)(h:aH w S (some (aD b a)) (l.flatMap g))(j:n<=l.length):aH w S (some (aD b (a+n * z))) ((l.drop n).flatMap g):=by
 have c:l.flatMap g=(l.take n).flatMap g++(l.drop n).flatMap g:=by rw[<-BV,CD]
 have f:((l.take n).flatMap g).length=n * z:=by rw[Gf _ (λx o=>p x (DC o)),AY,GL j]
 rcases h with h|⟨s,t,d,k,i⟩
 .rw[c]at h
  exact .inl (ER.1 h).2
 .simp only[BB,CC,DD]at d
  obtain⟨rfl,rfl⟩:=d;refine .inr ⟨b,a+n * z,rfl,k,λq r m=>?_⟩;have:=i (n * z+q) r (by rw[c,BC (by omega),f];simpa using m);rw[FN];exact this
def tP(es):aT es=es.flatMap (λx=>x.e.cells):=by
 simp[aT,JV]
def Rq(es:List En):∀x∈es,((λx:En=>x.e.cells) x).length=4:=λx _=>rfl
def aH.addr {d}(h:aH w S a d)(g:d≠[]):∃b c,a=some (aD b c)/\S b:=by
 rcases h with h|⟨b,c,e,f,_⟩
 .exact(g h).elim
 .exact⟨b,c,e,f⟩
def zN{es}(h:0<es.length):aT es≠[]:=by
 cases es with
 |nil=>simp at h
 |cons x l=>simp[aT,Ent.cells]
def Qp:(Tryz.prog.info? 67).map (λi=>(i.zero,i.size,i.bytes))=some (some .n,1,24):=by kernel_rfl
def qNe(w:World)(S:Bl)(v:Value)(ps:List (List En)):Prop :=
 ∃qs:List (Pc En),w.ownsRow 0 67 1 v qs.length (qs.map Pc.val)/\qs.map (·.l)=ps/\∀q∈qs,q.l.length<=q.c/\aH w S q.a (aT q.l)
def qHq(ea ec es S w)(hR:aH w S ea (aT es))(hS:lW S w)(hn:es.length<=1000000)(hc:es.length<=ec)(hf:∀x∈es,x.fits)(h250:∀x∈es,esz x<=250):
  cL 202 #[.s ea es.length ec,.func (.func 203) #[] #[]] w λe w'=>∃v,e=.r v/\qNe w' S v (dV esz es)/\bW w w'/\nW v w:=by
 have hT:=Dk ea ec es S w hR hS hn hc hf;have I:∀r:List En,(∀x∈r,x∈es)->r.length<=es.length->tot esz r<=427000000:=λr hr hl=>by
  have:=pN esz r 427 (λx hx=>qS (hf x (hr x hx)));omega
 go_enter Tryz.func202,Tryz.ntmps202;go_wp2_with (go_at_call 212;apply hT.m;rintro e w1 ⟨rfl,a9⟩);go_loopw [0,5,6] (λa p t wr=>∃(r:List En) (ra:Option Addr) (y:Nat) (u:List (Pc En)),a=.slice ra r.length y/\r.length<=y/\t=.i (tot esz r)/\aH w S ra (aT r)/\(∀x∈r,x∈es)/\r.length<=es.length/\u.length+r.length<=es.length/\dV esz es=u.map (·.l)++dV esz r/\wr.ownsRow 0 67 1 p u.length (u.map Pc.val)/\(∀q∈u,q.l.length<=q.c/\aH w S q.a (aT q.l))/\bW w wr/\∀k,p.ownBlock=some k->w.heap.size<=k) (λa _ _ _=>match a with|.slice _ n _=>n|_=>0)
 case atStart=>exact⟨es,ea,ec,[],rfl,hc,rfl,hR,λ_ h=>h,jU _,by simp,by simp,AL _ _ _ _,by simp,a9,by simp[Value.ownBlock]⟩
 case round =>
  obtain⟨r,ra,y,u,rfl,a6,rfl,B,C,ae,ak,V,o,F,E,m⟩:=hrel;have af:=B.on (vV E hS);have ab:∀b,S b->b<wr.heap.size:=λb h=>jY (hS b h) E.size;have aa:=I r C ae;have G:Hid (dV esz es=u.map (·.l)++dV esz r):=V;clear V;by_cases hgt:250<tot esz r
  .have a3:0<r.length:=by
    cases r with
    |nil=>simp[tot]at hgt
    |cons x r=>simp
   obtain⟨L,Q,rfl,al⟩:=B.addr (zN a3);have H:∀x∈r,esz x<=250:=λx hx=>h250 x (C x hx);have D:=Ty (some (aD L Q)) y r (tot esz r) S wr af ab (by omega) a6 (λx hx=>hf x (C x hx)) (by omega) (by omega);have W:=rB esz r (by omega) H;have T:=vF esz (tot esz r) r 0;have X:=zR esz r H hgt;have M:=yM esz r (shN esz (tot esz r) r 0);have⟨n,a4⟩:=nM (shN esz (tot esz r) r 0);rw[a4]at D W T X M;have⟨f,a8⟩:=nM (tot esz (r.take n));rw[a8]at D M;have⟨t,ht⟩:=nM (tot esz r);rw[ht]at D hgt aa M;simp only[ht];have a7:(t:Int) > 250:=by omega
   have a5:∀z:Int,z=((t:Nat):Int)->cL 213 #[.slice (some (aD L Q)) r.length y,.func (.func 203) #[] #[],.i z] wr λe w'=>e=.returned (.tuple #[.i n,.i f])/\bW wr w':=λz hz=>hz▸D;have ac:Hid (dV esz r=r.take n :: dV esz (r.drop n)):=X;have HF:Hid (tot esz (r.drop n)=t-f):=by show _=_;omega
   have ai:f<=t:=by omega
   have ah:(n:Int)<=(y:Int):=by omega
   have ad:(n:Int)<=(r.length:Int):=by omega
   have a2:(r.drop n).length=r.length-n:=BE ..;have O:Hid ((r.drop n).length=r.length-n):=a2;have a1:Hid ((r.take n).length=n):=by show _=_;rw[AY];omega
   clear X M a4 a8 ht hT I a2 D;obtain⟨pa,R,rfl⟩:=aG o;have hQ:u.length+1<=1000001:=by omega
   go_wp2_with (first
    |(go_at_call 213;apply(a5 _ (by first|rfl|omega)).m;clear a5;rintro e w2 ⟨rfl,J⟩;have f2:Fr Bl.none wr w2:=AB J;have o2:=aS o (f2.on (Z:=λk=>Value.ownBlock (.slice pa u.length R)=some k) (λk Y=>⟨aK o Y,λh=>h⟩)) (λk Y=>Y))
    |(at_builtin;apply fQ w2 rfl (.tmp 21) (.tmp 25) 38 67 _ 1 24 rfl Tryz.underlying38 Qp rfl (by decide) (.slice pa u.length R) u.length (u.map Pc.val) rfl o2 [.slice (some (aD L Q)) n y] rfl rfl (by simp[Value.oneCell']) (by omega) (by omega);intro v3 w3 N;obtain⟨g3,k3,rfl⟩:=N.shape (by decide)))
   have b3:bW w w3:=(E.t (J.m E.size)).t (N.fr.below (vJ E.size J.size) m);have aj:0<n:=W;go_roundw
   case rel =>
    refine⟨r.drop n,(if y=n then some (aD L Q) else some (aD L (Q+n * 4))),y-n,u++[⟨some (aD L Q),y,r.take n⟩],by rw[O.o],by rw[O.o];omega,by rw[HF.o];congr 1;omega,?_,λx hx=>C x (BS hx),by rw[O.o];omega,by rw[O.o,jK,AM];omega,by rw[G.o,ac.o];simp,?_,?_,b3,?_⟩
    .by_cases hrn:y=n
     .exact .inl (by rw[CW (by omega)];rfl)
     .rw[AR hrn]
      rw[tP]at B⊢;exact B.dropZ n (Rq r) T
    .have e1:Pc.val (⟨some (aD L Q),y,r.take n⟩:Pc En)=.slice (some (aD L Q)) n y:=by unfold Pc.val;simp only[a1.o]
     rw[BM,jK,AM,BH,DB,e1];exact N.row
    .intro q A
     rcases AO.1 A with A|A
     .exact F q A
     .obtain rfl:=AJ.1 A
      refine⟨by show(r.take n).length<=y;rw[a1.o];omega,?_⟩;show aH w S (some (aD L Q)) (aT (r.take n));rw[tP]at B⊢;exact B.takeZ (z:=4) n
    .intro k Y
     rcases N.lies k Y with h|h
     .exact m k h
     .exact vJ E.size (vJ J.size h)
   case measure=>simp;omega
  .have K:=jL esz r (by omega)
   obtain⟨pa,R,rfl⟩:=aG o;by_cases a3:0<r.length
   .have a0:Hid (dV esz r=[r]):=by show _=_;rw[K,AR (by omega)]
    have ag:(0:Int)<(r.length:Int):=by omega
    have⟨t,ht⟩:=nM (tot esz r);simp only[ht]at hgt⊢;have a7:¬(t:Int) > 250:=by omega
    have hQ:u.length+1<=1000001:=by omega
    clear K ht hT I;go_wp2_with (at_builtin;apply fQ wr rfl (.tmp 36) (.tmp 38) 38 67 _ 1 24 rfl Tryz.underlying38 Qp rfl (by decide) (.slice pa u.length R) u.length (u.map Pc.val) rfl o [.slice ra r.length y] rfl rfl (by simp[Value.oneCell']) (by omega) (by omega);intro v3 w3 N;obtain⟨g3,k3,rfl⟩:=N.shape (by decide));go_ret;have b3:bW w w3:=E.t (N.fr.below E.size m);refine⟨_,rfl,⟨u++[⟨ra,y,r⟩],?_,by rw[G.o,a0.o];simp,?_⟩,b3,?_⟩
    .rw[BM,jK,AM,BH,DB]
     exact N.row
    .intro q A
     rcases AO.1 A with A|A
     .exact⟨(F q A).1,(F q A).2.on (vV b3 hS)⟩
     .obtain rfl:=AJ.1 A
      exact⟨a6,B.on (vV b3 hS)⟩
    .intro k Y
     rcases N.lies k Y with h|h
     .exact m k h
     .exact vJ E.size h
   .have U:r.length=0:=by omega
    have a0:Hid (dV esz r=[]):=by show _=_;rw[K,AU U]
    obtain rfl:=AH U;clear K hT I;go_wp2;go_ret;exact⟨_,rfl,⟨u,o,by rw[G.o,a0.o];simp,λq A=>⟨(F q A).1,(F q A).2.on (vV E hS)⟩⟩,E,m⟩
def rT{f:Type}(p):∀(l:List f) (a b:Nat),(∀m (h:m<l.length),p l[m]=(decide (a<=m)&&decide (m<b)))->l.filter p=(l.take b).drop a
 |[],_,_,_=>by simp
 |x :: l,a,0,h=>by
  rw[List.take_zero,List.drop_nil,KE];intro i g;obtain⟨m,d,rfl⟩:=AV g;rw[h m d];simp
 |x :: l,0,b+1,h=>by
  have c:=h 0 (by simp);simp only[CX]at c;have e:p x=true:=by rw[c];simp
  rw[List.filter_cons_of_pos e,EQ,FX,rT p l 0 b (λm d=>by
   have:=h (m+1) (by simpa using d);simp only[DI]at this;rw[this];simp),FX]
 |x :: l,a+1,b+1,h=>by
  have c:=h 0 (by simp);simp only[CX]at c;have e:¬p x=true:=by rw[c];simp
  rw[List.filter_cons_of_neg e,EQ,List.drop_succ_cons,rT p l a b (λm d=>by
   have:=h (m+1) (by simpa using d);simp only[DI]at this;rw[this];simp)]
def Yf{cs}(c:cF cs)(k m)(b:m<cs.length):lt cs[m].key k=decide (m<dH cs k):=by
 by_cases h:m<dH cs k
 .have⟨_,a⟩:=uA h
  rw[a];simp[h]
 .rw[rA c (by omega) b];simp[h]
def dF(cs:List Ch)(q:Sp):List Ch:=cs.filter (λc=>q.has c.key)
def qJb{cs}(e:cF cs)(q b)(c:b=if isNil q.hi=true then cs.length else dH cs q.hi):dF cs q=(cs.take (max (dH cs q.lo) b)).drop (dH cs q.lo):=by
 refine rT _ cs _ _ (λa d=>?_);have g:Sp.below q.hi cs[a].key=decide (a<b):=by
  unfold Sp.below;cases hn:isNil q.hi
  .rw[hn]at c
   simp only[Bool.false_or];simp only[EV,KS]at c;rw[c];exact Yf e q.hi a d
  .rw[hn]at c
   simp only[MA]at c;rw[c];simp[d]
 unfold Sp.has le;rw[Yf e q.lo a d,g];by_cases ha:a<dH cs q.lo
 .have:¬dH cs q.lo<=a:=by omega
  simp[ha,this]
 .have h:dH cs q.lo<=a:=by omega
  simp only[ha,h,decide_false,decide_true,Bool.not_false,LC];congr 1;apply propext;omega
def Ih(S:Bl)(ca:Option Addr)(cs:List Ch)(a:Option Addr)(c:Nat)(own:List Ch):Prop :=
 own.length<=c/\(∀Wx,aH Wx S ca (cs.flatMap Ch.cells)->aH Wx S a (own.flatMap Ch.cells))/\((a=none/\c=0)\/∃b off,a=some (aD b off))
def Zh {b c a cs own}(n t)(g:cs.length<=a)(i:n<=t)(j:t<=cs.length)(d:own=(cs.take t).drop n):Ih S (some (aD b c)) cs (if a=n then some (aD b c) else some (aD b (c+n * 3))) (a-n) own:=by
 have h:own.length=t-n:=by rw[d,BE,AY];omega
 refine⟨by omega,λf e=>?_,?_⟩
 .by_cases hc:a=n
  .exact .inl (by rw[AH (by omega:own.length=0)];rfl)
  .rw[AR hc,d]
   exact(e.takeZ (z:=3) t).dropZ n (λk _=>rfl) (by rw[AY];omega)
 .by_cases hc:a=n
  .exact .inr ⟨b,c,by rw[AU hc]⟩
  .exact .inr ⟨b,c+n * 3,by rw[AR hc]⟩
def qDx(a):(a.toList==([]:List UInt8))=isNil a:=by
 unfold isNil;cases a.toList<;>rfl
def Dd(x i cs q S w)(V:aH w S x (cs.flatMap Ch.cells))(O:lW S w)(U:cF cs)(X:cs.length<=1000000)(L:cs.length<=i)(Q:(x=none/\i=0)\/∃b a0,x=some (aD b a0)):
  cL 176 #[.s x cs.length i,.agg #[.t q.lo,.t q.hi]] w λe w'=>∃a c,e=.r (.s a (dF cs q).length c)/\Ih S x cs a c (dF cs q)/\bW w w':=by
 obtain⟨D,P,h,t,-⟩:=al1 w (.cells #[.t q.lo,.t q.hi] 154);have⟨a1,a2⟩:=bY t;have A:=(gL t);have N:∀W G,bW w W->cL 96 #[.s x cs.length i,.t G] W λe w'=>e=.r (.tuple #[.i (dH cs G),.bool (fnd cs G)])/\bW W w':=λW G H=>lQ x i cs G S W (V.on (vV H O)) (λb K=>jY (O b K) H.size) U X L;have I:=uB cs q.lo;have R:=uB cs q.hi;have E:=λb K=>qJb U q b K;have⟨n,M⟩:=nM (dH cs q.lo);have⟨p,J⟩:=nM (dH cs q.hi);have j:=N D q.lo h;rw[M]at I j;simp only[M,J]at E;rw[J]at R;have F:=λW H=>N W q.hi H;simp only[J]at F;clear M J N;go_enter Tryz.func176,Tryz.ntmps176;cases hnil:isNil q.hi
 .have Y:(q.hi.toList==([]:List UInt8))=false:=by rw[qDx,hnil]
  have r:Hid (dF cs q=(cs.take (max n p)).drop n):=E p (by simp[hnil]);have g:Hid ((dF cs q).length=max n p-n):=by show _=_;rw[r.o,BE,AY];omega
  clear E;rcases Q with⟨rfl,rfl⟩|⟨k,l,rfl⟩
  .obtain rfl:cs=[]:=AH (by omega)
   obtain rfl:n=0:=by simpa using I
   obtain rfl:p=0:=by simpa using R
   go_wp2_with (go_at_call 96;first|(apply j.m;clear j;rintro e o ⟨rfl,f⟩;have d:bW w o:=h.t (f.m h.size);have⟨B,C⟩:=bY ((f.block w.heap.size A).t t))|(apply(F _ d).m;rintro e z ⟨rfl,y⟩;have v:bW w z:=d.t (y.m d.size)));go_ret;exact⟨none,0,by rw[g.o];rfl,⟨by rw[g.o];simp,λ_ _=>.inl (by rw[AH (by rw[g.o];rfl:(dF [] q).length=0)];rfl),.inl ⟨rfl,rfl⟩⟩,v⟩
  .skip
   have m:Ih S (some (aD k l)) cs (if i=n then some (aD k l) else some (aD k (l+n * 3))) (i-n) (dF cs q):=Zh n (max n p) L (by omega) (by omega) r;by_cases hcn:i=n
   .subst i
    have s:Hid ((dF cs q).length=0):=by show _=_;rw[g.o];omega
    have u:Hid (Ih S (some (aD k l)) cs (some (aD k l)) 0 (dF cs q)):=by rw[AU rfl,JF]at m;exact m
    have Z:(p:Int)<=(n:Int):=by omega
    clear r g m;go_wp2_with (go_at_call 96;first|(apply j.m;clear j;rintro e o ⟨rfl,f⟩;have d:bW w o:=h.t (f.m h.size);have⟨B,C⟩:=bY ((f.block w.heap.size A).t t))|(apply(F _ d).m;rintro e z ⟨rfl,y⟩;have v:bW w z:=d.t (y.m d.size)))
    all_goals go_ret
    all_goals exact⟨_,_,by rw[s.o];first|rfl|(simp;done)|(simp;omega),u,v⟩
   .have u:Hid (Ih S (some (aD k l)) cs (some (aD k (l+n * 3))) (i-n) (dF cs q)):=by rw[AR hcn]at m;exact m
    clear m;by_cases hnt:n<=p
    .have s:Hid ((dF cs q).length=p-n):=by show _=_;rw[g.o];omega
     have T:(n:Int)<=(p:Int):=by omega
     clear r g;go_wp2_with (go_at_call 96;first|(apply j.m;clear j;rintro e o ⟨rfl,f⟩;have d:bW w o:=h.t (f.m h.size);have⟨B,C⟩:=bY ((f.block w.heap.size A).t t))|(apply(F _ d).m;rintro e z ⟨rfl,y⟩;have v:bW w z:=d.t (y.m d.size)))
     all_goals go_ret
     all_goals exact⟨_,_,by rw[s.o];first|rfl|(simp;done)|(simp;omega),u,v⟩
    .have s:Hid ((dF cs q).length=n-n):=by show _=_;rw[g.o];omega
     have T:(p:Int)<(n:Int):=by omega
     clear r g;go_wp2_with (go_at_call 96;first|(apply j.m;clear j;rintro e o ⟨rfl,f⟩;have d:bW w o:=h.t (f.m h.size);have⟨B,C⟩:=bY ((f.block w.heap.size A).t t))|(apply(F _ d).m;rintro e z ⟨rfl,y⟩;have v:bW w z:=d.t (y.m d.size)))
     all_goals go_ret
     all_goals exact⟨_,_,by rw[s.o];first|rfl|(simp;done)|(simp;omega),u,v⟩
 .have Y:(q.hi.toList==([]:List UInt8))=true:=by rw[qDx,hnil]
  have r:Hid (dF cs q=(cs.take (max n cs.length)).drop n):=E cs.length (by simp[hnil]);have g:Hid ((dF cs q).length=max n cs.length-n):=by show _=_;rw[r.o,BE,AY];omega
  clear E;rcases Q with⟨rfl,rfl⟩|⟨k,l,rfl⟩
  .obtain rfl:cs=[]:=AH (by omega)
   obtain rfl:n=0:=by simpa using I
   go_wp2_with (go_at_call 96;apply j.m;clear j;rintro e o ⟨rfl,f⟩;have d:bW w o:=h.t (f.m h.size);have⟨B,C⟩:=bY ((f.block w.heap.size A).t t));go_ret;exact⟨none,0,by rw[g.o];rfl,⟨by rw[g.o];simp,λ_ _=>.inl (by rw[AH (by rw[g.o];rfl:(dF [] q).length=0)];rfl),.inl ⟨rfl,rfl⟩⟩,d⟩
  .skip
   have m:Ih S (some (aD k l)) cs (if i=n then some (aD k l) else some (aD k (l+n * 3))) (i-n) (dF cs q):=Zh n (max n cs.length) L (by omega) (by omega) r;by_cases hcn:i=n
   .subst i
    have s:Hid ((dF cs q).length=0):=by show _=_;rw[g.o];omega
    have u:Hid (Ih S (some (aD k l)) cs (some (aD k l)) 0 (dF cs q)):=by rw[AU rfl,JF]at m;exact m
    have Z:(cs.length:Int)<=(n:Int):=by omega
    clear r g m;go_wp2_with (go_at_call 96;apply j.m;clear j;rintro e o ⟨rfl,f⟩;have d:bW w o:=h.t (f.m h.size);have⟨B,C⟩:=bY ((f.block w.heap.size A).t t))
    all_goals go_ret
    all_goals exact⟨_,_,by rw[s.o];first|rfl|(simp;done)|(simp;omega),u,d⟩
   .have u:Hid (Ih S (some (aD k l)) cs (some (aD k (l+n * 3))) (i-n) (dF cs q)):=by rw[AR hcn]at m;exact m
    clear m;by_cases hnt:n<=cs.length
    .have s:Hid ((dF cs q).length=cs.length-n):=by show _=_;rw[g.o];omega
     have T:(n:Int)<=(cs.length:Int):=by omega
     clear r g;go_wp2_with (go_at_call 96;apply j.m;clear j;rintro e o ⟨rfl,f⟩;have d:bW w o:=h.t (f.m h.size);have⟨B,C⟩:=bY ((f.block w.heap.size A).t t))
     all_goals go_ret
     all_goals exact⟨_,_,by rw[s.o];first|rfl|(simp;done)|(simp;omega),u,d⟩
    .exact absurd I hnt
def wP:∀{l m:List En},cQ l->cQ m->(∀a,a∈l↔a∈m)->l=m
 |[],[],_,_,_=>rfl
 |[],a :: m,_,_,h=>absurd ((h a).2 (by simp)) (by simp)
 |x :: l,[],_,_,h=>absurd ((h x).1 (by simp)) (by simp)
 |x :: l,a :: m,hl,hm,h=>by
  have⟨d,i⟩:=BG.1 hl;have⟨f,j⟩:=BG.1 hm;have g:x=a:=by
   rcases AS.1 ((h x).1 (by simp)) with e|e
   .exact e
   .rcases AS.1 ((h a).2 (by simp)) with n|n
    .grind
    .have:=eY (d a n) (f x e)
     rw[cI]at this;cases this
  subst g;rw[wP i j (λc=>?_)];constructor
  .intro b
   rcases AS.1 ((h c).1 (by simp[b])) with rfl|k
   .have:=d c b;rw[cI]at this;cases this
   .exact k
  .intro b
   rcases AS.1 ((h c).2 (by simp[b])) with rfl|k
   .have:=f c b;rw[cI]at this;cases this
   .exact k
def Wr{es cs}(e:cQ es)(h:cF cs)(q):bF (es.filter (λx=>q.has x.e.key)) (dF cs q)=(bF es cs).filter (λx=>q.has x.e.key):=by
 rw[nQ,nQ];have m:cF (dF cs q):=EM _ h;have k:cQ (es.filter (λx=>q.has x.e.key)):=EM _ e;refine wP (sN _ _ k m) (EM _ (sN _ _ e h)) (λn=>?_);rw[uI _ _ k m,EH,EH,uI _ _ e h];unfold dF;constructor
 .rintro(⟨c,a,f,rfl⟩|⟨i,g⟩)
  .have⟨d,b⟩:=EH.1 a
   exact⟨.inl ⟨c,d,f,rfl⟩,b⟩
  grind
 .rintro⟨⟨c,a,f,rfl⟩|⟨i,g⟩,l⟩
  .exact .inl ⟨c,EH.2 ⟨a,l⟩,f,rfl⟩
  grind
def iP(next:Nat)(d:ByteArray):Pg:=⟨4,0,0,next,[],[],[],d⟩
def eM(es:List En):Pg:=⟨3,0,0,0,[],[],es.map (·.e),⟨#[]⟩⟩
def eX(los:List ByteArray)(pls:List Nat):Pg:=⟨2,0,0,0,los,pls.map (λn:Nat=>(n:Int)),[],⟨#[]⟩⟩
def bK(ver root:Int):Pg:=⟨1,ver,root,0,[],[],[],⟨#[]⟩⟩
def uS(a:Pg)(c:eF a.kind a.ver a.root a.next a.keys a.kids a.ents a.data=true)(b:(fieldsB a.kind a.ver a.root a.next a.keys a.kids a.ents a.data).length<=252):a.encE=0:=by
 unfold Pg.encE Pages.dL;rw[AU (by grind)]
def yZ:(⟨#[]⟩:ByteArray).toList.isEmpty=true:=by simp
def qC(s):(dX s).length=s.size+1:=by
 rfl
def tO(ver root)(b:0<=ver)(c:root=0\/bI root=true):(bK ver root).encE=0:=by
 refine uS _ ?_ ?_
 .rcases c with a|a<;>simp[bK,eF,fR,lT,lC,Jl,b,a,yZ]
 .simp[bK,fieldsB,aL]
def Rp(next:Nat)(d)(b:next=0\/bI next=true)(c:1<=d.size)(e:d.size<=240):(iP next d).encE=0:=by
 refine uS _ ?_ ?_
 .rcases b with a|a<;>simp[iP,eF,fR,lT,lD,Ek,a,c,e]
 .have:=qC d
  simp[iP,fieldsB,aL];omega
def Jq:∀(es:List Ent) (c:ByteArray),es.Pairwise (λa b=>lt a.key b.key=true)->(∀e∈es,lt c e.key=true/\e.key.size<=24/\qB e.val e.size e.over=true)->gC c es=true
 |[],_,_,_=>rfl
 |e :: r,c,hp,h=>by
  have⟨m,n⟩:=BG.1 hp;have⟨g,i,j⟩:=h e (by simp);simp only[gC,AP,gX];refine⟨⟨⟨g,by grind⟩,j⟩,Jq r e.key n (λf d=>?_)⟩;grind
def Dv:∀(ks:List ByteArray) (c:ByteArray),ks.Pairwise (λa b=>lt a b=true)->(∀k∈ks,lt c k=true/\k.size<=24)->fZ c ks=true
 |[],_,_,_=>rfl
 |k :: r,c,hp,h=>by
  have⟨i,j⟩:=BG.1 hp;have⟨f,g⟩:=h k (by simp);simp only[fZ,AP,gX];exact⟨⟨f,by grind⟩,Dv r k j (λe d=>⟨i e d,(h e (by simp[d])).2⟩)⟩
def qJy(x)(h:qB x.e.val x.e.size x.e.over=true):(Ent.bytes x.e).length=esz x:=by
 unfold Ent.bytes mM esz;rw[jK,qC];simp only[qB,DR,AP,CT,BT]at h;rcases h with⟨⟨a,e⟩,b⟩|⟨⟨⟨a,e⟩,b⟩,f⟩
 .rw[AU (by simp[a]),AR (by omega),jK,qC]
  simp;omega
 .have d:¬(x.e.over==0)=true:=by
   intro c;rw[CT.1 c]at a;simp[bI]at a
  rw[AR d,AU b,jK,jK,aL,aL];simp
def Rj:∀(es:List En),(∀x∈es,qB x.e.val x.e.size x.e.over=true)->((es.map (·.e)).flatMap Ent.bytes).length=tot esz es
 |[],_=>rfl
 |x :: es,h=>by
  rw[BH,AK,jK,cK,qJy x (h x (by simp)),Rj es (λb a=>h b (by simp[a]))]
def qHh(es)(c:es≠[])(f:cQ es)(b:∀x∈es,lt ⟨#[]⟩ x.e.key=true/\x.e.key.size<=24/\qB x.e.val x.e.size x.e.over=true)(j:tot esz es<=250):(eM es).encE=0:=by
 have e:=Jq _ _ (by rw[EO];exact f) (λg d=>by
  obtain⟨x,a,rfl⟩:=AW.1 d;exact b x a)
 refine uS _ ?_ ?_
 .have i:es.map (·.e)≠[]:=by simp_all
  simp[eM,eF,lD,fR,lC,e,c,yZ]
 .have h:=Rj es (λx a=>(b x a).2.2)
  simp only[eM,fieldsB,mS,jK,aL,AR (show ¬(3:Int)=1 by decide),AR (show ¬(3:Int)=2 by decide),AU];omega
def Qb:∀(l:List Int),(l.flatMap (beB 2)).length=2 * l.length
 |[]=>rfl
 |x :: l=>by rw[AK,jK,aL,Qb l,jB];omega
def Qf:∀(l:List ByteArray),(l.flatMap dX).length=tot (λk:ByteArray=>k.size+1) l
 |[]=>rfl
 |x :: l=>by rw[AK,jK,qC,Qf l,cK]
def qHi(c d)(i:c≠[])(h:d.length=c.length+1)(m:c.Pairwise (λa b=>lt a b=true))(g:∀k∈c,lt ⟨#[]⟩ k=true/\k.size<=24)(j:∀p∈d,bI (p:Nat)=true)(q:2 * d.length+tot (λk:ByteArray=>k.size+1) c<=250):(eX c d).encE=0:=by
 refine uS _ ?_ ?_
 .have f:(d.map (λn:Nat=>(n:Int))).all bI=true:=by
   grind
  simp only[eX,eF,lD,lT,lC,gY,Dv c ⟨#[]⟩ m g,f,yZ,AR (show ¬(2:Int)=1 by decide),AU,AF,h];simp[i]
 .simp only[eX,fieldsB,eS,jK,aL,AR (show ¬(2:Int)=1 by decide),AU,Qb,Qf,AF]
  omega
def Qs {g}(h:fs.has p g)(a:g.kind=2):∀k∈g.kids,bI k=true:=by
 have:=uN h;rw[a]at this;simp only[eF,AR (show ¬(2:Int)=1 by decide),AU,AP,gY,LP]at this;grind
def qGr {g}(h:fs.has p g)(a:g.kind=4):g.next=0\/bI g.next=true:=by
 have:=uN h;rw[a]at this;simp only[eF,AR (show ¬(4:Int)=1 by decide),AR (show ¬(4:Int)=2 by decide),AR (show ¬(4:Int)=3 by decide),AU,AP,Ek,DR,CT]at this;grind
def mN(g:Pg)(a:g.encE=0):g.encS.size=256:=by
 unfold Pg.encE Pages.dL at a;split at a
 .rename_i hT
  unfold Pg.encS Pages.encS;rw[AU hT];simp only[AP,BT]at hT;show(uY _).toArray.size=256;simp only[jA,uY,Hr,jK,DP,aL];omega
 .simp at a
def xV(g)(c:g.ver<9223372036854775808)(b:g.encE=0):Ig g.encS g:=by
 have a:=Ue g c b;exact⟨mN g b,by grind,by rw[a],a.symm⟩
structure MN where
 lo:ByteArray
 hi:ByteArray
 place:Nat
 ea:Option Addr
 en:Nat
 ec:Nat
 ka:Option Addr
 kn:Nat
 kc:Nat
def MN.cells(m:MN):List Value:=[.string m.lo,.string m.hi,.int .i64 m.place,.slice m.ea m.en m.ec,.slice m.ka m.kn m.kc]
abbrev MN.val(m:MN):Value:=.agg #[.string m.lo,.string m.hi,.int .i64 m.place,.slice m.ea m.en m.ec,.slice m.ka m.kn m.kc]
def aM(ms:List MN):List Value:=ms.flatMap MN.cells
def Av(ms):aM ms=ms.flatMap MN.cells:=rfl
def Au(ms m):aM (ms++[m])=aM ms++m.cells:=by simp[aM]
def iC(ms ns):aM (ms++ns)=aM ms++aM ns:=by simp[aM]
def Ou(ms:List MN):∀x∈ms,(MN.cells x).length=5:=λx _=>rfl
def iQ(ms):(aM ms).length=ms.length * 5:=Gf ms (Ou ms)
def zB{ms}(h:0<ms.length):aM ms≠[]:=by
 cases ms with
 |nil=>simp at h
 |cons x l=>simp[aM,MN.cells]
def nR{l j i}(c:j<l.length)(hi:i<5):(aM l)[j * 5+i]?=(l[j].cells)[i]?:=by
 have a:aM l=aM (l.take j)++(l[j].cells++aM (l.drop (j+1))):=by
  have:l=l.take j++(l[j]:: l.drop (j+1)):=by simp
  conv=>lhs;rw[this]
  rw[iC];rfl
 have b:(aM (l.take j)).length=j * 5:=by rw[iQ,AY,GL (by omega)]
 rw[a,BC (by omega),b,Nat.add_sub_cancel_left,BO (by show i<5;exact hi)]
def aH.nod {l}(h:aH w S a (aM l))(e:j<l.length):∃b c,a=some (aD b c)/\S b/\w.c b (c+j * 5)=some (.t (l[j]).lo)/\w.c b (c+j * 5+1)=some (.t (l[j]).hi)/\w.c b (c+j * 5+2)=some (.i (l[j]).place)/\w.c b (c+j * 5+3)=some (.s (l[j]).ea (l[j]).en (l[j]).ec)/\w.c b (c+j * 5+4)=some (.s (l[j]).ka (l[j]).kn (l[j]).kc):=by
 have i:aM l≠[]:=zB (by omega);rcases h with h|⟨b,c,f,g,d⟩
 .exact(i h).elim
 .exact⟨b,c,f,g,d (j * 5+0) _ (nR e (by omega)),d (j * 5+1) _ (nR e (by omega)),d (j * 5+2) _ (nR e (by omega)),d (j * 5+3) _ (nR e (by omega)),d (j * 5+4) _ (nR e (by omega))⟩
def ksz(m:MN):Nat:=m.lo.size+3
def MN.fits(m:MN):Prop:=m.lo.size<=24
def MN.fits.o{m:MN}(h:m.fits):m.lo.size<=24:=h
def qN{m}(h:m.fits):ksz m<=27:=by unfold ksz;have:=h.o;omega
def iT:(Tryz.prog.info? 242).map (λi=>(i.zero,i.size,i.bytes))=some (some (.agg #[.e,.e,.i 0,.n,.n]),5,88):=by kernel_rfl
def Qo:(Tryz.prog.info? 239).map (λi=>(i.zero,i.size,i.bytes))=some (some .n,1,24):=by kernel_rfl
def Ba(x w)(f:x.lo.size<=1000000):
  cL 208 #[.agg #[.t x.lo,.t x.hi,.i x.place,.s x.ea x.en x.ec,.s x.ka x.kn x.kc]] w λe w'=>e=.r (.i (ksz x))/\bW w w':=by
 obtain⟨a,b,d,-⟩:=al1 w (.cells #[.t x.lo,.t x.hi,.i x.place,.s x.ea x.en x.ec,.s x.ka x.kn x.kc] 242);have⟨g,h,i,j,k⟩:=cV (b▸aC w _:cW a w.heap.size #[.t x.lo,.t x.hi,.i x.place,.s x.ea x.en x.ec,.s x.ka x.kn x.kc] 242);have c:Hid (ksz x=x.lo.size+3):=rfl;go_enter Tryz.func208,Tryz.ntmps208;go_wp2;go_ret;exact⟨by rw[c.o];first|rfl|(congr 2;go_num),d⟩
def Dj(ea ec es S w)(hR:aH w S ea (aM es))(hS:lW S w)(hn:es.length<=1000000)(hc:es.length<=ec)(hf:∀x∈es,x.fits):
  cL 217 #[.s ea es.length ec,.func (.func 208) #[] #[]] w λe w'=>e=.r (.i (tot ksz es))/\bW w w':=by
 go_enter Tryz.func217,Tryz.ntmps217;go_wp2;go_loopw [5,10] (λa b wr=>∃j:Nat,a=.i (tot ksz (es.take j))/\b=.i j/\j<=es.length/\bW w wr) (λ_ b _=>es.length-(intOf b).toNat)
 case atStart=>exact⟨0,by simp[tot],rfl,AG _,AC _ _⟩
 case round =>
  obtain⟨j,rfl,rfl,hj,p⟩:=hrel;by_cases hlt:j<es.length
  .have⟨rb,W,B,I,O,Q,K,N,J⟩:=(hR.on (vV p hS)).nod hlt;subst B;have⟨X,y⟩:=nM (es[j]);simp only[y]at O Q K N J;have g:X.fits:=y▸hf _ (AA hlt);obtain⟨Wa,q,-,H,-⟩:=al1 wr (.cells #[.t X.lo,.t X.hi,.i X.place,.s X.ea X.en X.ec,.s X.ka X.kn X.kc] 242);have⟨Z,V,Y,T,R⟩:=cV H;have D:bW w Wa:=q▸p.alloc p.size _;have E:=Ba X Wa (by have:=g.o;omega);have k:tot ksz (es.take (j+1))=tot ksz (es.take j)+ksz X:=by rw[<-y];exact lP ksz es j hlt
   have M:=k;have G:=pN ksz (es.take j) 27 (λx F=>qN (hf x (DC F)));have o:tot ksz (es.take j)<=27000000:=by
    have:(es.take j).length<=1000000:=by rw[AY];omega
    omega
   have z:=qN g;have⟨n,d⟩:=nM (tot ksz (es.take j));have⟨m,u⟩:=nM (ksz X);rw[d]at o;rw[u]at z;simp only[u]at E;have L:Hid (tot ksz (es.take (j+1))=n+m):=by rw[k,d,u];exact rfl
   have U:=d;simp only[d];go_wp2_with (go_at_call 208;apply E.m;rintro e w2 ⟨rfl,A⟩);go_roundw
   case rel=>exact⟨j+1,by rw[L.o];congr 1,by go_num,by omega,D.t (A.m D.size)⟩
   case measure=>simp[intOf];omega
  .obtain rfl:j=es.length:=by omega
   have C:Hid (tot ksz (es.take es.length)=tot ksz es):=by rw[BK];exact rfl
   go_wp2;go_ret;exact⟨by first|rfl|(rw[<-C.o];rfl)|(rw[C.o];rfl)|(simp[C.o];done),p⟩
def Tw(ea ec es)(all:Nat)(S w)(hR:aH w S ea (aM es))(hS:lW S w)(hn:es.length<=1000000)(hc:es.length<=ec)(hf:∀x∈es,x.fits)(ha:250<tot ksz es)(ha2:all<=27000000):
  cL 218 #[.s ea es.length ec,.func (.func 208) #[] #[],.i all] w λe w'=>e=.r (.tuple #[.i (shN ksz all es 0),.i (tot ksz (es.take (shN ksz all es 0)))])/\bW w w':=by
 go_enter Tryz.func218,Tryz.ntmps218;go_wp2;go_loopw [8,9] (λa b wr=>∃j:Nat,b=.i (tot ksz (es.take j))/\a=.i j/\j<=shN ksz all es 0/\bW w wr) (λa _ _=>es.length-(intOf a).toNat)
 case atStart=>exact⟨0,by simp[tot],rfl,AG _,AC _ _⟩
 case round =>
  obtain⟨j,rfl,rfl,hj,A⟩:=hrel;have z:=Nat.lt_of_le_of_lt hj (yO ksz all es ha);have g:=Dq ksz all es 0 j hj z;have F:=z;obtain⟨L,I,Z,o,N,G,J,M,H⟩:=(hR.on (vV A hS)).nod F;subst Z;have y:=lP ksz es j z;have B:=hf _ (AA z);obtain⟨X,hX⟩:=nM (es[j]);simp only[hX]at N G J M H y B g;have Q:=qN B;have Y:=uD ksz all es 0 (by omega);obtain⟨n,u⟩:=nM (tot ksz (es.take j));obtain⟨m,O⟩:=nM (ksz X);have a0:n<=27000000:=by
   have h1:=pN ksz (es.take j) 27 (λx hx=>qN (hf x (DC hx)));have h2:(es.take j).length<=1000000:=by rw[AY];omega
   omega
  simp only[u,DS,O]at g y Q⊢;have HM:Hid (tot ksz (es.take (j+1))=n+m):=y;have HN:Hid (tot ksz (es.take j)=n):=u;have HX:Hid (ksz X=m):=O;have V:Hid (j<shN ksz all es 0↔2 * n+m<=all/\n+m<=250):=g;have E:∀W,bW wr W->On S wr W:=λW D=>vV D (λk hk=>jY (hS k hk) A.size);have R:Hid (∀W,bW wr W->W.c L (I+j * 5)=some (.t X.lo)/\W.c L (I+j * 5+1)=some (.t X.hi)/\W.c L (I+j * 5+2)=some (.i X.place)/\W.c L (I+j * 5+3)=some (.s X.ea X.en X.ec)/\W.c L (I+j * 5+4)=some (.s X.ka X.kn X.kc)):=λW D=>⟨(E W D).cell _ o |>.trans N,(E W D).cell _ o |>.trans G,(E W D).cell _ o |>.trans J,(E W D).cell _ o |>.trans M,(E W D).cell _ o |>.trans H⟩;have T:Hid (∀W,cL 208 #[.agg #[.t X.lo,.t X.hi,.i X.place,.s X.ea X.en X.ec,.s X.ka X.kn X.kc]] W λe w'=>e=.r (.i m)/\bW W w'):=λW=>by have h:=Ba X W (by have:=B.o;omega);rw[O]at h;exact h
  have d:bW wr wr:=AC _ _;have C:¬j<shN ksz all es 0->Hid (shN ksz all es 0=j/\tot ksz (es.take (shN ksz all es 0))=n):=λh=>by
   have e:shN ksz all es 0=j:=by omega
   exact⟨e,by rw[e,u]⟩
  clear y hX hR u O Y E;by_cases hle1:2 * n+m<=all
  .have U:2 * (n:Int)+(m:Int)<=(all:Int):=by omega
   by_cases hle:n+m<=250
   .have K:(n:Int)+(m:Int)<=250:=by omega
    clear C g;go_wp2_with (go_at_call 208;refine Calls.m (T.o _) ?_;rintro e w2 ⟨rfl,q⟩;have d:=d.t (q.m d.size);obtain⟨N,G,J,M,H⟩:=R.o _ d);go_roundw
    case rel=>exact⟨j+1,by rw[HM.o];congr 1,by go_num,V.o.2 ⟨hle1,hle⟩,A.t (d.m A.size)⟩
    case measure=>simp[intOf];omega
   .have K:¬(n:Int)+(m:Int)<=250:=by omega
    have p:=C (λh=>hle (g.1 h).2);go_wp2_with (go_at_call 208;refine Calls.m (T.o _) ?_;rintro e w2 ⟨rfl,q⟩;have d:=d.t (q.m d.size);obtain⟨N,G,J,M,H⟩:=R.o _ d);go_ret2;exact⟨Lo p.o.1.symm p.o.2.symm,A.t (d.m A.size)⟩
  .have U:¬2 * (n:Int)+(m:Int)<=(all:Int):=by omega
   have p:=C (λh=>hle1 (g.1 h).1);go_wp2_with (go_at_call 208;refine Calls.m (T.o _) ?_;rintro e w2 ⟨rfl,q⟩;have d:=d.t (q.m d.size);obtain⟨N,G,J,M,H⟩:=R.o _ d);go_ret2;exact⟨Lo p.o.1.symm p.o.2.symm,A.t (d.m A.size)⟩
def qNd(w:World)(S:Bl)(v:Value)(ps:List (List MN)):Prop :=
 ∃qs:List (Pc MN),w.ownsRow 0 239 1 v qs.length (qs.map Pc.val)/\qs.map (·.l)=ps/\∀q∈qs,q.l.length<=q.c/\aH w S q.a (aM q.l)
def qHp(ea ec es S w)(hR:aH w S ea (aM es))(hS:lW S w)(hn:es.length<=1000000)(hc:es.length<=ec)(hf:∀x∈es,x.fits)(h250:∀x∈es,ksz x<=250):
  cL 207 #[.s ea es.length ec,.func (.func 208) #[] #[]] w λe w'=>∃v,e=.r v/\qNd w' S v (dV ksz es)/\bW w w'/\nW v w:=by
 have hT:=Dj ea ec es S w hR hS hn hc hf;have H:∀r:List MN,(∀x∈r,x∈es)->r.length<=es.length->tot ksz r<=27000000:=λr hr hl=>by
  have:=pN ksz r 27 (λx hx=>qN (hf x (hr x hx)));omega
 go_enter Tryz.func207,Tryz.ntmps207;go_wp2_with (go_at_call 217;apply hT.m;rintro e w1 ⟨rfl,a8⟩);go_loopw [0,5,6] (λa p t wr=>∃(r:List MN) (ra:Option Addr) (u:Nat) (o:List (Pc MN)),a=.slice ra r.length u/\r.length<=u/\t=.i (tot ksz r)/\aH w S ra (aM r)/\(∀x∈r,x∈es)/\r.length<=es.length/\o.length+r.length<=es.length/\dV ksz es=o.map (·.l)++dV ksz r/\wr.ownsRow 0 239 1 p o.length (o.map Pc.val)/\(∀q∈o,q.l.length<=q.c/\aH w S q.a (aM q.l))/\bW w wr/\∀k,p.ownBlock=some k->w.heap.size<=k) (λa _ _ _=>match a with|.slice _ n _=>n|_=>0)
 case atStart=>exact⟨es,ea,ec,[],rfl,hc,rfl,hR,λ_ h=>h,jU _,by simp,by simp,AL _ _ _ _,by simp,a8,by simp[Value.ownBlock]⟩
 case round =>
  obtain⟨r,ra,u,o,rfl,a5,rfl,A,B,ad,aj,U,g,E,D,d⟩:=hrel;have ae:=A.on (vV D hS);have aa:∀b,S b->b<wr.heap.size:=λb h=>jY (hS b h) D.size;have a9:=H r B ad;have F:Hid (dV ksz es=o.map (·.l)++dV ksz r):=U;clear U;by_cases hgt:250<tot ksz r
  .have a2:0<r.length:=by
    cases r with
    |nil=>simp[tot]at hgt
    |cons x r=>simp
   obtain⟨K,O,rfl,ak⟩:=A.addr (zB a2);have G:∀x∈r,ksz x<=250:=λx hx=>h250 x (B x hx);have C:=Tw (some (aD K O)) u r (tot ksz r) S wr ae aa (by omega) a5 (λx hx=>hf x (B x hx)) (by omega) (by omega);have V:=rB ksz r (by omega) G;have R:=vF ksz (tot ksz r) r 0;have W:=zR ksz r G hgt;have L:=yM ksz r (shN ksz (tot ksz r) r 0);have⟨n,a3⟩:=nM (shN ksz (tot ksz r) r 0);rw[a3]at C V R W L;have⟨f,a7⟩:=nM (tot ksz (r.take n));rw[a7]at C L;have⟨t,ht⟩:=nM (tot ksz r);rw[ht]at C hgt a9 L;simp only[ht];have a6:(t:Int) > 250:=by omega
   have a4:∀z:Int,z=((t:Nat):Int)->cL 218 #[.slice (some (aD K O)) r.length u,.func (.func 208) #[] #[],.i z] wr λe w'=>e=.returned (.tuple #[.i n,.i f])/\bW wr w':=λz hz=>hz▸C;have ab:Hid (dV ksz r=r.take n :: dV ksz (r.drop n)):=W;have HF:Hid (tot ksz (r.drop n)=t-f):=by show _=_;omega
   have ah:f<=t:=by omega
   have ag:(n:Int)<=(u:Int):=by omega
   have ac:(n:Int)<=(r.length:Int):=by omega
   have a1:(r.drop n).length=r.length-n:=BE ..;have N:Hid ((r.drop n).length=r.length-n):=a1;have a0:Hid ((r.take n).length=n):=by show _=_;rw[AY];omega
   clear W L a3 a7 ht hT H a1 C;obtain⟨pa,Q,rfl⟩:=aG g;have hQ:o.length+1<=1000001:=by omega
   go_wp2_with (first
    |(go_at_call 218;apply(a4 _ (by first|rfl|omega)).m;clear a4;rintro e w2 ⟨rfl,I⟩;have f2:Fr Bl.none wr w2:=AB I;have o2:=aS g (f2.on (Z:=λk=>Value.ownBlock (.slice pa o.length Q)=some k) (λk X=>⟨aK g X,λh=>h⟩)) (λk X=>X))
    |(at_builtin;apply fQ w2 rfl (.tmp 21) (.tmp 25) 269 239 _ 1 24 rfl Tryz.underlying269 Qo rfl (by decide) (.slice pa o.length Q) o.length (o.map Pc.val) rfl o2 [.slice (some (aD K O)) n u] rfl rfl (by simp[Value.oneCell']) (by omega) (by omega);intro v3 w3 M;obtain⟨g3,k3,rfl⟩:=M.shape (by decide)))
   have b3:bW w w3:=(D.t (I.m D.size)).t (M.fr.below (vJ D.size I.size) d);have ai:0<n:=V;go_roundw
   case rel =>
    refine⟨r.drop n,(if u=n then some (aD K O) else some (aD K (O+n * 5))),u-n,o++[⟨some (aD K O),u,r.take n⟩],by rw[N.o],by rw[N.o];omega,by rw[HF.o];congr 1;omega,?_,λx hx=>B x (BS hx),by rw[N.o];omega,by rw[N.o,jK,AM];omega,by rw[F.o,ab.o];simp,?_,?_,b3,?_⟩
    .by_cases hrn:u=n
     .exact .inl (by rw[CW (by omega)];rfl)
     .rw[AR hrn]
      rw[Av]at A⊢;exact A.dropZ n (Ou r) R
    .have e1:Pc.val (⟨some (aD K O),u,r.take n⟩:Pc MN)=.slice (some (aD K O)) n u:=by unfold Pc.val;simp only[a0.o]
     rw[BM,jK,AM,BH,DB,e1];exact M.row
    .intro q y
     rcases AO.1 y with y|y
     .exact E q y
     .obtain rfl:=AJ.1 y
      refine⟨by show(r.take n).length<=u;rw[a0.o];omega,?_⟩;show aH w S (some (aD K O)) (aM (r.take n));rw[Av]at A⊢;exact A.takeZ (z:=5) n
    .intro k X
     rcases M.lies k X with h|h
     .exact d k h
     .exact vJ D.size (vJ I.size h)
   case measure=>simp;omega
  .have J:=jL ksz r (by omega)
   obtain⟨pa,Q,rfl⟩:=aG g;by_cases a2:0<r.length
   .have Y:Hid (dV ksz r=[r]):=by show _=_;rw[J,AR (by omega)]
    have af:(0:Int)<(r.length:Int):=by omega
    have⟨t,ht⟩:=nM (tot ksz r);simp only[ht]at hgt⊢;have a6:¬(t:Int) > 250:=by omega
    have hQ:o.length+1<=1000001:=by omega
    clear J ht hT H;go_wp2_with (at_builtin;apply fQ wr rfl (.tmp 36) (.tmp 38) 269 239 _ 1 24 rfl Tryz.underlying269 Qo rfl (by decide) (.slice pa o.length Q) o.length (o.map Pc.val) rfl g [.slice ra r.length u] rfl rfl (by simp[Value.oneCell']) (by omega) (by omega);intro v3 w3 M;obtain⟨g3,k3,rfl⟩:=M.shape (by decide));go_ret;have b3:bW w w3:=D.t (M.fr.below D.size d);refine⟨_,rfl,⟨o++[⟨ra,u,r⟩],?_,by rw[F.o,Y.o];simp,?_⟩,b3,?_⟩
    .rw[BM,jK,AM,BH,DB]
     exact M.row
    .intro q y
     rcases AO.1 y with y|y
     .exact⟨(E q y).1,(E q y).2.on (vV b3 hS)⟩
     .obtain rfl:=AJ.1 y
      exact⟨a5,A.on (vV b3 hS)⟩
    .intro k X
     rcases M.lies k X with h|h
     .exact d k h
     .exact vJ D.size h
   .have T:r.length=0:=by omega
    have Y:Hid (dV ksz r=[]):=by show _=_;rw[J,AU T]
    obtain rfl:=AH T;clear J hT H;go_wp2;go_ret;exact⟨_,rfl,⟨o,g,by rw[F.o,Y.o];simp,λq y=>⟨(E q y).1,(E q y).2.on (vV D hS)⟩⟩,D,d⟩
def iW(es:List En):ByteArray:=match es with|[]=>⟨#[]⟩|x :: _=>x.e.key
def lU(q:Pc En):MN:=⟨iW q.l,⟨#[]⟩,0,q.a,q.l.length,q.c,none,0,0⟩
def Qz{es}(h:0<es.length):iW es=es[0].e.key:=by
 cases es with
 |nil=>simp at h
 |cons x l=>rfl
def xD {B e c n xs}(h:w.ownsRow B e z (.s a n c) n xs){u}(k:xs[j]?=some u):∃g,a=some (aD g 0)/\g<w.heap.size/\n<=c/\w.c g j=some u:=by
 have⟨g,b,d,f,i⟩:=iO h k;exact⟨g,b,d,f,i⟩
def pT(ea ec es S w)(hR:aH w S ea (aT es))(hS:lW S w)(hn:es.length<=1000000)(hc:es.length<=ec)(hf:∀x∈es,x.fits)(h250:∀x∈es,esz x<=250):
  cL 189 #[.s ea es.length ec] w λe w'=>∃v,∃qs:List (Pc En),e=.r v/\w'.ownsRow 0 242 5 v qs.length (aM (qs.map lU))/\qs.map (·.l)=dV esz es/\(∀q∈qs,q.l.length<=q.c/\aH w' S q.a (aT q.l))/\bW w w'/\nW v w:=by
 have d:=xZ esz es h250;go_enter Tryz.func189,Tryz.ntmps189;go_wp2_with (go_at_call 202;apply (qHq ea ec es S w hR hS hn hc hf h250).m;rintro e J ⟨v,rfl,⟨qs,m,H,E⟩,o,U⟩;obtain⟨pa,a4,rfl⟩:=aG m);have a1:qs.length<=es.length+1:=by
  have h1:qs.length=(dV esz es).length:=by rw[<-H];simp
  have h2:=mA esz es h250;have h3:(dV esz es).length<=(dV esz es).flatten.length:=by
   rw[List.length_flatten];generalize dV esz es=ps at d;clear h1 h2 H;induction ps with
   |nil=>simp
   |cons p ps ih =>
    have:=ih (λp hp=>d p (by simp[hp]));have hp:0<p.length:=BQ.2 (d p (by simp));simp;omega
  rw[h2]at h3;omega
 have HL:Hid (qs.map (·.l)=dV esz es):=H;have R:∀q∈qs,0<q.l.length:=λq E=>BQ.2 (d q.l (by rw[<-H];exact List.mem_map_of_mem (f:=λq:Pc En=>q.l) E));clear H d;go_loopw [3,9] (λa b wr=>∃j:Nat,b=.i j/\j<=qs.length/\wr.ownsRow 0 242 5 a j (aM ((qs.take j).map lU))/\bW J wr/\∀k,a.ownBlock=some k->J.heap.size<=k) (λ_ b _=>qs.length-(intOf b).toNat)
 case atStart=>exact⟨0,rfl,AG _,AL _ _ _ _,AC _ _,by simp[Value.ownBlock]⟩
 case round =>
  obtain⟨j,rfl,hj,L,A,X⟩:=hrel;obtain⟨aa,ac,rfl⟩:=aG L;by_cases hlt:j<qs.length
  .have⟨Q,M⟩:=nM (qs[j])
   have C:Q∈qs:=M▸AA hlt;have hu:(qs.map Pc.val)[j]?=some (.slice Q.a Q.l.length Q.c):=by rw[BN,jQ hlt,M];rfl
   have⟨g,hg,O,a3,t⟩:=xD m hu;subst hg;have T:wr.c g j=some (.slice Q.a Q.l.length Q.c):=((vV (Y:=λk=>k<J.heap.size) A (λk h=>h)).cell _ O).t t;have V:∀b,S b->b<J.heap.size:=λb h=>jY (hS b h) o.size;have G:=((E Q C).2.on (vV A V));have D:=R Q C;have y:0<(Q.l.map (·.e)).length:=by simpa using D
   have⟨rb,ro,F,a2,N,_,_,_⟩:=G.ent y;rw[EJ,<-Qz D]at N;simp only[EB,DW]at N;obtain⟨Qa,Qc,Z⟩:=Q;simp only at F D y T N;subst F;have⟨K,W⟩:=nM (iW Z);rw[W]at N;have a0:Hid (aM ((qs.take (j+1)).map lU)=aM ((qs.take j).map lU)++[.string K,.string ⟨#[]⟩,.i 0,.slice (some (aD rb ro)) Z.length Qc,.n]):=by
    show _=_
    rw[AN hlt,M,BM,BH,DB,Au];simp only[lU,MN.cells,W];rfl
   clear M C hu t m E G W;go_wp2_with (at_builtin;apply fQ wr rfl (.tmp 13) (.tmp 21) 239 242 _ 5 88 rfl Tryz.underlying239 iT rfl (by decide) (.slice aa j ac) j (aM ((qs.take j).map lU)) rfl L [.string K,.string ⟨#[]⟩,.i 0,.slice (some (aD rb ro)) Z.length Qc,.n] rfl rfl (by simp[Value.oneCell']) (by omega) (by omega);intro v3 w3 I;obtain⟨g3,k3,rfl⟩:=I.shape (by decide));go_roundw
   case rel =>
    refine⟨j+1,by go_num,by omega,by rw[a0.o];exact I.row,A.t (I.fr.below A.size X),?_⟩;intro k h;rcases I.lies k h with h|h
    .exact X k h
    .exact vJ A.size h
   case measure=>simp[intOf];omega
  .obtain rfl:j=qs.length:=by omega
   go_wp2;go_ret;refine⟨_,qs,rfl,by rw[BK]at L;exact L,HL,λq h=>⟨(E q h).1,(E q h).2.on (vV A (λb h=>jY (hS b h) o.size))⟩,o.t (A.m o.size),λk h=>vJ o.size (X k h)⟩
def Cv(ms:List MN):ByteArray:=match ms with|[]=>⟨#[]⟩|x :: _=>x.lo
def mB(q:Pc MN):MN:=⟨Cv q.l,⟨#[]⟩,0,none,0,0,q.a,q.l.length,q.c⟩
def Wn{es}(h:0<es.length):Cv es=es[0].lo:=by
 cases es with
 |nil=>simp at h
 |cons x l=>rfl
def mQ(ea ec es S w)(hR:aH w S ea (aM es))(hS:lW S w)(hn:es.length<=1000000)(hc:es.length<=ec)(hf:∀x∈es,x.fits)(h250:∀x∈es,ksz x<=250):
  cL 192 #[.s ea es.length ec] w λe w'=>∃v,∃qs:List (Pc MN),e=.r v/\w'.ownsRow 0 242 5 v qs.length (aM (qs.map mB))/\qs.map (·.l)=dV ksz es/\(∀q∈qs,q.l.length<=q.c/\aH w' S q.a (aM q.l))/\bW w w'/\nW v w:=by
 have d:=xZ ksz es h250;go_enter Tryz.func192,Tryz.ntmps192;go_wp2_with (go_at_call 207;apply (qHp ea ec es S w hR hS hn hc hf h250).m;rintro e I ⟨v,rfl,⟨qs,m,M,E⟩,o,U⟩;obtain⟨pa,a4,rfl⟩:=aG m);have a1:qs.length<=es.length+1:=by
  have h1:qs.length=(dV ksz es).length:=by rw[<-M];simp
  have h3:(dV ksz es).length<=(dV ksz es).flatten.length:=by
   rw[List.length_flatten];generalize dV ksz es=ps at d;induction ps with
   |nil=>simp
   |cons p ps ih =>
    have:=ih (λp hp=>d p (by simp[hp]));have hp:=BQ.2 (d p (by simp));simp;omega
  rw[mA ksz es h250]at h3;omega
 have HL:Hid (qs.map (·.l)=dV ksz es):=M;have R:∀q∈qs,0<q.l.length:=λq E=>BQ.2 (d q.l (by rw[<-M];exact List.mem_map_of_mem (f:=λq:Pc MN=>q.l) E));clear M d;go_loopw [3,9] (λa b wr=>∃j:Nat,b=.i j/\j<=qs.length/\wr.ownsRow 0 242 5 a j (aM ((qs.take j).map mB))/\bW I wr/\∀k,a.ownBlock=some k->I.heap.size<=k) (λ_ b _=>qs.length-(intOf b).toNat)
 case atStart=>exact⟨0,rfl,AG _,AL _ _ _ _,AC _ _,by simp[Value.ownBlock]⟩
 case round =>
  obtain⟨j,rfl,hj,J,A,X⟩:=hrel;obtain⟨aa,ac,rfl⟩:=aG J;by_cases hlt:j<qs.length
  .have⟨Q,L⟩:=nM (qs[j])
   have C:Q∈qs:=L▸AA hlt;have hu:(qs.map Pc.val)[j]?=some (.slice Q.a Q.l.length Q.c):=by rw[BN,jQ hlt,L];rfl
   have⟨g,hg,O,a3,t⟩:=xD m hu;subst hg;have T:wr.c g j=some (.slice Q.a Q.l.length Q.c):=((vV (Y:=λk=>k<I.heap.size) A (λk h=>h)).cell _ O).t t;have V:∀b,S b->b<I.heap.size:=λb h=>jY (hS b h) o.size;have G:=((E Q C).2.on (vV A V));have D:=R Q C;have y:0<Q.l.length:=D;have⟨rb,ro,F,a2,N,k1,k2,k3,k4⟩:=G.nod y;rw[<-Wn D]at N;clear k1 k2 k3 k4;simp only[EB,DW]at N;have⟨Qa,Qc,Z⟩:=Q;simp only at F D y T N;subst F;have⟨K,W⟩:=nM (Cv Z);rw[W]at N;have a0:Hid (aM ((qs.take (j+1)).map mB)=aM ((qs.take j).map mB)++[.string K,.string ⟨#[]⟩,.i 0,.n,.slice (some (aD rb ro)) Z.length Qc]):=by
    show _=_
    rw[AN hlt,L,BM,BH,DB,Au];simp only[mB,MN.cells,W];rfl
   clear L C hu t m E G W;go_wp2_with (at_builtin;apply fQ wr rfl (.tmp 13) (.tmp 22) 239 242 _ 5 88 rfl Tryz.underlying239 iT rfl (by decide) (.slice aa j ac) j (aM ((qs.take j).map mB)) rfl J [.string K,.string ⟨#[]⟩,.i 0,.n,.slice (some (aD rb ro)) Z.length Qc] rfl rfl (by simp[Value.oneCell']) (by omega) (by omega);intro v3 w3 H;obtain⟨g3,k3,rfl⟩:=H.shape (by decide));go_roundw
   case rel =>
    refine⟨j+1,by go_num,by omega,by rw[a0.o];exact H.row,A.t (H.fr.below A.size X),?_⟩;intro k h;rcases H.lies k h with h|h
    .exact X k h
    .exact vJ A.size h
   case measure=>simp[intOf];omega
  .obtain rfl:j=qs.length:=by omega
   go_wp2;go_ret;refine⟨_,qs,rfl,by rw[BK]at J;exact J,HL,λq h=>⟨(E q h).1,(E q h).2.on (vV A (λb h=>jY (hS b h) o.size))⟩,o.t (A.m o.size),λk h=>vJ o.size (X k h)⟩
inductive NT where
 |kept (t:T) (s:Sp)
 |leaf (s:Sp) (es:List En)
 |bran (s:Sp) (ks:List NT)
def NT.sp:NT->Sp
 |.kept _ s=>s
 |.leaf s _=>s
 |.bran s _=>s
def gF(n:NT):Nat:=n.sp.lo.size+3
def kF:List NT->ByteArray
 |[]=>⟨#[]⟩
 |n :: _=>n.sp.lo
def Pj(p:List En):NT:=.leaf ⟨iW p,⟨#[]⟩⟩ p
def Gy(p:List NT):NT:=.bran ⟨kF p,⟨#[]⟩⟩ p
def dB(es:List En):List NT:=(dV esz es).map Pj
def eH(ns:List NT):List NT:=(dV gF ns).map Gy
def dM:NT->Bool
 |.kept _ _=>false
 |.leaf _ es=>decide (tot esz es<62)
 |.bran _ ks=>decide (tot gF ks<62)
def NT.ents0:NT->List En
 |.kept (.leaf _ es) _=>es
 |.kept (.branch _ _ _) _=>[]
 |.leaf _ es=>es
 |.bran _ _=>[]
variable {J:List NT->Prop} {acc:List NT}
def qO(tog:NT->NT->List NT):List NT->List NT->List NT
 |[],next=>next
 |l :: acc,next=>match next with
  |[m]=>if dM l=true\/dM m=true then qO tog acc (tog l m) else (l :: acc).reverse++[m]
  |_=>(l :: acc).reverse++next
def tJ(tog:NT->NT->List NT)(acc next:List NT):List NT:=qO tog acc.reverse next
def xR(tog:NT->NT->List NT)(acc:List NT)(n:NT):List NT:=tJ tog acc [n]
def qP(tog:NT->NT->List NT)(ns:List NT):List NT:=ns.foldl (xR tog) []
def qCe {a l m}(h:dM l=true\/dM m=true):tJ a (acc++[l]) [m]=tJ a acc (a l m):=by
 rw[tJ,LB,KF,KK];exact AU h
def qCd {a l m}(h:¬(dM l=true\/dM m=true)):tJ a (acc++[l]) [m]=(acc++[l])++[m]:=by
 rw[tJ,LB,KF,KK];apply(AR h).t;rw[GU,HV]
def Vs{c acc next}(h:next.length≠1):tJ c acc next=acc++next:=by
 rcases KL acc with rfl|⟨a,b,rfl⟩
 .rfl
 .rw[tJ,KM,LB,KF,KK]
  match next,h with
  |[],_=>show(b :: a.reverse).reverse++[]=_;rw[GU,HV]
  |[_],h=>grind
  |x :: y :: r,_=>show(b :: a.reverse).reverse++_=_;rw[GU,HV]
def Be {a}(d:∀c l n B,J (c++l :: n :: B)->J (c++(a l n++B))):∀(acc next B:List NT),J (acc.reverse++(next++B))->J (qO a acc next++B)
 |[],next,B,h=>by simpa[qO] using h
 |l :: acc,next,B,h=>by
  match next,h with
  |[],h=>simpa[qO] using h
  |[m],h =>
   by_cases hs:dM l=true\/dM m=true
   .have b:qO a (l :: acc) [m]=qO a acc (a l m):=AU hs
    rw[b];exact Be d acc (a l m) B (d _ _ _ _ (by grind))
   .have b:qO a (l :: acc) [m]=(l :: acc).reverse++[m]:=AR hs
    grind
  |x :: y :: r,h=>simpa[qO] using h
def Bc {b}(c:∀a l n B,J (a++l :: n :: B)->J (a++(b l n++B))){n B}(h:J (acc++n :: B)):J (xR b acc n++B):=
 Be c acc.reverse [n] B (by grind)
def Fp {a}(c:∀b l n B,J (b++l :: n :: B)->J (b++(a l n++B))):∀{ns acc:List NT},J (acc++ns)->J (ns.foldl (xR a) acc)
 |[],acc,h=>by grind
 |n :: ns,acc,h=>Fp c (ns:=ns) (acc:=xR a acc n) (Bc c h)
def tI {b}(c:∀a l n B,J (a++l :: n :: B)->J (a++(b l n++B))){ns}(h:J ns):J (qP b ns):=Fp c (ns:=ns) (acc:=[]) h
def qIr(a b:NT):List NT:=dB (a.ents0++b.ents0)
def Rl(ns:List NT):List En:=ns.flatMap NT.ents0
def En.good(fs:Fs)(x:En):Prop:=lt ⟨#[]⟩ x.e.key=true/\x.e.key.size<=24 /\
  ((x.e.over=0/\x.ch=[]/\x.e.size=(x.e.val.size:Int)/\x.e.val.size<=400) \/
   (x.e.val=⟨#[]⟩/\bI x.e.over=true/\∃size over:Nat,x.e.size=size/\x.e.over=over/\60<size/\size<=400/\fD fs over size x.ch))
variable {es:List En} {x:En}
def Qt (h:x.good fs):esz x<=87:=by
 obtain⟨_,c,h|⟨d,_,f,e,a,_,b,_⟩⟩:=h
 .have⟨_,_,a,b⟩:=h
  unfold esz;split<;>omega
 .unfold esz;grind
def qQ (h:x.good fs):x.fits:=by
 obtain⟨_,a,h|⟨b,_⟩⟩:=h
 .exact⟨a,h.2.2.2⟩
 .refine⟨a,?_⟩;rw[b];decide
def Ok0(fs:Fs):NT->Prop
 |.kept (.leaf p es) s=>aV fs 0 (.leaf p es) s
 |.kept (.branch _ _ _) _=>False
 |.leaf s es=>es≠[]/\s.lo=iW es/\cQ es/\tot esz es<=250/\∀x∈es,x.good fs
 |.bran _ _=>False
def qNb(a b:NT):Prop:=∀x∈a.ents0,lt x.e.key b.sp.lo=true
structure Lst (fs:Fs) (ns:List NT):Prop where
 ok:∀n∈ns,Ok0 fs n
 lo:∀n∈ns,∀x∈n.ents0,le n.sp.lo x.e.key=true
 sep:ns.Pairwise qNb
def qAm {l}:cQ (x :: l)↔(∀a∈l,lt x.e.key a.e.key=true)/\cQ l:=BG
def Ak{l m}:cQ (l++m)↔cQ l/\cQ m/\∀x∈l,∀a∈m,lt x.e.key a.e.key=true:=CO
def Qy (h:cQ es):∀x∈es,le (iW es) x.e.key=true:=by
 intro x a;cases es with
 |nil=>simp at a
 |cons y l =>
  rcases AS.1 a with rfl|a
  .exact bD _
  .exact gV ((qAm.1 h).1 x a)
def rS (h:es≠[]):∃x∈es,iW es=x.e.key:=by
 cases es with
 |nil=>grind
 |cons y l=>exact⟨y,by simp,rfl⟩
def Ec:∀{ps:List (List En)},cQ ps.flatten->(∀x∈ps.flatten,x.good fs)->(∀p∈ps,p≠[])->(∀p∈ps,tot esz p<=250)->Lst fs (ps.map Pj)
 |[],_,_,_,_=>⟨by simp,by simp,by simp⟩
 |p :: ps,hr,hg,hne,hf=>by
  rw[FI]at hr hg;have⟨e,g,h⟩:=Ak.1 hr;have d:=Ec g (λx c=>hg x (by grind)) (λq b=>hne q (by simp[b])) (λq b=>hf q (by simp[b]));have i:Ok0 fs (Pj p):=⟨hne p (by simp),rfl,e,hf p (by simp),λx c=>hg x (by simp[c])⟩;refine⟨?_,?_,?_⟩
  .rw[BH];intro n a
   rcases AS.1 a with rfl|a
   .exact i
   .exact d.ok n a
  .rw[BH];intro n a
   rcases AS.1 a with rfl|a
   .exact Qy e
   .exact d.lo n a
  .rw[BH]
   refine BG.2 ⟨λn a x c=>?_,d.sep⟩;obtain⟨q,b,rfl⟩:=AW.1 a;have⟨k,j,f⟩:=rS (hne q (by simp[b]));show lt x.e.key (iW q)=true;rw[f];exact h x c k (GD.2 ⟨q,b,j⟩)
def pJ (a:∀x∈es,x.good fs):∀x∈es,esz x<=250:=λx b=>by have:=Qt (a x b);omega
def Ph (c:cQ es)(a:∀x∈es,x.good fs):Lst fs (dB es):=by
 have b:=mA esz es (pJ a);exact Ec (by grind) (by grind) (xZ esz es (pJ a)) (Ry esz es)
def Mj(ps:List (List En)):Rl (ps.map Pj)=ps.flatten:=by
 induction ps with
 |nil=>rfl
 |cons p ps ih=>simp only[Rl,BH,AK,FI]at ih⊢;rw[ih];rfl
def Ma (a:∀x∈es,x.good fs):Rl (dB es)=es:=by
 rw[dB,Mj,mA esz es (pJ a)]
def Vf (a:∀x∈es,x.good fs):∀n∈dB es,∃x∈es,n.sp.lo=x.e.key:=by
 intro n d;obtain⟨p,b,rfl⟩:=AW.1 d;have⟨x,e,c⟩:=rS (xZ esz es (pJ a) p b);refine⟨x,?_,c⟩;rw[<-mA esz es (pJ a)];exact GD.2 ⟨p,b,e⟩
def kJ {s}(h:aV fs 0 (.leaf p es) s):∀x∈es,x.good fs:=by
 have⟨g,r,t,q,_,_,v⟩:=h;intro x f;have⟨_,u⟩:=Qr r t;have⟨n,o,e⟩:=u x.e (by grind);refine⟨n,o,?_⟩;have⟨z,k,w,i,y,j⟩:=v x f;simp only[qB,DR,AP,CT,BT]at e;rcases e with⟨⟨a,c⟩,d⟩|⟨⟨⟨a,c⟩,d⟩,A⟩
 .grind
 .have:k≠0:=by
   intro l;rw[i,l]at a;simp[bI]at a
  rcases j with⟨m,_⟩|⟨_,b⟩
  .omega
  .exact .inr ⟨by exact lZ.1 c,a,z,k,w,i,by omega,y,b⟩
def Oq {n}(h:Ok0 fs n):n.ents0≠[]/\cQ n.ents0/\∀x∈n.ents0,x.good fs:=by
 cases n with
 |kept t s =>
  cases t with
  |leaf p es=>exact⟨by have⟨g,_,_,_,a,_⟩:=h;exact a,eB (h:=0) h,kJ h⟩
  |branch=>exact h.elim
 |leaf s es=>exact⟨h.1,h.2.2.1,h.2.2.2.2⟩
 |bran=>exact h.elim
def Xx {o1 a:Obj}:((w.alloc o1).alloc a).heap[w.heap.size]?=some o1/\((w.alloc o1).alloc a).heap[w.heap.size+1]?=some a/\bW w ((w.alloc o1).alloc a):=
 ⟨aQ _ (aC _ _),uM _ _ _ (by simp),(bA _ _).alloc (by simp) _⟩
def sL(root:Int)(β:Nat)(b:Option Addr)(d c:Nat)(q:Sp)(w:World):
  cL 98 #[.agg #[.p β 0,.i root,.s b d c],.agg #[.t q.lo,.t q.hi]] w λe w' =>
   e=.r (.func (.func 134) #[] #[.p w.heap.size 0,.p (w.heap.size+1) 0]) /\
   cW w' w.heap.size #[.p β 0,.i root,.s b d c] 90/\cW w' (w.heap.size+1) #[.t q.lo,.t q.hi] 154/\bW w w':=by
 have f:∀a,a=((w.alloc (.cells #[.p β 0,.i root,.s b d c] 90)).alloc (.cells #[.t q.lo,.t q.hi] 154)) ->
   (cW a w.heap.size #[.p β 0,.i root,.s b d c] 90/\cW a (w.heap.size+1) #[.t q.lo,.t q.hi] 154/\bW w a):=by
  rintro a rfl;exact Xx
 go_enter Tryz.func98,Tryz.ntmps98;go_wp2;go_ret;exact⟨rfl,f _ rfl⟩
def uW(f:Nat)(g:Array Value)(b:Option Addr)(d c:Nat)(w:World):
  cL 175 #[.func (.func f) #[] g,.s b d c] w λe w' =>
   e=.r (.func (.func 195) #[] #[.p (w.heap.size+1) 0,.p w.heap.size 0]) /\
   cW w' w.heap.size #[.func (.func f) #[] g] 151/\cW w' (w.heap.size+1) #[.s b d c] 88/\bW w w':=by
 have h:∀a,a=((w.alloc (.cells #[.func (.func f) #[] g] 151)).alloc (.cells #[.s b d c] 88)) ->
   (cW a w.heap.size #[.func (.func f) #[] g] 151/\cW a (w.heap.size+1) #[.s b d c] 88/\bW w a):=by
  rintro a rfl;exact Xx
 go_enter Tryz.func175,Tryz.ntmps175;go_wp2;go_ret;exact⟨rfl,h _ rfl⟩
def Nk(b:Option Addr)(d c:Nat)(w:World):
  cL 205 #[.s b d c] w λe w' =>
   e=.r (.func (.func 214) #[] #[.p w.heap.size 0]) /\
   cW w' w.heap.size #[.s b d c] 67/\bW w w':=by
 have f:∀a,a=(w.alloc (.cells #[.s b d c] 67))->(cW a w.heap.size #[.s b d c] 67/\bW w a):=by
  rintro a rfl;exact⟨aC _ _,bA _ _⟩
 go_enter Tryz.func205,Tryz.ntmps205;go_wp2;go_ret;exact⟨rfl,f _ rfl⟩
def kV{cs}(h:cF cs)(q:Sp):cF (dF cs q):=EM _ h
def qFl(cs:List Ch)(q:Sp):(dF cs q).length<=cs.length:=KN _ _
def RdE(S:Bl)(β:Nat)(sv lv:Value)(w w':World):Bl:=λk=>S k\/fpF β sv lv k\/(w.heap.size<=k/\k<w'.heap.size)
def Hx(β:Nat)(sv lv:Value)(fs:Fs)(root:Nat)(h:Option Addr)(n:Nat)(cs:List Ch)(q:Sp)(o:Option (Nat×T))(E:o≠none->(fs.life==0)=false)(F:bQ fs root o)(S:Bl)(w j d:World)(p:aF w β sv lv fs)(z:aH w S h (cs.flatMap Ch.cells))(A:lW S w)(hr:cF cs)(hn:cs.length<=1000000)(e f:Nat)(v:cW j e #[.p β 0,.i root,.s h cs.length n] 90)(t:cW j (e+1) #[.t q.lo,.t q.hi] 154)(l:bW j d)(a:Option Addr)(c:Nat)(k:Ih S h cs a c (dF cs q))(s:cW d f #[.func (.func 134) #[] #[.p e 0,.p (e+1) 0]] 151)(r:cW d (f+1) #[.s a (dF cs q).length c] 88)(m:bW w d)(C:w.heap.size<=e)(B:w.heap.size<=f):
  nH Tryz.prog 195 #[.p (f+1) 0,.p f 0] pL (bF (cU q o) (dF cs q)) (RdE S β sv lv w d) d:=by
 have x:=(l.block e (gL v)).t v;have u:=(l.block (e+1) (gL t)).t t;have y:=Ag β sv lv fs root h cs.length n q o E F e (e+1) (RdE S β sv lv w d) d x u (p.on (vV m (λi g=>p.lies i g))) (.inr (.inr ⟨C,(gL x)⟩)) (.inr (.inr ⟨by omega,(gL u)⟩)) (λi g=>.inr (.inl g));exact Jf _ _ (enters_of Tryz.func134 (by kernel_rfl) rfl) _ _ (f+1) f a c (dF cs q) S (RdE S β sv lv w d) d y r s (k.2.1 _ (z.on (vV m A))) (kV hr q) (vJ (qFl cs q) hn) k.1 k.2.2 (.inr (.inr ⟨by omega,(gL r)⟩)) (.inr (.inr ⟨B,(gL s)⟩)) (λi g=>.inl g) (λi g=>g)
def eN{B W a c}(b:Below B W a)(d:B<=W.heap.size)(e:bW a c):Below B W c:=b.t (e.m (vJ d b.size))
def Bn(β:Nat)(root:Nat)(i:Option Addr)(o:Nat)(cs:List Ch)(q:Sp)(S:Bl)(w:World)(z:aH w S i (cs.flatMap Ch.cells))(A:lW S w)(hr:cF cs)(hn:cs.length<=1000000)(N:cs.length<=o)(O:(i=none/\o=0)\/∃b Q,i=some (aD b Q))(Z:Array Value->World->Prop)(y:∀(f u:World) (m s:Nat),cW f m #[.p β 0,.i root,.s i cs.length o] 90->cW f (m+1) #[.t q.lo,.t q.hi] 154->bW f u->∀(a:Option Addr) (c:Nat),Ih S i cs a c (dF cs q)->cW u s #[.func (.func 134) #[] #[.p m 0,.p (m+1) 0]] 151->cW u (s+1) #[.s a (dF cs q).length c] 88->bW w u->w.heap.size<=m->w.heap.size<=s->Z #[.p (s+1) 0,.p s 0] u):
  cL 165 #[.agg #[.p β 0,.i root,.s i cs.length o],.t q.lo,.t q.hi] w λe w'=>∃C,e=.r (.func (.func 195) #[] C)/\Z C w'/\bW w w':=by
 have⟨g,B⟩:=nM (w.alloc (.cells #[.p β 0,.i root,.s i cs.length o] 90));have r:bW w g:=B▸(bA _ _);have x:cW g w.heap.size #[.p β 0,.i root,.s i cs.length o] 90:=B▸aC w _;have⟨X,Y,J⟩:=eC x;have k:=(gL x);have v:∀W,Below (w.heap.size+1) g W->bW w W:=λW h=>r.t (h.m (DO _));have d:Below (w.heap.size+1) g g:=AC _ _;go_enter Tryz.func165,Tryz.ntmps165;go_wp2;go_region_with (first
  |(go_at_call 98;apply((λW=>sL root β i cs.length o q W) _).m;rintro e f ⟨rfl,V,U,t⟩;have j:bW f f:=AC _ _;have d:Below (w.heap.size+1) g f:=(by first|exact eN d k t|exact eN d.drew k t|exact eN d.drew.drew k t);have⟨G,H,I⟩:=eC ((d.block w.heap.size (DH _)).t x))
  |(go_at_call 176;apply((λW (h:Below (w.heap.size+1) g W)=>Dd i o cs q S W (z.on (vV (v W h) A)) (λb M=>jY (A b M) (v W h).size) hr hn N O) _ (by first|exact d|exact d.drew|exact d.drew.drew)).m;rintro e D ⟨a,c,rfl,P,l⟩;try (have j:bW f D:=(by first|exact eN j (jU _) l|exact eN j.drew (jU _) l|exact eN j.drew.drew (jU _) l));have d:Below (w.heap.size+1) g D:=(by first|exact eN d k l|exact eN d.drew k l|exact eN d.drew.drew k l);have⟨G,H,I⟩:=eC ((d.block w.heap.size (DH _)).t x))
  |(go_at_call 175;apply((λm a n c W=>uW 134 #[.p m 0,.pointer (some (aD (m+1) 0))] a n c W) _ _ _ _ _).m;rintro e E ⟨rfl,T,R,p⟩;have j:bW f E:=(by first|exact eN j (jU _) p|exact eN j.drew (jU _) p|exact eN j.drew.drew (jU _) p);have d:Below (w.heap.size+1) g E:=(by first|exact eN d k p|exact eN d.drew k p|exact eN d.drew.drew k p)))
 all_goals go_wp2
 all_goals go_ret
 all_goals exact⟨_,rfl,y _ _ _ _ V U j _ _ P T R (v _ d) (by first|exact r.size|exact vJ r.size l.size) (by first|exact vJ r.size (vJ t.size l.size)|exact vJ r.size (vJ l.size t.size)),v _ d⟩
def xU(β:Nat)(sv lv:Value)(fs:Fs)(root:Nat)(d:Option Addr)(f:Nat)(cs:List Ch)(q:Sp)(o:Option (Nat×T))(v:o≠none->(fs.life==0)=false)(x:bQ fs root o)(S:Bl)(w:World)(u:aF w β sv lv fs)(h:aH w S d (cs.flatMap Ch.cells))(i:lW S w)(hr:cF cs)(hn:cs.length<=1000000)(r:cs.length<=f)(s:(d=none/\f=0)\/∃b y,d=some (aD b y)):
  cL 165 #[.agg #[.p β 0,.i root,.s d cs.length f],.t q.lo,.t q.hi] w λe w'=>∃g,e=.r (.func (.func 195) #[] g)/\nH Tryz.prog 195 g pL (bF (cU q o) (dF cs q)) (RdE S β sv lv w w') w'/\bW w w' :=
 Bn β root d f cs q S w h i hr hn r s (λg w'=>nH Tryz.prog 195 g pL (bF (cU q o) (dF cs q)) (RdE S β sv lv w w') w') (λz A m l E D j a c t C B k n p=>Hx β sv lv fs root d f cs q o v x S w z A u h i hr hn m l E D j a c t C B k n p)
def Ch.good(c:Ch):Prop:=lt ⟨#[]⟩ c.key=true/\c.key.size<=24/\c.val.size<=400
variable {cs:List Ch}
def Sq {c}(h:c.good):(chE c).good fs:=⟨h.1,h.2.1,.inl ⟨rfl,rfl,rfl,h.2.2⟩⟩
def gA (b:cQ es)(d:cF cs)(a):a∈bF es cs↔(∃c∈cs,c.gone=false/\a=chE c)\/(a∈es/\∀c∈cs,c.key≠a.e.key):=by
 rw[nQ];exact uI es cs b d a
def nO (a:cQ es)(b:cF cs):cQ (bF es cs):=by
 rw[nQ];exact sN es cs a b
def kM (e:cQ es)(g:cF cs)(f:∀x∈es,x.good fs)(d:∀c∈cs,c.good):∀a∈bF es cs,a.good fs:=by
 intro a h;rcases(gA e g a).1 h with⟨c,b,_,rfl⟩|⟨b,_⟩
 .exact Sq (d c b)
 grind
def nP (a:cQ es):bF es []=es:=by
 apply wP (nO a .nil) a;intro b;rw[gA a .nil];simp
def mF {q c}:c∈dF cs q↔c∈cs/\q.has c.key=true:=by simp[dF]
def An{f}:∀(s:Sp) (ks:List ByteArray) (b:List f),b.length=ks.length+1->∀k,s.has k=true->∃x∈parts s ks b,x.2.has k=true
 |s,_,[],hl,_,_=>by simp at hl
 |s,[],a :: b,hl,k,hk=>⟨(a,s),by simp[parts],hk⟩
 |s,q :: ks,a :: b,hl,k,hk=>by
  rcases qK k q with c|c
  .refine⟨(a,⟨s.lo,q⟩),by simp[parts],?_⟩
   simp only[Sp.has,AP]at hk⊢;exact⟨hk.1,gD.2 (.inr c)⟩
  .have⟨x,d,e⟩:=An ⟨q,s.hi⟩ ks b (by grind) k (by
    simp only[Sp.has,AP]at hk⊢;grind)
   exact⟨x,by simp[parts,d],e⟩
def Lg(k):(⟨⟨#[]⟩,⟨#[]⟩⟩:Sp).has k=true:=by
 simp only[Sp.has,AP];exact⟨yY k,gD.2 (.inl rfl)⟩
def yA{h}(a m)(r:m<=125):∀(k:Nat) (l:List h),l.length<=k->(∀x∈l,a x<=m)->250<tot a l->∀p∈dV a l,251<=2 * tot a p+m
 |0,l,hk,hs,hb=>by
  have:l=[]:=by cases l<;>simp_all
  subst this;simp[tot]at hb
 |k+1,l,hk,hs,hb=>by
  have g:∀x∈l,a x<=250:=λx e=>by grind
  have z:=rB a l hb g;have f:=yO a (tot a l) l hb;have w:=uD a (tot a l) l 0 (by omega);have t:=yM a l (shN a (tot a l) l 0);have B:=hs _ (AA f);have⟨n,s⟩:∃n,shN a (tot a l) l 0=n+1:=⟨shN a (tot a l) l 0-1,by omega⟩;have d:n<l.length:=by omega
  have v:=(Dq a (tot a l) l 0 n (by omega) d).1 (by omega);have C:=hs _ (AA d);have A:=lP a l n d;have y:¬(2 * (0+tot a (l.take (shN a (tot a l) l 0)))+a l[shN a (tot a l) l 0]<=tot a l/\0+tot a (l.take (shN a (tot a l) l 0))+a l[shN a (tot a l) l 0]<=250):=λc=>Nat.lt_irrefl _ ((Dq a (tot a l) l 0 _ (jU _) f).2 c);have o:251<=2 * tot a (l.take (shN a (tot a l) l 0))+m:=by omega
  have j:∀x∈l.drop (shN a (tot a l) l 0),a x<=m:=λx e=>hs x (BS e);have q:251<=2 * tot a (l.drop (shN a (tot a l) l 0))+m:=by grind
  intro p b;rw[zR a l g hb]at b;rcases AS.1 b with rfl|b
  .exact o
  .by_cases c:250<tot a (l.drop (shN a (tot a l) l 0))
   .exact yA a m r k _ (by grind) j c p b
   .rw[jL a _ (by omega)]at b
    grind
variable {fs:Fs} {h:Nat} {s:Sp}
def NT.entsH:Nat->NT->List En
 |h,.kept t _=>T.ents h t
 |_,.leaf _ es=>es
 |0,.bran _ _=>[]
 |h+1,.bran _ ks=>ks.flatMap (NT.entsH h)
variable {ns:List NT}
def bL(h:Nat)(ns:List NT):List En:=ns.flatMap (NT.entsH h)
def eR(h a b):bL h (a++b)=bL h a++bL h b:=by simp[bL]
def kQ(h n a):bL h (n :: a)=n.entsH h++bL h a:=by rfl
def qIo(h:Nat)(a b:NT):Prop:=∀x∈a.entsH h,lt x.e.key b.sp.lo=true
def iG(ns:List NT):Prop:=ns.length=1\/∀n∈ns,dM n=false
def OkH(fs:Fs):Nat->NT->Prop
 |h,.kept t s=>aV fs h t s/\s.lo.size<=24/\bI (t.place:Nat)=true
 |0,.leaf s es=>es≠[]/\s.lo=iW es/\cQ es/\tot esz es<=250/\∀x∈es,x.good fs
 |h+1,.bran s ks=>ks≠[]/\s.lo=kF ks/\tot gF ks<=250/\iG ks/\(∀n∈ks,OkH fs h n/\∀x∈n.entsH h,le n.sp.lo x.e.key=true)/\ks.Pairwise (qIo h)
 |_,_=>False
structure eD (fs:Fs) (h:Nat) (ns:List NT):Prop where
 ok:∀n∈ns,OkH fs h n
 lo:∀n∈ns,∀x∈n.entsH h,le n.sp.lo x.e.key=true
 sep:ns.Pairwise (qIo h)
def eD.sub {b ns}(L:eD fs h ns)(s:b.Sublist ns):eD fs h b:=⟨λn a=>L.ok n (s.subset a),λn a=>L.lo n (s.subset a),L.sep.sublist s⟩
def tK {k}(h:s.has k=true):le s.lo k=true:=by
 simp only[Sp.has,AP]at h;exact h.1
def vY {k}(h:s.has k=true):Sp.below s.hi k=true:=by
 simp only[Sp.has,AP]at h;exact h.2
def qJ {fs:Fs}{b ks a}{x:b×Sp}(h:x∈parts s ks a):x.1∈a:=by
 have:x.1∈(parts s ks a).map (·.1):=AW.2 ⟨x,h,rfl⟩;rwa[jG]at this
def nX:∀{h:Nat}{t:T}{s:Sp},aV fs h t s->T.ents h t≠[]/\∀x∈T.ents h t,x.good fs
 |0,.leaf p es,s,ht=>⟨by have⟨g,_,_,_,l,_⟩:=ht;exact l,kJ ht⟩
 |0,.branch _ _ _,s,ht=>ht.elim
 |h+1,.leaf _ _,s,ht=>by simp[aV]at ht
 |h+1,.branch p ks kids,s,ht=>by
  have⟨k,n,m,_,j⟩:=dO ht;have i:∀a∈kids,∃c,aV fs h a c:=λa d=>by
   have⟨c,b⟩:=mJ (s:=s) (ks:=ks) d;grind
  refine⟨λf=>?_,λx e=>?_⟩
  .cases kids with
   |nil=>simp at k
   |cons a kids =>
    have⟨c,b⟩:=i a (by simp);simp only[T.ents,AK,ER]at f;exact(nX b).1 f.1
  .have⟨a,d,e⟩:=AX.1 e
   have⟨c,b⟩:=i a d;exact(nX b).2 x e
def zM (d:∀n,OkH fs h n->n.entsH h≠[]/\cQ (n.entsH h)/\∀x∈n.entsH h,x.good fs):∀{ns:List NT},eD fs h ns->cQ (bL h ns)/\∀x∈bL h ns,x.good fs
 |[],_=>⟨.nil,by simp[bL]⟩
 |n :: ns,L=>by
  have⟨f,m⟩:=BG.1 L.sep;have⟨g,i⟩:=zM d (ns:=ns) (L.sub (List.sublist_cons_self n ns));have⟨o,j,k⟩:=d n (L.ok n (by simp));rw[kQ];refine⟨Ak.2 ⟨j,g,λx a l b=>?_⟩,λx a=>(AO.1 a).elim (k x) (i x)⟩;have⟨e,c,b⟩:=AX.1 b;exact cA (f e c x a) (L.lo e (by simp[c]) l b)
def kC:∀{h:Nat}{n:NT},OkH fs h n->n.entsH h≠[]/\cQ (n.entsH h)/\∀x∈n.entsH h,x.good fs
 |h,.kept t s,H=>by
  have c:aV fs h t s:=by cases h<;>exact H.1
  have b:(NT.kept t s).entsH h=T.ents h t:=by cases h<;>rfl
  rw[b];exact⟨(nX c).1,eB c,(nX c).2⟩
 |0,.leaf s es,H=>⟨H.1,H.2.2.1,H.2.2.2.2⟩
 |0,.bran _ _,H=>H.elim
 |h+1,.leaf _ _,H=>H.elim
 |h+1,.bran s ks,H=>by
  have⟨k,m,o,p,d,l⟩:=H;have f:eD fs h ks:=⟨λn a=>(d n a).1,λn a=>(d n a).2,l⟩;have⟨i,j⟩:=zM (λn a=>kC a) f;refine⟨λb=>?_,i,j⟩;cases ks with
  |nil=>exact k rfl
  |cons e ks =>
   have g:(NT.bran s (e :: ks)).entsH (h+1)=e.entsH h++ks.flatMap (NT.entsH h):=by rfl
   rw[g,ER]at b;exact(kC (d e (by simp)).1).1 b.1
def eD.rise (L:eD fs h ns):cQ (bL h ns):=(zM (λn a=>kC a) L).1
def rI:∀{h:Nat}{n:NT},OkH fs h n->n.sp.lo.size<=24
 |h,.kept t s,H=>by cases h<;>exact H.2.1
 |0,.leaf s es,H=>by
  have⟨f,e,a⟩:=rS H.1;show s.lo.size<=24;rw[H.2.1,a];exact(H.2.2.2.2 f e).2.1
 |0,.bran _ _,H=>H.elim
 |h+1,.leaf _ _,H=>H.elim
 |h+1,.bran s ks,H=>by
  have⟨b,c,_,_,d,_⟩:=H;show s.lo.size<=24;rw[c];cases ks with
  |nil=>grind
  |cons k ks=>exact rI (d k (by simp)).1
def eD.los (L:eD fs h ns):ns.Pairwise (λa b=>lt a.sp.lo b.sp.lo=true):=by
 refine JS ?_ L.sep;intro a b c g f;have⟨e,d⟩:=GE _ (kC (L.ok a c)).1;exact dZ (L.lo a c e d) (f e d)
def eD.first (L:eD fs h ns):∀n∈ns,le (kF ns) n.sp.lo=true:=by
 intro n a;cases ns with
 |nil=>simp at a
 |cons m ns =>
  rcases AS.1 a with rfl|a
  .exact bD _
  .exact gV ((BG.1 L.los).1 n a)
def eD.swap {g M B l n}(L:eD fs h (g++l :: n :: B))(i:eD fs h M)(o:bL h M=l.entsH h++n.entsH h)(q:∀m∈M,le l.sp.lo m.sp.lo=true):
  eD fs h (g++(M++B))/\bL h (g++(M++B))=bL h (g++l :: n :: B):=by
 have⟨r,f,p⟩:=CO.1 L.sep;have⟨s,f⟩:=BG.1 f;have⟨t,f⟩:=BG.1 f;refine⟨⟨?_,?_,?_⟩,by rw[eR,eR,eR,o,kQ,kQ,BU]⟩
 .intro m c
  simp only[AO]at c;rcases c with c|c|c
  .exact L.ok m (by simp[c])
  .exact i.ok m c
  .exact L.ok m (by simp[c])
 .intro m c
  simp only[AO]at c;rcases c with c|c|c
  .exact L.lo m (by simp[c])
  .exact i.lo m c
  .exact L.lo m (by simp[c])
 .refine CO.2 ⟨r,CO.2 ⟨i.sep,f,λm c b k e d=>?_⟩,λa j m c e d=>?_⟩
  .have:e∈l.entsH h++n.entsH h:=by rw[<-o];exact AX.2 ⟨m,c,d⟩
   rcases AO.1 this with d|d
   .exact s b (by simp[k]) e d
   .exact t b k e d
  .rcases AO.1 c with c|c
   .exact cA (p a j l (by simp) e d) (q m c)
   .exact p a j m (by simp[c]) e d
def Mb {es}(q:cQ es)(e:∀x∈es,x.good fs)(j:es≠[]):eD fs 0 (dB es)/\bL 0 (dB es)=es/\dB es≠[]/\iG (dB es)/\∀n∈dB es,∃x∈es,n.sp.lo=x.e.key:=by
 have i:=Ph q e;have g:∀n∈dB es,n.entsH 0=n.ents0:=λn c=>by
  obtain⟨p,_,rfl⟩:=AW.1 c;rfl
 have h:bL 0 (dB es)=es:=by
  have k:bL 0 (dB es)=Rl (dB es):=by
   unfold bL Rl;rw[JW,JW,EF g]
  rw[k,Ma e]
 refine⟨⟨?_,λn c x d=>i.lo n c x (by grind),JS (λ{a b} l _ m x d=>m x (by grind)) i.sep⟩,h,λf=>by rw[f]at h;exact j h.symm,?_,Vf e⟩
 .intro n c
  have:=i.ok n c;obtain⟨p,_,rfl⟩:=AW.1 c;exact this
 .by_cases hb:250<tot esz es
  .right
   intro n c;obtain⟨p,o,rfl⟩:=AW.1 c;have:=yA esz 87 (by decide) es.length es (jU _) (λx d=>Qt (e x d)) hb p o;simp only[Pj,dM,FL];omega
  .left
   rw[dB,jL esz es (by omega),AR (λf=>j (AH f))];rfl
def Bi{p}(h:p≠[]):∃n∈p,kF p=n.sp.lo:=by
 cases p with
 |nil=>grind
 |cons n p=>exact⟨n,by simp,rfl⟩
def wV:∀{ps:List (List NT)},eD fs h ps.flatten->(∀p∈ps,p≠[])->(∀p∈ps,tot gF p<=250)->(∀p∈ps,iG p)->eD fs (h+1) (ps.map Gy)/\bL (h+1) (ps.map Gy)=bL h ps.flatten
 |[],_,_,_,_=>⟨⟨by simp,by simp,by simp⟩,rfl⟩
 |p :: ps,L,hne,hf,ht=>by
  rw[FI]at L;have⟨s,t,r⟩:=CO.1 L.sep;have e:=L.sub (List.sublist_append_left _ _);have⟨f,l⟩:=wV (L.sub (MO _ _)) (λq b=>hne q (by simp[b])) (λq b=>hf q (by simp[b])) (λq b=>ht q (by simp[b]));have i:∀d∈(Gy p).entsH (h+1),le (Gy p).sp.lo d.e.key=true:=by
   intro d c;have⟨n,a,c⟩:=AX.1 c;exact bG (e.first n a) (e.lo n a d c)
  refine⟨⟨?_,?_,?_⟩,by rw[BH,kQ,l,FI,eR];rfl⟩
  .rw[BH];intro n a
   rcases AS.1 a with rfl|a
   .exact⟨hne p (by simp),rfl,hf p (by simp),ht p (by simp),λn a=>⟨e.ok n a,e.lo n a⟩,e.sep⟩
   .exact f.ok n a
  .rw[BH];intro n a
   rcases AS.1 a with rfl|a
   .exact i
   .exact f.lo n a
  .rw[BH]
   refine BG.2 ⟨λn a d c=>?_,f.sep⟩;obtain⟨q,b,rfl⟩:=AW.1 a;have⟨m,j,g⟩:=Bi (hne q (by simp[b]));show lt d.e.key (kF q)=true;rw[g];have⟨o,k,c⟩:=AX.1 c;exact r o k m (GD.2 ⟨q,b,j⟩) d c
def Mx (L:eD fs h ns)(s:iG ns)(j:ns≠[]):eD fs (h+1) (eH ns)/\bL (h+1) (eH ns)=bL h ns/\eH ns≠[]/\iG (eH ns)/\∀m∈eH ns,∃n∈ns,m.sp.lo=n.sp.lo:=by
 have i:∀n∈ns,gF n<=27:=λn a=>by have:=rI (L.ok n a);unfold gF;omega
 have f:∀n∈ns,gF n<=250:=λn a=>by grind
 have c:=mA gF ns f;have g:=xZ gF ns f;have q:∀p∈dV gF ns,iG p:=by
  intro p b;rcases s with e|e
  .obtain⟨n,rfl⟩:=ES.1 e
   have o:tot gF [n]<=250:=by simpa[tot] using f n (by simp)
   rw[jL gF [n] o,AR (by simp)]at b;rw[AJ]at b;subst b;exact .inl rfl
  .refine .inr (λn a=>e n ?_)
   rw[<-c];exact GD.2 ⟨p,b,a⟩
 have⟨k,l⟩:=wV (fs:=fs) (h:=h) (ps:=dV gF ns) (by grind) g (Ry gF ns) q;refine⟨k,by rw[eH,l,c],λd=>?_,?_,?_⟩
 .have:=List.map_eq_nil_iff.1 d
  grind
 .by_cases hb:250<tot gF ns
  .right
   intro n a;obtain⟨p,b,rfl⟩:=AW.1 a;have:=yA gF 27 (by decide) ns.length ns (jU _) i hb p b;simp only[Gy,dM,FL];omega
  .left
   rw[eH,jL gF ns (by omega),AR (λd=>j (AH d))];rfl
 .intro m r
  obtain⟨p,b,rfl⟩:=AW.1 r;have⟨n,a,d⟩:=Bi (g p b);exact⟨n,by rw[<-c];exact GD.2 ⟨p,b,a⟩,d⟩
