import Derived.Test.YtdhgdcjmhofhaaaGreatD24
set_option linter.all false
set_option maxRecDepth 100000
set_option maxHeartbeats 8000000
namespace Go.Proofs.YtdhgdcjmhofhaaaGreat.Tree
open Go.RowKit Pages
variable {cs:List Ch} {fs:Fs}
def ovr:List En->List Ch->List En
 |[],cs=>dC cs
 |x :: es,cs=>dC (cs.take (cZ cs x.e.key))++((if fnd cs x.e.key=true then [] else [x])++ovr es (cs.drop (cZ cs x.e.key)))
theorem Iv:∀(es:List En) (a:List En×List Ch),(es.foldl nH a).1++dC (es.foldl nH a).2=a.1++ovr es a.2
 |[],a=>rfl
 |x :: es,a=>by
  rw[LK,Iv es (nH a x)];simp[nH,ovr,BX]
theorem mW(es cs):bD es cs=ovr es cs:=by
 have:=Iv es ([],cs);simpa[bD,fQ] using this
def cM(es:List En):Prop:=es.Pairwise (λa b=>lt a.e.key b.e.key=true)
theorem Dr {d}:d∈dC cs↔∃c∈cs,c.gone=false/\d=chE c:=by
 unfold dC;grind
theorem Bd {k c}(h:c∈cs.take (cZ cs k)):lt c.key k=true:=by
 obtain⟨a,d,rfl⟩:=AU h;rw[AZ]at d;rw[List.getElem_take];have⟨_,b⟩:=tH (cs:=cs) (k:=k) (i:=a) (by omega);exact b
theorem qIb (b:cJ cs){k c}(h:c∈cs.drop (cZ cs k)):lt c.key k=false:=by
 obtain⟨d,a,rfl⟩:=AU h;rw[BH]at a;rw[GG];exact qL b (by omega) (by omega)
theorem Bo (m:cJ cs)(k):fnd cs k=true↔∃c∈cs,c.key=k:=by
 unfold fnd;cases h:cs[cZ cs k]? with
 |none =>
  simp only[EO,false_iff];rintro⟨c,a,rfl⟩;rw[LY]at h;obtain⟨j,f,rfl⟩:=AU a;have⟨_,b⟩:=tH (cs:=cs) (k:=cs[j].key) (i:=j) (by omega);rw[cF]at b;cases b
 |some c =>
  have⟨f,a⟩:=AD.1 h;have l:lt c.key k=false:=by rw[<-a];exact qL m (jU _) f
  simp only[KX];constructor
  ·intro p
   exact⟨c,a▸AB f,kU l p⟩
  ·rintro⟨d,n,rfl⟩
   obtain⟨g,o,rfl⟩:=AU n;rcases GH g (cZ cs cs[g].key) with e|e|e
   ·have⟨_,b⟩:=tH e
    rw[cF]at b;cases b
   ·grind
   ·have i:=BB.1 m _ g f o e
    grind
theorem xX (n){c:Ch}:c∈cs↔c∈cs.take n\/c∈cs.drop n:=by
 conv=>lhs;rw[<-CB n cs]
 grind
theorem tN:∀(es:List En) (cs:List Ch),cM es->cJ cs->∀d,d∈ovr es cs↔(∃c∈cs,c.gone=false/\d=chE c)\/(d∈es/\∀c∈cs,c.key≠d.e.key)
 |[],cs,_,_,d=>by simp only[ovr,Dr,FC,false_and,KI]
 |x :: es,cs,he,hr,d=>by
  have n:cJ (cs.drop (cZ cs x.e.key)):=GL (EX _ _) hr;have⟨o,m⟩:=BC.1 he;simp only[ovr,AO,Dr,tN es _ m n d];have k:=Bo hr x.e.key;constructor
  ·rintro(⟨c,a,g,rfl⟩|b|⟨c,a,g,rfl⟩|⟨b,h⟩)
   ·grind
   ·grind
   ·grind
   ·refine .inr ⟨KJ _ b,λc a f=>?_⟩
    rcases(xX (cZ cs x.e.key)).1 a with e|e
    ·have j:=eV (Bd e) (o d b);rw[f,cF]at j;cases j
    grind
  ·rintro(⟨c,a,g,rfl⟩|⟨b,h⟩)
   ·rcases(xX (cZ cs x.e.key)).1 a with e|e
    ·grind
    grind
   grind
theorem Hp (a:cJ cs):cM (dC cs):=by
 unfold dC cM;rw[EI];exact EF _ a
theorem rU:∀(es:List En) (cs:List Ch),cM es->cJ cs->cM (ovr es cs)
 |[],cs,_,hr=>Hp hr
 |x :: es,cs,he,hr=>by
  have l:cJ (cs.drop (cZ cs x.e.key)):=GL (EX _ _) hr;have⟨o,k⟩:=BC.1 he;have m:∀e∈ovr es (cs.drop (cZ cs x.e.key)),lt e.e.key x.e.key=false/\(fnd cs x.e.key=false->lt x.e.key e.e.key=true):=by
   intro e g;rcases(tN es _ k l e).1 g with⟨c,h,_,rfl⟩|⟨g,_⟩
   ·have j:=qIb hr h
    refine⟨j,λi=>?_⟩;cases h2:lt x.e.key c.key with
    |true=>exact h2
    |false =>
     have:=(Bo hr x.e.key).2 ⟨c,BO h,kU j h2⟩;grind
   ·exact⟨Dv (o e g),λ_=>o e g⟩
  have n:∀e∈dC (cs.take (cZ cs x.e.key)),lt e.e.key x.e.key=true:=by
   intro e g;obtain⟨c,h,_,rfl⟩:=Dr.1 g;exact Bd h
  simp only[ovr];refine CI.2 ⟨Hp (GL (FK _ _) hr),CI.2 ⟨by split<;>simp,rU es _ k l,by grind⟩,?_⟩
  ·intro a f b d
   rcases AO.1 d with d|d
   ·grind
   ·exact bT (n a f) (Di.1 (m b d).1)
theorem nP{o}:∀(s:Sp) (ks:List ByteArray) (c:List o),c.length=ks.length+1->ks.Pairwise (λa b=>lt a b=true)->(∀k∈ks,lt s.lo k=true/\Sp.below s.hi k=true)->(parts s ks c).Pairwise (λx d=>x.2.hi≠⟨#[]⟩/\le x.2.hi d.2.lo=true)
 |s,_,[],hl,_,_=>by simp at hl
 |s,[],k :: c,hl,_,_=>by
  have:=AG (by simpa using hl);subst this;simp[parts]
 |s,q :: ks,k :: c,hl,hp,hb=>by
  have⟨m,h⟩:=BC.1 hp;have⟨e,p⟩:=hb q (by simp);have g:c.length=ks.length+1:=by grind
  have f:∀x∈ks,lt q x=true/\Sp.below s.hi x=true:=λx i=>⟨m x i,(hb x (by simp[i])).2⟩;simp only[parts];refine BC.2 ⟨λd n=>⟨λj=>?_,(sB ⟨q,s.hi⟩ ks c g h f d n).1⟩,nP ⟨q,s.hi⟩ ks c g h f⟩;have l:q=⟨#[]⟩:=j;rw[l,Tq]at e;cases e
theorem dV:∀{h:Nat}{t:T}{s:Sp},aU fs h t s->cM (T.ents h t)
 |0,.leaf p es,s,ht=>by
  have⟨g,u,k,r,_⟩:=ht;have:=(Pi u k).1;rw[r,EI]at this;exact this
 |0,.branch _ _ _,s,ht=>by simp[T.ents,cM]
 |h+1,.leaf _ _,s,ht=>by simp[aU]at ht
 |h+1,.branch p ks kids,s,ht=>by
  have⟨d,l,i,_,q⟩:=dG ht;have y:∀(e:List (T×Sp)),(∀c∈e,aU fs h c.1 c.2)->e.Pairwise (λc f=>c.2.hi≠⟨#[]⟩/\le c.2.hi f.2.lo=true)->cM ((e.map (·.1)).flatMap (T.ents h)):=by
   intro e d l;induction e with
   |nil=>exact .nil
   |cons c e ih =>
    have⟨x,v⟩:=BC.1 l;rw[BD,AJ];refine CI.2 ⟨dV (d c (by simp)),ih (λf j=>d f (by simp[j])) v,?_⟩;intro a o b i;have⟨C,k,i⟩:=AV.1 i;obtain⟨f,j,rfl⟩:=AY.1 k;have⟨A,B⟩:=x f j;have m:=gG (d c (by simp)) a o;have n:=gG (d f (by simp[j])) b i;unfold Sp.has at m n;rw[AN]at m n;have z:lt a.e.key c.2.hi=true:=by
     rcases fW.1 m.2 with h|h
     ·grind
     ·exact h
    exact bT (bT z B) n.1
  have:=y _ q (nP s ks kids d l i);rw[iQ]at this;simpa only[T.ents] using this
def aX:Option (Nat×T)->List En
 |none=>[]
 |some (h,t)=>T.ents h t
theorem uP {root o}(a:bJ fs root o)(q):cV q o=(aX o).filter (λx=>q.has x.e.key):=by
 cases o with
 |none=>rfl
 |some x=>exact Mz q a.2.2
theorem eI {root o}(a:bJ fs root o):cM (aX o):=by
 cases o with
 |none=>exact .nil
 |some x=>exact dV a.2.2
open Go.Shelf
attribute [local go_sem] CM
theorem qHr{b P g a}{Has:b->Array Value->Bl->World->Prop}{xs Rd w w'}(h:oD P g a Has xs Rd w)(f:On Rd w w'):oD P g a Has xs Rd w' :=
 λj c d e W i=>h j c d e W (f.trans i)
def aT(es:List En):List Value:=(es.map (·.e)).flatMap Ent.cells
theorem Qh(es x):aT (es++[x])=aT es++x.e.cells:=by simp[aT]
theorem Lz(bs ea ec es S Rd w)(xs:w.heap[bs]?=some (.cells #[.slice ea es.length ec] 67))(hR:aD w S ea (aT es))(hn:es.length<=1000000)(hc:es.length<=ec)(r1:Rd bs)(rs:∀k,S k->Rd k):
  oD Tryz.prog 214 #[.p bs 0] qF es Rd w:=by
 intro l J Jx Y W hon hRd sJ lJ sJx lJx hY h0;refine JS Tryz.func214 rfl trivial ?_ rfl;simp only[Tryz.ntmps214,jA,jB,jN,Nat.reduceAdd,Nat.reduceSub,jR,jO,jP,jT,jE,jF];have c0:W.c bs 0=some (.slice ea es.length ec):=by simp[World.cell?,hon.heap xs r1]
 have RW:=hR.on (hon.mono rs);gi_wp2;gi_loopw [7] (λi wr=>∃(j:Nat) (Yr:Bl),j<=es.length/\i=.i j/\J (es.take j) Yr wr/\Fr Y W wr/\aJ W Y Yr) (λi _=>es.length-(intOf i).toNat)
 case atStart=>exact⟨0,Y,AH _,rfl,by simpa using h0,AF _ _,CQ _ _⟩
 case round =>
  obtain⟨j,Yr,hj,rfl,hJr,hFr,hGr⟩:=hrel;by_cases hlt:j<es.length
  ·have hlt':j<(es.map (·.e)).length:=by simpa using hlt
   have⟨rb,ro,hea,hrb,k0,k1,k2,k3⟩:=(RW.on (hFr.on (λk hk=>⟨(hRd k (rs k hk)).2,(hRd k (rs k hk)).1⟩))).ent hlt';subst hea;have⟨X,hX⟩:=nM (es[j]);simp only[EB,hX]at k0 k1 k2 k3;obtain⟨Wa,hWa,-,xa,-⟩:=al1 wr (.cells #[.string X.e.key,.string X.e.val,.i X.e.size,.i X.e.over] 69);have⟨g0,g1,g2,g3⟩:=iM xa;have fa:Fr Bl.none wr Wa:=hWa▸(AF _ wr).alloc _;have hsp:es=es.take j++X :: es.drop (j+1):=by rw[<-hX];exact rT (jQ hlt)
   have htk:es.take (j+1)=es.take j++[X]:=by rw[<-hX];exact AK hlt
   have HSP:Hid (es=es.take j++X :: es.drop (j+1)):=hsp;have HTK:Hid (es.take (j+1)=es.take j++[X]):=htk;have hJa:=sJ _ _ _ _ hJr (fa.on (λk hk=>⟨(lJ _ _ _ hJr) k hk,λh=>h⟩));have Fa:Fr Y W Wa:=hFr.trans (fa.mono (λ_ h=>h.elim));have⟨fn,tmps,assign,body,hy,hRr⟩:=hY _ X _ #[.agg #[.string X.e.key,.string X.e.val,.i X.e.size,.i X.e.over]] Bl.none Yr Wa hsp hJa rfl (λ_ h=>h.elim) Fa hGr;clear hsp htk hX hR RW;gi_wp2;refine⟨rfl,(dM hRr).mono ?_⟩;rintro e Wf (⟨rfl,Y5,hJ5,hF5,hG5⟩|⟨rfl,Y5,hJ5,hF5,hG5⟩)
   ·have HN:Hid (J (es.take (j+1)) Y5 Wf):=by rw[HTK.out];exact hJ5
    gi_wp2;go_roundw
    case rel=>exact⟨j+1,Y5,by omega,by go_num,HN,Fa.grow hF5 hGr,hGr.trans Fa.size hG5⟩
    case measure=>simp[intOf];omega
   ·gi_wp2
    apply BI (EG rfl _ _ _) rfl;exact⟨⟨_,rfl⟩,Y5,Fa.grow hF5 hGr,hGr.trans Fa.size hG5,.inr ⟨_,by rw[<-HTK.out];exact JL _ _,by simp,hJ5⟩⟩
  ·obtain rfl:j=es.length:=by omega
   have HJ:Hid (J es Yr wr):=by rw[BG]at hJr;exact hJr
   gi_wp2;go_end0;exact⟨⟨_,rfl⟩,Yr,hFr,hGr,.inl HJ⟩
theorem Ei:(Tryz.prog.info? 69).map (λi=>(i.zero,i.size,i.bytes))=some (some (.agg #[.string ⟨#[]⟩,.string ⟨#[]⟩,.i 0,.i 0]),4,48):=Xo
theorem Gx(gf:Nat)(lb)(eg:∀args w,(callFunc gf args).run Tryz.prog w=.ok (.enter gf args) w)(xs Re w)(hseq:oD Tryz.prog gf lb qF xs Re w)(hRe:∀k,Re k->k<w.heap.size)(hn:xs.length<=1000000):
  cL 204 #[.n,.func (.func gf) #[] lb] w λe w'=>∃v,e=.returned v/\w'.ownsRow 0 69 4 v xs.length (aT xs)/\bW w w'/\∀k,v.ownBlock=some k->w.heap.size<=k:=by
 refine(BK (n:=0)).1 (CN Tryz.func204 rfl trivial ?_ rfl);simp only[Tryz.ntmps204,jA,jB,jN,Nat.reduceAdd,Nat.reduceSub,jR,jO,jP,jT,jE,jF];obtain⟨W1,hW1,-,x1,-⟩:=al1 w (.cells #[.n] 67);have f1:Fr Bl.none w W1:=hW1▸(AF _ w).alloc _;have z1:w.heap.size<W1.heap.size:=(gL x1);gi_wp2;let b:=w.heap.size;let I:List En->Bl->World->Prop:=λpre Y W=>∃v,W.heap[b]?=some (.cells #[v] 67)/\W.ownsRow 0 69 4 v pre.length (aT pre)/\(∀k,Y k↔k=b\/v.ownBlock=some k)/\(∀k,v.ownBlock=some k->w.heap.size<=k);refine fF (P:=Tryz.prog) (Has:=qF) (Rd:=Re) rfl eg (qHr hseq (f1.on (λk hk=>⟨hRe k hk,λh=>h⟩))) (λx args S W hH=>by rw[show args=_ from hH];rfl) I (λ_ _ _ _=>False) ?_ (λ_ _ _ _ _ h=>h.elim) ?_ (λ_ _ _ _ h=>h.elim) (Bl.one b) ⟨.n,x1,by simpa[aT] using AL _ _ _ _,λk=>by simp[Bl.one,Value.ownBlock],by simp[Value.ownBlock]⟩ ?_ ?_ ?_ (λ_ _ _ _ _ _ _ _ _ h=>h.elim)
 ·intro pre Y A B ⟨v,h1,h2,h3,h4⟩ ho
  exact⟨v,ho.heap h1 ((h3 _).2 (.inl rfl)),aS h2 ho (λk hk=>(h3 k).2 (.inr hk)),h3,h4⟩
 ·intro pre Y A ⟨v,h1,h2,h3,h4⟩ k hk
  rcases(h3 k).1 hk with rfl|h
  ·exact(gL h1)
  ·exact aM h2 h
 ·intro k hk
  exact⟨λh=>by simp only[Bl.one,b]at h;have:=hRe k hk;omega,by have:=hRe k hk;omega⟩
 ·intro l pre x rest args S Y' W hx ⟨v,h1,h2,h3,h4⟩ hH hS hFW hGW hl0 hl1 hl2 ⟨r,hr⟩
  have hH':args=#[.agg #[.string x.e.key,.string x.e.val,.i x.e.size,.i x.e.over]]:=hH;subst hH';have hpl:pre.length<1000000:=by have:=BZ List.length hx;simp at this;omega
  clear hx;unfold iN;gi_wp2;refine⟨(AF _ W).alloc _,?_⟩;intro W₂ hT;have⟨m0,m1,m2,m3⟩:=iM (hT.heap (k:=W.heap.size) (aA W (.cells #[.string x.e.key,.string x.e.val,.i x.e.size,.i x.e.over] 69)) (DK hl1));have aW:Fr Bl.none W (W.alloc (.cells #[.string x.e.key,.string x.e.val,.i x.e.size,.i x.e.over] 69)):=(AF _ W).alloc _;have fX:Fr (Bl.one l) W W₂:=(aW.mono (λ_ h=>h.elim)).trans hT.fr;have b2:=fX.heap h1 (λh=>by simp only[Bl.one]at h;exact hl2 ((h3 _).2 (.inl h.symm)));have o2:W₂.ownsRow 0 69 4 v pre.length (aT pre):=aS h2 (fX.on (Z:=λk=>v.ownBlock=some k) (λk hk=>⟨aM h2 hk,λh=>by simp only[Bl.one]at h;subst h;exact hl2 ((h3 _).2 (.inr hk))⟩)) (λk hk=>hk);have c2:W₂.c w.heap.size 0=some v:=by
   have:W₂.heap[w.heap.size]?=_:=b2;simp[World.cell?,this]
  obtain⟨a,c,rfl⟩:=aF o2;have zb:b<W₂.heap.size:=(gL b2);gi_wp2_with (gi_at_builtin;apply Hb W₂ rfl (.tmp 8) (.tmp 10) 67 69 _ 4 48 rfl Tryz.underlying67 Ei rfl (by decide) (.slice a pre.length c) pre.length (aT pre) rfl o2 [.string x.e.key,.string x.e.val,.i x.e.size,.i x.e.over] rfl rfl (by simp[Value.oneCell']) (by omega) (by omega);intro v3 W₃ A3;obtain⟨g3,k3,rfl⟩:=A3.shape (by decide);have b3:=A3.fr.heap b2 (aQ o2 b2 (by decide));have c3:W₃.c w.heap.size 0=some (.slice a pre.length c):=(by have:W₃.heap[w.heap.size]?=_:=b3;simp[World.cell?,this]);have mfr:∀k,W₃.frozen? ⟨w.heap.size,k,none⟩=false:=aB (show W₃.heap[w.heap.size]?=_ from b3));have b4:=aC (show W₃.heap[w.heap.size]?=_ from b3) 0 (.q g3 (pre.length+1) k3);refine⟨λk=>k=b\/g3=k,⟨.q g3 (pre.length+1) k3,by simpa using b4,?_,λk=>by simp[Value.ownBlock],?_⟩,?_,?_⟩
  ·rw[jK,AM,Qh]
   exact aS A3.row ((CJ (λk=>Value.ownBlock _=some k) W₃).setCell (p:=⟨w.heap.size,0,none⟩) (λhk=>aQ A3.row (show W₃.heap[w.heap.size]?=_ from b3) (by decide) hk) _) (λk hk=>hk)
  ·intro k hk
   rcases A3.lies k hk with h|h
   ·exact h4 k h
   ·have:w.heap.size<W₂.heap.size:=zb;omega
  ·have FA:Fr Y' W₂ W₃:=A3.fr.mono (λk hk=>.inl ((h3 k).2 (.inr hk)))
   exact FA.setCell (p:=⟨w.heap.size,0,none⟩) (.inl ((h3 _).2 (.inl rfl))) _
  ·rintro k (rfl|hk)
   ·exact .inl ((h3 _).2 (.inl rfl))
   ·rcases A3.lies k (by simp[Value.ownBlock,hk]) with h|h
    ·exact .inl ((h3 k).2 (.inr h))
    ·exact .inr h
 ·intro D Y' W hD hYD ⟨v,h1,h2,h3,h4⟩ hFW hGW hDW
  have c1:W.c w.heap.size 0=some v:=by
   have:W.heap[w.heap.size]?=_:=h1;simp[World.cell?,this]
  obtain⟨a,c,rfl⟩:=aF h2;have hm:Marks w.heap.size [mk D] W:=(FJ w.heap.size W1).cons (λD' _ h=>hFW.heap h (λe=>by simp only[Bl.one,b]at e;subst e;rw[x1]at h;simp at h)) (by omega) hDW hD;gi_wp2;apply Pz rfl hm;intro w' ht';exact⟨_,rfl,sD h2 ht',((f1.mono (λ_ h=>h.elim)).trans hFW |>.took ht' (jU _)).below (jU _) (λk hk=>by simp only[Bl.one,b]at hk;omega),h4⟩
theorem Am(a:Nat)(c)(d:∀args w,(callFunc a args).run Tryz.prog w=.ok (.enter a args) w)(xs b w)(m:oD Tryz.prog a c qF xs b w)(j:∀k,b k->k<w.heap.size)(l:xs.length<=1000000):
  cL 190 #[.func (.func a) #[] c] w λe w'=>∃v,e=.returned v/\w'.ownsRow 0 69 4 v xs.length (aT xs)/\bW w w'/\∀k,v.ownBlock=some k->w.heap.size<=k:=by
 go_enter Tryz.func190,Tryz.ntmps190;go_wp2_with (go_at_call 204;apply (Gx a c d xs b w m j l).mono;rintro e n ⟨v,rfl,f,g,h⟩);go_ret;exact⟨_,rfl,f,g,h⟩
variable {S:Bl} {b c d:Type} {cs:List Ch} {w:World} {z:Nat}
def tot{α:Type}(sz:α->Nat)(l:List α):Nat:=(l.map sz).sum
theorem Js (a:b->Nat):tot a []=0:=rfl
theorem cG (a x)(l:List b):tot a (x :: l)=a x+tot a l:=by simp[tot]
theorem qJ (a)(l m:List b):tot a (l++m)=tot a l+tot a m:=by simp[tot]
theorem lF (a)(l:List b)(j)(h:j<l.length):tot a (l.take (j+1))=tot a (l.take j)+a l[j]:=by
 rw[AK h,qJ];simp[tot]
theorem xG (a:b->Nat)(l j):tot a l=tot a (l.take j)+tot a (l.drop j):=by
 rw[<-qJ,CB]
theorem oW (a)(l:List b)(m:Nat)(h:∀x∈l,a x<=m):tot a l<=l.length * m:=by
 induction l with
 |nil=>simp[tot]
 |cons x l ih =>
  rw[cG,jB,JB];grind
def shN{α:Type}(sz:α->Nat)(all:Nat):List α->Nat->Nat
 |[],_=>0
 |x :: l,f=>if 2 * f+sz x<=all/\f+sz x<=250 then shN sz all l (f+sz x)+1 else 0
theorem uK (a b):∀(l:List c) (f:Nat),shN a b l f<=l.length
 |[],_=>by simp[shN]
 |x :: l,f=>by
  simp only[shN];have:=uK a b l (f+a x);split<;>simp<;>omega
theorem Cl (a b):∀(l:List d) (f j:Nat),j<=shN a b l f->(c:j<l.length)->(j<shN a b l f↔(2 * (f+tot a (l.take j))+a l[j]<=b/\f+tot a (l.take j)+a l[j]<=250))
 |[],_,_,_,c=>by simp at c
 |x :: l,f,0,_,_=>by
  simp only[shN,LV,Js,DR,CS];split<;>simp_all
 |x :: l,f,j+1,h,c=>by
  simp only[shN]at h⊢;split at h
  ·rename_i hc
   rw[AW hc,EJ,cG,DE,<-FI];have:=Cl a b l (f+a x) j (by omega) (by grind);omega
  ·omega
theorem tK (a b):∀(l:List c) (f:Nat),f<=250->f+tot a (l.take (shN a b l f))<=250
 |[],f,h=>by simpa[shN,tot] using h
 |x :: l,f,h=>by
  simp only[shN];split
  ·rename_i hc
   rw[EJ,cG,<-FI];exact tK a b l _ hc.2
  ·simpa[tot] using h
theorem xI (a)(b:Nat)(l:List d)(e:250<tot a l):shN a b l 0<l.length:=by
 rcases BS (shN a b l 0) l.length with c|c
 ·exact c
 ·have:=tK a b l 0 (by omega)
  rw[CW c]at this;omega
theorem qM (a)(l:List b)(c:250<tot a l)(d:∀x∈l,a x<=250):0<shN a (tot a l) l 0:=by
 cases l with
 |nil=>simp[tot]at c
 |cons x l =>
  simp only[shN];grind
def kY{α:Type}(sz:α->Nat):Nat->List α->List (List α)
 |0,_=>[]
 |k+1,l=>if tot sz l<=250 then (if l.length=0 then [] else [l]) else l.take (shN sz (tot sz l) l 0):: kY sz k (l.drop (shN sz (tot sz l) l 0))
theorem Jf (a):∀(k:Nat) (l:List b),(∀x∈l,a x<=250)->l.length<k->(kY a k l).flatten=l
 |0,l,_,h=>by omega
 |k+1,l,hs,h=>by
  simp only[kY];split
  ·grind
  ·rename_i hb
   have e:=qM a l (by omega) hs;have d:=uK a (tot a l) l 0;rw[EY,Jf a k _ (λx c=>hs x (BO c)) (by grind),CB]
theorem Xu (b):∀(k:Nat) (l:List d),(∀x∈l,b x<=250)->∀p∈kY b k l,p≠[]
 |0,l,_,p,a=>by simp[kY]at a
 |k+1,l,hs,p,a=>by
  simp only[kY]at a;split at a
  ·grind
  ·rename_i hb
   have g:=qM b l (by omega) hs;have f:=uK b (tot b l) l 0;rcases AR.1 a with rfl|a
   ·intro c
    have:=BZ List.length c;grind
   ·exact Xu b k _ (λx e=>hs x (BO e)) p a
theorem Qq (b):∀(k:Nat) (l:List c),∀p∈kY b k l,tot b p<=250
 |0,l,p,a=>by simp[kY]at a
 |k+1,l,p,a=>by
  simp only[kY]at a;split at a
  ·grind
  ·rcases AR.1 a with rfl|a
   ·have:=tK b (tot b l) l 0 (by omega);omega
   ·exact Qq b k _ p a
theorem Je (a):∀(k b:Nat) (l:List c),(∀x∈l,a x<=250)->l.length<k->l.length<b->kY a k l=kY a b l
 |0,_,l,_,h,_=>by omega
 |_,0,l,_,_,h=>by omega
 |k+1,b+1,l,hs,h,h'=>by
  simp only[kY];split
  ·rfl
  ·rename_i hb
   have f:=qM a l (by omega) hs;have e:=uK a (tot a l) l 0;rw[Je a k b _ (λx d=>hs x (BO d)) (by grind) (by grind)]
def dP{α:Type}(sz:α->Nat)(l:List α):List (List α):=kY sz (l.length+1) l
theorem yI (a)(l:List c)(b:∀x∈l,a x<=250)(e:250<tot a l):dP a l=l.take (shN a (tot a l) l 0):: dP a (l.drop (shN a (tot a l) l 0)):=by
 have g:=qM a l (by omega) b;have f:=uK a (tot a l) l 0;show kY a (l.length+1) l=_
 simp only[kY];rw[AQ (by omega)];congr 1;exact Je a _ _ _ (λx d=>b x (BO d)) (by grind) (by omega)
theorem iR (a)(l:List b)(c:tot a l<=250):dP a l=if l.length=0 then [] else [l]:=by
 show kY a (l.length+1) l=_
 simp only[kY];rw[AW c]
theorem lP (a:b->Nat)(l:List b)(c:∀x∈l,a x<=250):(dP a l).flatten=l:=Jf a _ l c (by omega)
theorem wN (a:b->Nat)(l:List b)(c:∀x∈l,a x<=250):∀p∈dP a l,p≠[]:=Xu a _ l c
theorem Qo (a:b->Nat)(l:List b):∀p∈dP a l,tot a p<=250:=Qq a _ l
def esz(x:En):Nat:=if 60<x.e.size then x.e.key.size+6 else x.e.key.size+x.e.val.size+3
theorem uG(x w)(i:x.e.key.size<=1000000)(j:x.e.val.size<=1000000):
  cL 203 #[.agg #[.string x.e.key,.string x.e.val,.i x.e.size,.i x.e.over]] w λe w'=>e=.returned (.i (esz x))/\bW w w':=by
 obtain⟨a,h,g,-⟩:=al1 w (.cells #[.string x.e.key,.string x.e.val,.i x.e.size,.i x.e.over] 69);have⟨k,l,m,n⟩:=iM (h▸aA w _:a.heap[w.heap.size]?=some (.cells #[.string x.e.key,.string x.e.val,.i x.e.size,.i x.e.over] 69));have c:60<x.e.size->esz x=x.e.key.size+6:=λf=>AW f;have d:¬60<x.e.size->esz x=x.e.key.size+x.e.val.size+3:=λf=>AQ f;go_enter Tryz.func203,Tryz.ntmps203;by_cases hs:60<x.e.size
 ·have b:Hid (esz x=x.e.key.size+6):=c hs
  clear c d;go_wp2;go_ret;exact⟨by rw[b.out];first|rfl|(congr 2;go_num),g⟩
 ·have b:Hid (esz x=x.e.key.size+x.e.val.size+3):=d hs
  clear c d;go_wp2;go_ret;exact⟨by rw[b.out];first|rfl|(congr 2;go_num),g⟩
def En.fits(x:En):Prop:=x.e.key.size<=24/\x.e.val.size<=400
theorem qB{x}(h:x.fits):esz x<=427:=by unfold esz;have:=h.1;have:=h.2;split<;>omega
theorem Cg(ea ec es S w)(hR:aD w S ea (aT es))(hS:∀b,S b->b<w.heap.size)(hn:es.length<=1000000)(hc:es.length<=ec)(hf:∀x∈es,x.fits):
  cL 212 #[.slice ea es.length ec,.func (.func 203) #[] #[]] w λe w'=>e=.returned (.i (tot esz es))/\bW w w':=by
 go_enter Tryz.func212,Tryz.ntmps212;go_wp2;go_loopw [5,10] (λa b wr=>∃j:Nat,a=.i (tot esz (es.take j))/\b=.i j/\j<=es.length/\bW w wr) (λ_ b _=>es.length-(intOf b).toNat)
 case atStart=>exact⟨0,by simp[tot],rfl,AH _,AC _ _⟩
 case round =>
  obtain⟨j,rfl,rfl,hj,hb⟩:=hrel;by_cases hlt:j<es.length
  ·have hlt':j<(es.map (·.e)).length:=by simpa using hlt
   have⟨rb,ro,hea,hrb,k0,k1,k2,k3⟩:=(hR.on (vV hb hS)).ent hlt';subst hea;have⟨X,hX⟩:=nM (es[j]);simp only[EB,hX]at k0 k1 k2 k3;have hXf:X.fits:=hX▸hf _ (AB hlt);obtain⟨Wa,hWa,-,xa,-⟩:=al1 wr (.cells #[.string X.e.key,.string X.e.val,.i X.e.size,.i X.e.over] 69);have⟨g0,g1,g2,g3⟩:=iM xa;have ba:bW w Wa:=hWa▸hb.alloc hb.size _;have hC:=uG X Wa (by have:=hXf.1;omega) (by have:=hXf.2;omega);have htk:tot esz (es.take (j+1))=tot esz (es.take j)+esz X:=by rw[<-hX];exact lF esz es j hlt
   have HTK:=htk;have hle:=oW esz (es.take j) 427 (λx hx=>qB (hf x (CZ hx)));have hle2:tot esz (es.take j)<=427000000:=by
    have:(es.take j).length<=1000000:=by rw[AZ];omega
    omega
   have hsx:=qB hXf;have⟨n,hn'⟩:∃n,tot esz (es.take j)=n:=⟨_,rfl⟩;have⟨m,hm⟩:=nM (esz X);rw[hn']at hle2;rw[hm]at hsx;simp only[hm]at hC;have HM:Hid (tot esz (es.take (j+1))=n+m):=by rw[htk,hn',hm];exact rfl
   have HN:=hn';simp only[hn'];go_wp2_with (go_at_call 203;apply hC.mono;rintro e w2 ⟨rfl,hb2⟩);go_roundw
   case rel=>exact⟨j+1,by rw[HM.out];congr 1,by go_num,by omega,ba.trans (hb2.mono ba.size)⟩
   case measure=>simp[intOf];omega
  ·obtain rfl:j=es.length:=by omega
   have HT:Hid (tot esz (es.take es.length)=tot esz es):=by rw[BG];exact rfl
   go_wp2;go_ret;exact⟨by first|rfl|(rw[<-HT.out];rfl)|(rw[HT.out];rfl)|(simp[HT.out];done),hb⟩
theorem Kd{a a' b c:Nat}(d:a=a')(e:b=c):Ending.returned (.tuple #[.i a,.i b])=.returned (.tuple #[.i a',.i c]):=by rw[d,e]
theorem Sm(ea ec es)(all:Nat)(S w)(hR:aD w S ea (aT es))(hS:∀b,S b->b<w.heap.size)(hn:es.length<=1000000)(hc:es.length<=ec)(hf:∀x∈es,x.fits)(ha:250<tot esz es)(ha2:all<=427000000):
  cL 213 #[.slice ea es.length ec,.func (.func 203) #[] #[],.i all] w λe w'=>e=.returned (.tuple #[.i (shN esz all es 0),.i (tot esz (es.take (shN esz all es 0)))])/\bW w w':=by
 go_enter Tryz.func213,Tryz.ntmps213;go_wp2;go_loopw [8,9] (λa b wr=>∃j:Nat,b=.i (tot esz (es.take j))/\a=.i j/\j<=shN esz all es 0/\bW w wr) (λa _ _=>es.length-(intOf a).toNat)
 case atStart=>exact⟨0,by simp[tot],rfl,AH _,AC _ _⟩
 case round =>
  obtain⟨j,rfl,rfl,hj,hb⟩:=hrel;have hin:=Nat.lt_of_le_of_lt hj (xI esz all es ha);have hat:=Cl esz all es 0 j hj hin;have hin':j<(es.map (·.e)).length:=by simpa using hin
  obtain⟨rb,ro,hea,hrb,k0,k1,k2,k3⟩:=(hR.on (vV hb hS)).ent hin';subst hea;have htk:=lF esz es j hin;have hXf:=hf _ (AB hin);obtain⟨X,hX⟩:=nM (es[j]);simp only[EB,hX]at k0 k1 k2 k3 htk hXf hat;have hsx:=qB hXf;have hft:=tK esz all es 0 (by omega);obtain⟨n,hn'⟩:∃n,tot esz (es.take j)=n:=⟨_,rfl⟩;obtain⟨m,hm⟩:=nM (esz X);have hn2:n<=427000000:=by
   have h1:=oW esz (es.take j) 427 (λx hx=>qB (hf x (CZ hx)));have h2:(es.take j).length<=1000000:=by rw[AZ];omega
   omega
  simp only[hn',DO,hm]at hat htk hsx⊢;have HM:Hid (tot esz (es.take (j+1))=n+m):=htk;have HN:Hid (tot esz (es.take j)=n):=hn';have HX:Hid (esz X=m):=hm;have HAT:Hid (j<shN esz all es 0↔2 * n+m<=all/\n+m<=250):=hat;have on:∀W,bW wr W->On S wr W:=λW hW=>vV hW (λk hk=>jY (hS k hk) hb.size);have HK:Hid (∀W,bW wr W->W.c rb (ro+j * 4)=some (.string X.e.key)/\W.c rb (ro+j * 4+1)=some (.string X.e.val)/\W.c rb (ro+j * 4+2)=some (.i X.e.size)/\W.c rb (ro+j * 4+3)=some (.i X.e.over)):=λW hW=>⟨(on W hW).cell _ hrb |>.trans k0,(on W hW).cell _ hrb |>.trans k1,(on W hW).cell _ hrb |>.trans k2,(on W hW).cell _ hrb |>.trans k3⟩;have HC:Hid (∀W,cL 203 #[.agg #[.string X.e.key,.string X.e.val,.i X.e.size,.i X.e.over]] W λe w'=>e=.returned (.i m)/\bW W w'):=λW=>by have h:=uG X W (by have:=hXf.1;omega) (by have:=hXf.2;omega);rw[hm]at h;exact h
  have hbb:bW wr wr:=AC _ _;have hjs:¬j<shN esz all es 0->Hid (shN esz all es 0=j/\tot esz (es.take (shN esz all es 0))=n):=λh=>by
   have e:shN esz all es 0=j:=by omega
   exact⟨e,by rw[e,hn']⟩
  clear htk hX hR hn' hm hft on;by_cases hle1:2 * n+m<=all
  ·have hl1:2 * (n:Int)+(m:Int)<=(all:Int):=by omega
   by_cases hle:n+m<=250
   ·have hlei:(n:Int)+(m:Int)<=250:=by omega
    clear hjs hat;go_wp2_with (go_at_call 203;refine jC (HC.out _) ?_;rintro e w2 ⟨rfl,hb2⟩;have hbb:=hbb.trans (hb2.mono hbb.size);obtain⟨k0,k1,k2,k3⟩:=HK.out _ hbb);go_roundw
    case rel=>exact⟨j+1,by rw[HM.out];congr 1,by go_num,HAT.out.2 ⟨hle1,hle⟩,hb.trans (hbb.mono hb.size)⟩
    case measure=>simp[intOf];omega
   ·have hlei:¬(n:Int)+(m:Int)<=250:=by omega
    have hje:=hjs (λh=>hle (hat.1 h).2);go_wp2_with (go_at_call 203;refine jC (HC.out _) ?_;rintro e w2 ⟨rfl,hb2⟩;have hbb:=hbb.trans (hb2.mono hbb.size);obtain⟨k0,k1,k2,k3⟩:=HK.out _ hbb);go_ret2;exact⟨Kd hje.out.1.symm hje.out.2.symm,hb.trans (hbb.mono hb.size)⟩
  ·have hl1:¬2 * (n:Int)+(m:Int)<=(all:Int):=by omega
   have hje:=hjs (λh=>hle1 (hat.1 h).1);go_wp2_with (go_at_call 203;refine jC (HC.out _) ?_;rintro e w2 ⟨rfl,hb2⟩;have hbb:=hbb.trans (hb2.mono hbb.size);obtain⟨k0,k1,k2,k3⟩:=HK.out _ hbb);go_ret2;exact⟨Kd hje.out.1.symm hje.out.2.symm,hb.trans (hbb.mono hb.size)⟩
structure Pc (α:Type) where
 a:Option Addr
 c:Nat
 l:List α
def Pc.val{α:Type}(q:Pc α):Value:=.slice q.a q.l.length q.c
theorem Eu {g:b->List Value}(l:List b)(a:∀x∈l,(g x).length=z):(l.flatMap g).length=l.length * z:=by
 induction l with
 |nil=>simp
 |cons x l ih =>
  rw[AJ,jK,ih (λd c=>a d (by simp[c])),a x (by simp),jB,JB];omega
theorem aD.takeZ {e:Type}{g}{z:Nat}{a}{l:List e}(n)(h:aD w S a (l.flatMap g)):aD w S a ((l.take n).flatMap g):=by
 have c:l.flatMap g=(l.take n).flatMap g++(l.drop n).flatMap g:=by rw[<-BU,CB]
 rcases h with h|⟨b,m,f,j,i⟩
 ·rw[c]at h
  exact .inl (EK.1 h).1
 ·refine .inr ⟨b,m,f,j,λk o d=>i k o ?_⟩
  rw[c,BT (AD.1 d).1];exact d
theorem aD.dropZ {e:Type}{g b a}{l:List e}(n)(p:∀x∈l,(g x).length=z)(h:aD w S (some ⟨b,a,none⟩) (l.flatMap g))(j:n<=l.length):aD w S (some ⟨b,a+n * z,none⟩) ((l.drop n).flatMap g):=by
 have c:l.flatMap g=(l.take n).flatMap g++(l.drop n).flatMap g:=by rw[<-BU,CB]
 have f:((l.take n).flatMap g).length=n * z:=by rw[Eu _ (λx o=>p x (CZ o)),AZ,GB j]
 rcases h with h|⟨s,t,d,k,i⟩
 ·rw[c]at h
  exact .inl (EK.1 h).2
 ·simp only[AX,CA,DA]at d
  obtain⟨rfl,rfl⟩:=d;refine .inr ⟨b,a+n * z,rfl,k,λq r m=>?_⟩;have:=i (n * z+q) r (by rw[c,BJ (by omega),f];simpa using m);rw[FI];exact this
theorem sW(es):aT es=es.flatMap (λx=>x.e.cells):=by
 simp[aT,JM]
theorem Qg(es:List En):∀x∈es,((λx:En=>x.e.cells) x).length=4:=λx _=>rfl
theorem aD.addr {a d}(h:aD w S a d)(g:d≠[]):∃b c,a=some ⟨b,c,none⟩/\S b:=by
 rcases h with h|⟨b,c,e,f,_⟩
 ·exact(g h).elim
 ·exact⟨b,c,e,f⟩
theorem yG{es}(h:0<es.length):aT es≠[]:=by
 cases es with
 |nil=>simp at h
 |cons x l=>simp[aT,Ent.cells]
theorem Pe:(Tryz.prog.info? 67).map (λi=>(i.zero,i.size,i.bytes))=some (some .n,1,24):=by kernel_rfl
def qKs(w:World)(S:Bl)(v:Value)(ps:List (List En)):Prop :=
 ∃qs:List (Pc En),w.ownsRow 0 67 1 v qs.length (qs.map Pc.val)/\qs.map (·.l)=ps/\∀q∈qs,q.l.length<=q.c/\aD w S q.a (aT q.l)
theorem qFp(ea ec es S w)(hR:aD w S ea (aT es))(hS:∀b,S b->b<w.heap.size)(hn:es.length<=1000000)(hc:es.length<=ec)(hf:∀x∈es,x.fits)(h250:∀x∈es,esz x<=250):
  cL 202 #[.slice ea es.length ec,.func (.func 203) #[] #[]] w λe w'=>∃v,e=.returned v/\qKs w' S v (dP esz es)/\bW w w'/\∀k,v.ownBlock=some k->w.heap.size<=k:=by
 have hT:=Cg ea ec es S w hR hS hn hc hf;have hle:∀r:List En,(∀x∈r,x∈es)->r.length<=es.length->tot esz r<=427000000:=λr hr hl=>by
  have:=oW esz r 427 (λx hx=>qB (hf x (hr x hx)));omega
 go_enter Tryz.func202,Tryz.ntmps202;go_wp2_with (go_at_call 212;apply hT.mono;rintro e w1 ⟨rfl,hb1⟩);go_loopw [0,5,6] (λa p t wr=>∃(r:List En) (ra:Option Addr) (rc:Nat) (qs:List (Pc En)),a=.slice ra r.length rc/\r.length<=rc/\t=.i (tot esz r)/\aD w S ra (aT r)/\(∀x∈r,x∈es)/\r.length<=es.length/\qs.length+r.length<=es.length/\dP esz es=qs.map (·.l)++dP esz r/\wr.ownsRow 0 67 1 p qs.length (qs.map Pc.val)/\(∀q∈qs,q.l.length<=q.c/\aD w S q.a (aT q.l))/\bW w wr/\∀k,p.ownBlock=some k->w.heap.size<=k) (λa _ _ _=>match a with|.slice _ n _=>n|_=>0)
 case atStart=>exact⟨es,ea,ec,[],rfl,hc,rfl,hR,λ_ h=>h,jU _,by simp,by simp,AL _ _ _ _,by simp,hb1,by simp[Value.ownBlock]⟩
 case round =>
  obtain⟨r,ra,rc,qs,rfl,hrc,rfl,hRr,hmem,hrl,hql,hcut,hown,hqs,hb,hlies⟩:=hrel;have hRw:=hRr.on (vV hb hS);have hSw:∀b,S b->b<wr.heap.size:=λb h=>jY (hS b h) hb.size;have htr:=hle r hmem hrl;have HCUT:Hid (dP esz es=qs.map (·.l)++dP esz r):=hcut;clear hcut;by_cases hgt:250<tot esz r
  ·have hr0:0<r.length:=by
    cases r with
    |nil=>simp[tot]at hgt
    |cons x r=>simp
   obtain⟨rb,ro,rfl,hrb⟩:=hRr.addr (yG hr0);have hrmem:∀x∈r,esz x<=250:=λx hx=>h250 x (hmem x hx);have hSh:=Sm (some ⟨rb,ro,none⟩) rc r (tot esz r) S wr hRw hSw (by omega) hrc (λx hx=>hf x (hmem x hx)) (by omega) (by omega);have hpos:=qM esz r (by omega) hrmem;have hnle:=uK esz (tot esz r) r 0;have hst:=yI esz r hrmem hgt;have hsp:=xG esz r (shN esz (tot esz r) r 0);have⟨n,hn'⟩:∃n,shN esz (tot esz r) r 0=n:=⟨_,rfl⟩;rw[hn']at hSh hpos hnle hst hsp;have⟨f,hf'⟩:∃f,tot esz (r.take n)=f:=⟨_,rfl⟩;rw[hf']at hSh hsp;have⟨t,ht⟩:=nM (tot esz r);rw[ht]at hSh hgt htr hsp;simp only[ht];have hgti:(t:Int) > 250:=by omega
   have hSz:∀z:Int,z=((t:Nat):Int)->cL 213 #[.slice (some ⟨rb,ro,none⟩) r.length rc,.func (.func 203) #[] #[],.i z] wr λe w'=>e=.returned (.tuple #[.i n,.i f])/\bW wr w':=λz hz=>hz▸hSh;have HST:Hid (dP esz r=r.take n :: dP esz (r.drop n)):=hst;have HF:Hid (tot esz (r.drop n)=t-f):=by show _=_;omega
   have hfle:f<=t:=by omega
   have hnli:(n:Int)<=(rc:Int):=by omega
   have hnli2:(n:Int)<=(r.length:Int):=by omega
   have hdl:(r.drop n).length=r.length-n:=BH ..;have HDL:Hid ((r.drop n).length=r.length-n):=hdl;have HTL:Hid ((r.take n).length=n):=by show _=_;rw[AZ];omega
   clear hst hsp hn' hf' ht hT hle hdl hSh;obtain⟨pa,pcp,rfl⟩:=aF hown;have hQ:qs.length+1<=1000001:=by omega
   go_wp2_with (first
    |(go_at_call 213;apply(hSz _ (by first|rfl|omega)).mono;clear hSz;rintro e w2 ⟨rfl,hb2⟩;have f2:Fr Bl.none wr w2:=AA hb2;have o2:=aS hown (f2.on (Z:=λk=>Value.ownBlock (.slice pa qs.length pcp)=some k) (λk hk=>⟨aM hown hk,λh=>h⟩)) (λk hk=>hk))
    |(at_builtin;apply fK w2 rfl (.tmp 21) (.tmp 25) 38 67 _ 1 24 rfl Tryz.underlying38 Pe rfl (by decide) (.slice pa qs.length pcp) qs.length (qs.map Pc.val) rfl o2 [.slice (some ⟨rb,ro,none⟩) n rc] rfl rfl (by simp[Value.oneCell']) (by omega) (by omega);intro v3 w3 A3;obtain⟨g3,k3,rfl⟩:=A3.shape (by decide)))
   have b3:bW w w3:=(hb.trans (hb2.mono hb.size)).trans (A3.fr.below (vJ hb.size hb2.size) hlies);have hnn:0<n:=hpos;go_roundw
   case rel =>
    refine⟨r.drop n,(if rc=n then some ⟨rb,ro,none⟩ else some ⟨rb,ro+n * 4,none⟩),rc-n,qs++[⟨some ⟨rb,ro,none⟩,rc,r.take n⟩],by rw[HDL.out],by rw[HDL.out];omega,by rw[HF.out];congr 1;omega,?_,λx hx=>hmem x (BO hx),by rw[HDL.out];omega,by rw[HDL.out,jK,AM];omega,by rw[HCUT.out,HST.out];simp,?_,?_,b3,?_⟩
    ·by_cases hrn:rc=n
     ·exact .inl (by rw[CR (by omega)];rfl)
     ·rw[AQ hrn]
      rw[sW]at hRr⊢;exact hRr.dropZ n (Qg r) hnle
    ·have e1:Pc.val (⟨some ⟨rb,ro,none⟩,rc,r.take n⟩:Pc En)=.slice (some ⟨rb,ro,none⟩) n rc:=by unfold Pc.val;simp only[HTL.out]
     rw[BM,jK,AM,BD,CX,e1];exact A3.row
    ·intro q hq
     rcases AO.1 hq with hq|hq
     ·exact hqs q hq
     ·obtain rfl:=AS.1 hq
      refine⟨by show(r.take n).length<=rc;rw[HTL.out];omega,?_⟩;show aD w S (some ⟨rb,ro,none⟩) (aT (r.take n))
      rw[sW]at hRr⊢;exact hRr.takeZ (z:=4) n
    ·intro k hk
     rcases A3.lies k hk with h|h
     ·exact hlies k h
     ·exact vJ hb.size (vJ hb2.size h)
   case measure=>simp;omega
  ·have hla:=iR esz r (by omega)
   obtain⟨pa,pcp,rfl⟩:=aF hown;by_cases hr0:0<r.length
   ·have HLA:Hid (dP esz r=[r]):=by show _=_;rw[hla,AQ (by omega)]
    have hr0i:(0:Int)<(r.length:Int):=by omega
    have⟨t,ht⟩:=nM (tot esz r);simp only[ht]at hgt⊢;have hgti:¬(t:Int) > 250:=by omega
    have hQ:qs.length+1<=1000001:=by omega
    clear hla ht hT hle;go_wp2_with (at_builtin;apply fK wr rfl (.tmp 36) (.tmp 38) 38 67 _ 1 24 rfl Tryz.underlying38 Pe rfl (by decide) (.slice pa qs.length pcp) qs.length (qs.map Pc.val) rfl hown [.slice ra r.length rc] rfl rfl (by simp[Value.oneCell']) (by omega) (by omega);intro v3 w3 A3;obtain⟨g3,k3,rfl⟩:=A3.shape (by decide));go_ret;have b3:bW w w3:=hb.trans (A3.fr.below hb.size hlies);refine⟨_,rfl,⟨qs++[⟨ra,rc,r⟩],?_,by rw[HCUT.out,HLA.out];simp,?_⟩,b3,?_⟩
    ·rw[BM,jK,AM,BD,CX]
     exact A3.row
    ·intro q hq
     rcases AO.1 hq with hq|hq
     ·exact⟨(hqs q hq).1,(hqs q hq).2.on (vV b3 hS)⟩
     ·obtain rfl:=AS.1 hq
      exact⟨hrc,hRr.on (vV b3 hS)⟩
    ·intro k hk
     rcases A3.lies k hk with h|h
     ·exact hlies k h
     ·exact vJ hb.size h
   ·have hr00:r.length=0:=by omega
    have HLA:Hid (dP esz r=[]):=by show _=_;rw[hla,AW hr00]
    obtain rfl:=AG hr00;clear hla hT hle;go_wp2;go_ret;exact⟨_,rfl,⟨qs,hown,by rw[HCUT.out,HLA.out];simp,λq hq=>⟨(hqs q hq).1,(hqs q hq).2.on (vV hb hS)⟩⟩,hb,hlies⟩
theorem rB{f:Type}(p):∀(l:List f) (a b:Nat),(∀m (h:m<l.length),p l[m]=(decide (a<=m)&&decide (m<b)))->l.filter p=(l.take b).drop a
 |[],_,_,_=>by simp
 |x :: l,a,0,h=>by
  rw[LV,List.drop_nil,JU];intro i g;obtain⟨m,d,rfl⟩:=AU g;rw[h m d];simp
 |x :: l,0,b+1,h=>by
  have c:=h 0 (by simp);simp only[CS]at c;have e:p x=true:=by rw[c];simp
  rw[List.filter_cons_of_pos e,EJ,GI,rB p l 0 b (λm d=>by
   have:=h (m+1) (by simpa using d);simp only[DE]at this;rw[this];simp),GI]
 |x :: l,a+1,b+1,h=>by
  have c:=h 0 (by simp);simp only[CS]at c;have e:¬p x=true:=by rw[c];simp
  rw[List.filter_cons_of_neg e,EJ,List.drop_succ_cons,rB p l a b (λm d=>by
   have:=h (m+1) (by simpa using d);simp only[DE]at this;rw[this];simp)]
theorem Wt (c:cJ cs)(k m)(b:m<cs.length):lt cs[m].key k=decide (m<cZ cs k):=by
 by_cases h:m<cZ cs k
 ·have⟨_,a⟩:=tH h
  rw[a];simp[h]
 ·rw[qL c (by omega) b];simp[h]
def dB(cs:List Ch)(q:Sp):List Ch:=cs.filter (λc=>q.has c.key)
theorem qGz (e:cJ cs)(q b)(c:b=if isNil q.hi=true then cs.length else cZ cs q.hi):dB cs q=(cs.take (max (cZ cs q.lo) b)).drop (cZ cs q.lo):=by
 refine rB _ cs _ _ (λa d=>?_);have g:Sp.below q.hi cs[a].key=decide (a<b):=by
  unfold Sp.below;cases hn:isNil q.hi
  ·rw[hn]at c
   simp only[Bool.false_or];simp only[EO,KH]at c;rw[c];exact Wt e q.hi a d
  ·rw[hn]at c
   simp only[LO]at c;rw[c];simp[d]
 unfold Sp.has le;rw[Wt e q.lo a d,g];by_cases ha:a<cZ cs q.lo
 ·have:¬cZ cs q.lo<=a:=by omega
  simp[ha,this]
 ·have h:cZ cs q.lo<=a:=by omega
  simp only[ha,h,decide_false,decide_true,Bool.not_false,KP];congr 1;apply propext;omega
def Lv(S:Bl)(ca:Option Addr)(cs:List Ch)(a:Option Addr)(c:Nat)(own:List Ch):Prop :=
 own.length<=c/\(∀Wx,aD Wx S ca (cs.flatMap Ch.cells)->aD Wx S a (own.flatMap Ch.cells))/\((a=none/\c=0)\/∃b off,a=some ⟨b,off,none⟩)
theorem Xv {b c a cs own}(n t)(g:cs.length<=a)(i:n<=t)(j:t<=cs.length)(d:own=(cs.take t).drop n):Lv S (some ⟨b,c,none⟩) cs (if a=n then some ⟨b,c,none⟩ else some ⟨b,c+n * 3,none⟩) (a-n) own:=by
 have h:own.length=t-n:=by rw[d,BH,AZ];omega
 refine⟨by omega,λf e=>?_,?_⟩
 ·by_cases hc:a=n
  ·exact .inl (by rw[AG (by omega:own.length=0)];rfl)
  ·rw[AQ hc,d]
   exact(e.takeZ (z:=3) t).dropZ n (λk _=>rfl) (by rw[AZ];omega)
 ·by_cases hc:a=n
  ·exact .inr ⟨b,c,by rw[AW hc]⟩
  ·exact .inr ⟨b,c+n * 3,by rw[AQ hc]⟩
theorem qCe(a):(a.toList==([]:List UInt8))=isNil a:=by
 unfold isNil;cases a.toList<;>rfl
theorem Bz(x i cs q S w)(V:aD w S x (cs.flatMap Ch.cells))(O:∀b,S b->b<w.heap.size)(U:cJ cs)(X:cs.length<=1000000)(L:cs.length<=i)(Q:(x=none/\i=0)\/∃b a0,x=some ⟨b,a0,none⟩):
  cL 176 #[.slice x cs.length i,.agg #[.string q.lo,.string q.hi]] w λe w'=>∃a c,e=.returned (.slice a (dB cs q).length c)/\Lv S x cs a c (dB cs q)/\bW w w':=by
 obtain⟨D,P,h,t,-⟩:=al1 w (.cells #[.string q.lo,.string q.hi] 154);have⟨a1,a2⟩:=bS t;have A:=(gL t);have N:∀W G,bW w W->cL 96 #[.slice x cs.length i,.string G] W λe w'=>e=.returned (.tuple #[.i (cZ cs G),.bool (fnd cs G)])/\bW W w':=λW G H=>nI x i cs G S W (V.on (vV H O)) (λb K=>jY (O b K) H.size) U X L;have I:=tI cs q.lo;have R:=tI cs q.hi;have E:=λb K=>qGz U q b K;have⟨n,M⟩:=nM (cZ cs q.lo);have⟨p,J⟩:=nM (cZ cs q.hi);have j:=N D q.lo h;rw[M]at I j;simp only[M,J]at E;rw[J]at R;have F:=λW H=>N W q.hi H;simp only[J]at F;clear M J N;go_enter Tryz.func176,Tryz.ntmps176;cases hnil:isNil q.hi
 ·have Y:(q.hi.toList==([]:List UInt8))=false:=by rw[qCe,hnil]
  have r:Hid (dB cs q=(cs.take (max n p)).drop n):=E p (by simp[hnil]);have g:Hid ((dB cs q).length=max n p-n):=by show _=_;rw[r.out,BH,AZ];omega
  clear E;rcases Q with⟨rfl,rfl⟩|⟨k,l,rfl⟩
  ·obtain rfl:cs=[]:=AG (by omega)
   obtain rfl:n=0:=by simpa using I
   obtain rfl:p=0:=by simpa using R
   go_wp2_with (go_at_call 96;first|(apply j.mono;clear j;rintro e o ⟨rfl,f⟩;have d:bW w o:=h.trans (f.mono h.size);have⟨B,C⟩:=bS ((f.block w.heap.size A).trans t))|(apply(F _ d).mono;rintro e z ⟨rfl,y⟩;have v:bW w z:=d.trans (y.mono d.size)));go_ret;exact⟨none,0,by rw[g.out];rfl,⟨by rw[g.out];simp,λ_ _=>.inl (by rw[AG (by rw[g.out];rfl:(dB [] q).length=0)];rfl),.inl ⟨rfl,rfl⟩⟩,v⟩
  ·skip
   have m:Lv S (some ⟨k,l,none⟩) cs (if i=n then some ⟨k,l,none⟩ else some ⟨k,l+n * 3,none⟩) (i-n) (dB cs q):=Xv n (max n p) L (by omega) (by omega) r;by_cases hcn:i=n
   ·subst i
    have s:Hid ((dB cs q).length=0):=by show _=_;rw[g.out];omega
    have u:Hid (Lv S (some ⟨k,l,none⟩) cs (some ⟨k,l,none⟩) 0 (dB cs q)):=by rw[AW rfl,JA]at m;exact m
    have Z:(p:Int)<=(n:Int):=by omega
    clear r g m;go_wp2_with (go_at_call 96;first|(apply j.mono;clear j;rintro e o ⟨rfl,f⟩;have d:bW w o:=h.trans (f.mono h.size);have⟨B,C⟩:=bS ((f.block w.heap.size A).trans t))|(apply(F _ d).mono;rintro e z ⟨rfl,y⟩;have v:bW w z:=d.trans (y.mono d.size)))
    all_goals go_ret
    all_goals exact⟨_,_,by rw[s.out];first|rfl|(simp;done)|(simp;omega),u,v⟩
   ·have u:Hid (Lv S (some ⟨k,l,none⟩) cs (some ⟨k,l+n * 3,none⟩) (i-n) (dB cs q)):=by rw[AQ hcn]at m;exact m
    clear m;by_cases hnt:n<=p
    ·have s:Hid ((dB cs q).length=p-n):=by show _=_;rw[g.out];omega
     have T:(n:Int)<=(p:Int):=by omega
     clear r g;go_wp2_with (go_at_call 96;first|(apply j.mono;clear j;rintro e o ⟨rfl,f⟩;have d:bW w o:=h.trans (f.mono h.size);have⟨B,C⟩:=bS ((f.block w.heap.size A).trans t))|(apply(F _ d).mono;rintro e z ⟨rfl,y⟩;have v:bW w z:=d.trans (y.mono d.size)))
     all_goals go_ret
     all_goals exact⟨_,_,by rw[s.out];first|rfl|(simp;done)|(simp;omega),u,v⟩
    ·have s:Hid ((dB cs q).length=n-n):=by show _=_;rw[g.out];omega
     have T:(p:Int)<(n:Int):=by omega
     clear r g;go_wp2_with (go_at_call 96;first|(apply j.mono;clear j;rintro e o ⟨rfl,f⟩;have d:bW w o:=h.trans (f.mono h.size);have⟨B,C⟩:=bS ((f.block w.heap.size A).trans t))|(apply(F _ d).mono;rintro e z ⟨rfl,y⟩;have v:bW w z:=d.trans (y.mono d.size)))
     all_goals go_ret
     all_goals exact⟨_,_,by rw[s.out];first|rfl|(simp;done)|(simp;omega),u,v⟩
 ·have Y:(q.hi.toList==([]:List UInt8))=true:=by rw[qCe,hnil]
  have r:Hid (dB cs q=(cs.take (max n cs.length)).drop n):=E cs.length (by simp[hnil]);have g:Hid ((dB cs q).length=max n cs.length-n):=by show _=_;rw[r.out,BH,AZ];omega
  clear E;rcases Q with⟨rfl,rfl⟩|⟨k,l,rfl⟩
  ·obtain rfl:cs=[]:=AG (by omega)
   obtain rfl:n=0:=by simpa using I
   go_wp2_with (go_at_call 96;apply j.mono;clear j;rintro e o ⟨rfl,f⟩;have d:bW w o:=h.trans (f.mono h.size);have⟨B,C⟩:=bS ((f.block w.heap.size A).trans t));go_ret;exact⟨none,0,by rw[g.out];rfl,⟨by rw[g.out];simp,λ_ _=>.inl (by rw[AG (by rw[g.out];rfl:(dB [] q).length=0)];rfl),.inl ⟨rfl,rfl⟩⟩,d⟩
  ·skip
   have m:Lv S (some ⟨k,l,none⟩) cs (if i=n then some ⟨k,l,none⟩ else some ⟨k,l+n * 3,none⟩) (i-n) (dB cs q):=Xv n (max n cs.length) L (by omega) (by omega) r;by_cases hcn:i=n
   ·subst i
    have s:Hid ((dB cs q).length=0):=by show _=_;rw[g.out];omega
    have u:Hid (Lv S (some ⟨k,l,none⟩) cs (some ⟨k,l,none⟩) 0 (dB cs q)):=by rw[AW rfl,JA]at m;exact m
    have Z:(cs.length:Int)<=(n:Int):=by omega
    clear r g m;go_wp2_with (go_at_call 96;apply j.mono;clear j;rintro e o ⟨rfl,f⟩;have d:bW w o:=h.trans (f.mono h.size);have⟨B,C⟩:=bS ((f.block w.heap.size A).trans t))
    all_goals go_ret
    all_goals exact⟨_,_,by rw[s.out];first|rfl|(simp;done)|(simp;omega),u,d⟩
   ·have u:Hid (Lv S (some ⟨k,l,none⟩) cs (some ⟨k,l+n * 3,none⟩) (i-n) (dB cs q)):=by rw[AQ hcn]at m;exact m
    clear m;by_cases hnt:n<=cs.length
    ·have s:Hid ((dB cs q).length=cs.length-n):=by show _=_;rw[g.out];omega
     have T:(n:Int)<=(cs.length:Int):=by omega
     clear r g;go_wp2_with (go_at_call 96;apply j.mono;clear j;rintro e o ⟨rfl,f⟩;have d:bW w o:=h.trans (f.mono h.size);have⟨B,C⟩:=bS ((f.block w.heap.size A).trans t))
     all_goals go_ret
     all_goals exact⟨_,_,by rw[s.out];first|rfl|(simp;done)|(simp;omega),u,d⟩
    ·exact absurd I hnt
theorem vO:∀{l m:List En},cM l->cM m->(∀a,a∈l↔a∈m)->l=m
 |[],[],_,_,_=>rfl
 |[],a :: m,_,_,h=>absurd ((h a).2 (by simp)) (by simp)
 |x :: l,[],_,_,h=>absurd ((h x).1 (by simp)) (by simp)
 |x :: l,a :: m,hl,hm,h=>by
  have⟨d,i⟩:=BC.1 hl;have⟨f,j⟩:=BC.1 hm;have g:x=a:=by
   rcases AR.1 ((h x).1 (by simp)) with e|e
   ·exact e
   ·rcases AR.1 ((h a).2 (by simp)) with e'|e'
    ·grind
    ·have:=eV (d a e') (f x e)
     rw[cF]at this;cases this
  subst g;rw[vO i j (λc=>?_)];constructor
  ·intro b
   rcases AR.1 ((h c).1 (by simp[b])) with rfl|hz'
   ·have:=d c b;rw[cF]at this;cases this
   ·exact hz'
  ·intro b
   rcases AR.1 ((h c).2 (by simp[b])) with rfl|hz'
   ·have:=f c b;rw[cF]at this;cases this
   ·exact hz'
theorem Va {es}(e:cM es)(h:cJ cs)(q):bD (es.filter (λx=>q.has x.e.key)) (dB cs q)=(bD es cs).filter (λx=>q.has x.e.key):=by
 rw[mW,mW];have m:cJ (dB cs q):=EF _ h;have k:cM (es.filter (λx=>q.has x.e.key)):=EF _ e;refine vO (rU _ _ k m) (EF _ (rU _ _ e h)) (λn=>?_);rw[tN _ _ k m,DZ,DZ,tN _ _ e h];unfold dB;constructor
 ·rintro(⟨c,a,f,rfl⟩|⟨i,g⟩)
  ·have⟨d,b⟩:=DZ.1 a
   exact⟨.inl ⟨c,d,f,rfl⟩,b⟩
  grind
 ·rintro⟨⟨c,a,f,rfl⟩|⟨i,g⟩,l⟩
  ·exact .inl ⟨c,DZ.2 ⟨a,l⟩,f,rfl⟩
  grind
def iC(next:Nat)(d:ByteArray):Pg:=⟨4,0,0,next,[],[],[],d⟩
def eJ(es:List En):Pg:=⟨3,0,0,0,[],[],es.map (·.e),⟨#[]⟩⟩
def eU(los:List ByteArray)(pls:List Nat):Pg:=⟨2,0,0,0,los,pls.map (λn:Nat=>(n:Int)),[],⟨#[]⟩⟩
def dR(ver root:Int):Pg:=⟨1,ver,root,0,[],[],[],⟨#[]⟩⟩
theorem tU(a:Pg)(c:eG a.kind a.ver a.root a.next a.keys a.kids a.ents a.data=true)(b:(fieldsB a.kind a.ver a.root a.next a.keys a.kids a.ents a.data).length<=252):a.encE=0:=by
 unfold Pg.encE Pages.dO;rw[AW (by grind)]
theorem xT:(⟨#[]⟩:ByteArray).toList.isEmpty=true:=by simp
theorem pJ(s):(dQ s).length=s.size+1:=by
 rfl
theorem Qe(ver root)(b:0<=ver)(c:root=0\/bH root=true):(dR ver root).encE=0:=by
 refine tU _ ?_ ?_
 ·rcases c with a|a<;>simp[dR,eG,fM,lK,kR,Ib,b,a,xT]
 ·simp[dR,fieldsB,aK]
theorem Qd(next:Nat)(d)(b:next=0\/bH next=true)(c:1<=d.size)(e:d.size<=240):(iC next d).encE=0:=by
 refine tU _ ?_ ?_
 ·rcases b with a|a<;>simp[iC,eG,fM,lK,kS,Dg,a,c,e]
 ·have:=pJ d
  simp[iC,fieldsB,aK];omega
theorem Ij:∀(es:List Ent) (c:ByteArray),es.Pairwise (λa b=>lt a.key b.key=true)->(∀e∈es,lt c e.key=true/\e.key.size<=24/\pI e.val e.size e.over=true)->fV c es=true
 |[],_,_,_=>rfl
 |e :: r,c,hp,h=>by
  have⟨m,n⟩:=BC.1 hp;have⟨g,i,j⟩:=h e (by simp);simp only[fV,AN,gO];refine⟨⟨⟨g,by grind⟩,j⟩,Ij r e.key n (λf d=>?_)⟩;grind
theorem Cq:∀(ks:List ByteArray) (c:ByteArray),ks.Pairwise (λa b=>lt a b=true)->(∀k∈ks,lt c k=true/\k.size<=24)->fS c ks=true
 |[],_,_,_=>rfl
 |k :: r,c,hp,h=>by
  have⟨i,j⟩:=BC.1 hp;have⟨f,g⟩:=h k (by simp);simp only[fS,AN,gO];exact⟨⟨f,by grind⟩,Cq r k j (λe d=>⟨i e d,(h e (by simp[d])).2⟩)⟩
theorem qHw(x)(h:pI x.e.val x.e.size x.e.over=true):(Ent.bytes x.e).length=esz x:=by
 unfold Ent.bytes mC esz;rw[jK,pJ];simp only[pI,DN,AN,CP,BQ]at h;rcases h with⟨⟨a,e⟩,b⟩|⟨⟨⟨a,e⟩,b⟩,f⟩
 ·rw[AW (by simp[a]),AQ (by omega),jK,pJ]
  simp;omega
 ·have d:¬(x.e.over==0)=true:=by
   intro c;rw[CP.1 c]at a;simp[bH]at a
  rw[AQ d,AW b,jK,jK,aK,aK];simp
theorem Px:∀(es:List En),(∀x∈es,pI x.e.val x.e.size x.e.over=true)->((es.map (·.e)).flatMap Ent.bytes).length=tot esz es
 |[],_=>rfl
 |x :: es,h=>by
  rw[BD,AJ,jK,cG,qHw x (h x (by simp)),Px es (λb a=>h b (by simp[a]))]
theorem qFh(es)(c:es≠[])(f:cM es)(b:∀x∈es,lt ⟨#[]⟩ x.e.key=true/\x.e.key.size<=24/\pI x.e.val x.e.size x.e.over=true)(j:tot esz es<=250):(eJ es).encE=0:=by
 have e:=Ij _ _ (by rw[EI];exact f) (λg d=>by
  obtain⟨x,a,rfl⟩:=AY.1 d;exact b x a)
 refine tU _ ?_ ?_
 ·have i:es.map (·.e)≠[]:=by simp_all
  simp[eJ,eG,kS,fM,kR,e,c,xT]
 ·have h:=Px es (λx a=>(b x a).2.2)
  simp only[eJ,fieldsB,mG,jK,aK,AQ (show ¬(3:Int)=1 by decide),AQ (show ¬(3:Int)=2 by decide),AW];omega
theorem Om:∀(l:List Int),(l.flatMap (beB 2)).length=2 * l.length
 |[]=>rfl
 |x :: l=>by rw[AJ,jK,aK,Om l,jB];omega
theorem Ot:∀(l:List ByteArray),(l.flatMap dQ).length=tot (λk:ByteArray=>k.size+1) l
 |[]=>rfl
 |x :: l=>by rw[AJ,jK,pJ,Ot l,cG]
theorem qFi(c d)(i:c≠[])(h:d.length=c.length+1)(m:c.Pairwise (λa b=>lt a b=true))(g:∀k∈c,lt ⟨#[]⟩ k=true/\k.size<=24)(j:∀p∈d,bH (p:Nat)=true)(q:2 * d.length+tot (λk:ByteArray=>k.size+1) c<=250):(eU c d).encE=0:=by
 refine tU _ ?_ ?_
 ·have f:(d.map (λn:Nat=>(n:Int))).all bH=true:=by
   grind
  simp only[eU,eG,kS,lK,kR,gP,Cq c ⟨#[]⟩ m g,f,xT,AQ (show ¬(2:Int)=1 by decide),AW,AE,h];simp[i]
 ·simp only[eU,fieldsB,eM,jK,aK,AQ (show ¬(2:Int)=1 by decide),AW,Om,Ot,AE]
  omega
theorem Pj{fs:Fs}{p g}(h:fs.has p g)(a:g.kind=2):∀k∈g.kids,bH k=true:=by
 have:=tR h;rw[a]at this;simp only[eG,AQ (show ¬(2:Int)=1 by decide),AW,AN,gP,LD]at this;grind
theorem qEv{fs:Fs}{p g}(h:fs.has p g)(a:g.kind=4):g.next=0\/bH g.next=true:=by
 have:=tR h;rw[a]at this;simp only[eG,AQ (show ¬(4:Int)=1 by decide),AQ (show ¬(4:Int)=2 by decide),AQ (show ¬(4:Int)=3 by decide),AW,AN,Dg,DN,CP]at this;grind
theorem sV(g:Pg)(a:g.encE=0):g.encS.size=256:=by
 unfold Pg.encE Pages.dO at a;split at a
 ·rename_i hT
  unfold Pg.encS Pages.encS;rw[AW hT];simp only[AN,BQ]at hT;show(uE _).toArray.size=256
  simp only[jA,uE,Gl,jK,EQ,aK];omega
 ·simp at a
theorem Qf(g)(c:g.ver<9223372036854775808)(b:g.encE=0):Rz g.encS g:=by
 have a:=Su g c b;exact⟨sV g b,by grind,by rw[a],a.symm⟩
