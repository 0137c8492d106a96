import Derived.Test.YtdhgdcjmhofhaaaGreatD33
import Derived.Test.YtdhgdcjmhofhaaaGreatD34
set_option linter.all false
set_option maxRecDepth 100000
set_option maxHeartbeats 8000000
namespace Go.Proofs.YtdhgdcjmhofhaaaGreat.Tree
open Go.RowKit Pages
variable {b n p z:Nat} {c v:Value} {d:Bl} {e:TypeId} {fr:List Nat} {l:List (Nat×Pg)} {u:List Bool} {w w':World} {xs:List Value}
def enc1(y:Nat×Pg):Nat×ByteArray:=(y.1,y.2.encS)
theorem Tg(next d)(h:d.size<=240):(iC next d).small:=by
 exact⟨by simp[iC],by simp[iC],by simp[iC],by simp[iC],by simp[iC,eM,aK],by simp[iC,mG,aK],(by simp only[iC];omega)⟩
theorem Tc(w S g)(b:g.keys=[])(c:g.kids=[])(d:g.ents=[])(f e a):Fz w S g none none none f e a:=⟨.inl (by rw[b];rfl),.inl (by rw[c];rfl),.inl (by rw[d];rfl)⟩
def gX(b:Nat)(Sf:Bl)(fr:List Nat)(wv:Value)(ws:List (Nat×ByteArray))(w:World)(x:Nat)(l:List (Nat×Pg))(e:Ending)(w':World):Prop :=
 Fr (fpL b wv) w w'/\((l.length<=fr.length/\e=.returned (.int .i64 x)/\∃fa' fc' wv',fD w' b Sf fa' fc' (fr.drop l.length) wv' (ws++l.map enc1)/\∀k,wv'.ownBlock=some k->wv.ownBlock=some k\/w.heap.size<=k)\/(fr.length<l.length/\e=.panicked (sS 8)))
theorem gX.seq {g f p o w m n q l j e}(h:Fr (fpL b f) w m)(i:∀k,p.ownBlock=some k->f.ownBlock=some k\/w.heap.size<=k)(A:l.length<=fr.length)(c:gX b g (fr.drop l.length) p (o++l.map enc1) m q j e n):gX b g fr f o w q (l++j) e n:=by
 have⟨v,c⟩:=c;rw[BH]at c;refine⟨h.grow v (λk a=>?_),?_⟩
 ·rcases a with a|a
  ·exact .inl (.inl a)
  ·exact(i k a).imp (λt=>.inr t) id
 ·rw[jK]
  rcases c with⟨u,rfl,r,s,z,x,y⟩|⟨u,rfl⟩
  ·refine .inl ⟨by omega,rfl,r,s,z,by simp_all,λk a=>?_⟩
   ·rcases y k a with d|d
    ·exact i k d
    ·exact .inr (vJ h.size d)
  grind
theorem gX.full {g w a h l f}(e:Fr (fpL b c) w a)(i:fr.length<l.length):gX b d fr c g w h (l++f) (.panicked (sS 8)) a:=⟨e,.inr ⟨by grind,rfl⟩⟩
theorem gX.ahead {c a i w f g j e}(d:Fr (fpL b a) w f)(h:gX b c fr a i f j l e g):gX b c fr a i w j l e g:=⟨d.trans h.1,h.2.imp (λ⟨n,o,k,m,t,p,q⟩=>⟨n,o,k,m,t,p,λs r=>(q s r).imp id (λh=>vJ d.size h)⟩) id⟩
theorem Zg(b m n o q p a c d f g i j k w)(h:fD w b m n o [] q p):
  cL 209 #[.p b 0,.agg #[a,c,d,f,g,i,j,k]] w λe w'=>e=.panicked (sS 8)/\bW w w':=by
 have l:bW w (w.alloc (.cells #[a,c,d,f,g,i,j,k] 80)):=bA _ _;have⟨t,u⟩:=bS ((h.fr l).box);go_enter Tryz.func209,Tryz.ntmps209;go_wp2_with (go_at_call 139;apply(Uq 8 _).mono;rintro e w' ⟨rfl,s⟩;subst w');exact⟨rfl,rfl,l⟩
theorem Da(b c i j fr d a g n l e o m f S w)(h:fD w b c i j fr d a)(v:Fz w S g n l e o m f)(x:∀b,S b->b<w.heap.size)(y:¬S b)(k:0<fr.length->g.small/\g.encE=0)(B:a.length<=100000):
  cL 209 #[.p b 0,.agg #[.i g.kind,.i g.ver,.i g.root,.i g.next,.slice n g.keys.length o,.slice l g.kids.length m,.slice e g.ents.length f,.string g.data]] w (gX b c fr d a w (fr.getD 0 0) [(fr.getD 0 0,g)]):=by
 cases fr with
 |nil =>
  apply(Zg b c i j d a _ _ _ _ _ _ _ _ w h).mono;rintro q w' ⟨rfl,z⟩;exact⟨AA z,.inr ⟨by simp,rfl⟩⟩
 |cons p fr =>
  have⟨k,s⟩:=k (by simp);apply(qDn b c i j p fr d a g n l e o m f S w h v x y k s B).mono;rintro q w' ⟨rfl,r,C,u,t,A⟩;exact⟨t,.inl ⟨by simp,rfl,r,_,C,u,A⟩⟩
theorem Hc(b x):∀(k:Nat) (v:ByteArray) (F:Option Addr) (G:Nat) (fr:List Nat) (E:Value) (u:List (Nat×ByteArray)) (w:World) (h:fD w b x F G fr E u) (a8:v.size<=240 * k) (a9:v.size<=100000) (P:∀p∈fr,bH (p:Nat)=true) (Z:u.length+fr.length<=100000),
  cL 211 #[.p b 0,.string v] w (gX b x fr E u w (iV (gV k v fr)) (gV k v fr).reverse)
 |k,v,F,G,fr,E,u,w,h,a8,a9,P,Z=>by
  by_cases z:v.size=0
  ·have a2:=tJ z
   subst a2;rw[kA _ _ _ z];go_enter Tryz.func211,Tryz.ntmps211;go_wp2;go_ret;exact⟨AF _ _,.inl ⟨AH _,rfl,F,G,E,by grind,λk a5=>.inl a5⟩⟩
  ·cases k with
   |zero=>omega
   |succ k =>
    have a7:¬v=⟨#[]⟩:=λm=>z (by rw[m];rfl);rw[kC _ _ _ z];have g:=Hc b x k (v.extract (min v.size 240) v.size) F G fr E u w.drew (h.fr ((AC _ w).drew)) (by rw[gQ _ _ _ (jU _)];omega) (by rw[gQ _ _ _ (jU _)];omega) P Z;have⟨c,O⟩:=nM (gV k (v.extract (min v.size 240) v.size) fr);have V:c.length<=fr.length->∀R∈c,R.1∈fr:=λC=>by rw[<-O]at C⊢;exact sN (k:=k) (v:=v.extract (min v.size 240) v.size) (fr:=fr) C
    rw[O]at g⊢;have I:(v.extract 0 (min v.size 240)).size=min v.size 240:=by simp
    have f:Hid (∀(n:Option Addr) (o:Nat) (j:Value) (w':World),c.reverse.length<=fr.length->fD w' b x n o (fr.drop c.reverse.length) j (u++c.reverse.map enc1)->cL 209 #[.p b 0,.agg #[.i 4,.i 0,.i 0,.i (iV c:Nat),.n,.n,.n,.string (v.extract 0 (min v.size 240))]] w' (gX b x (fr.drop c.reverse.length) j (u++c.reverse.map enc1) w' (fr.getD c.length 0) [(fr.getD c.length 0,iC (iV c) (v.extract 0 (min v.size 240)))])):=by
     intro n o j w' C y;rw[DQ]at C y⊢;have m:fr.getD c.length 0=(fr.drop c.length).getD 0 0:=by simp
     rw[m];refine Da b x n o _ j _ (iC (iV c) (v.extract 0 (min v.size 240))) none none none 0 0 0 Bl.none w' y (Tc _ _ _ rfl rfl rfl 0 0 0) (λ_ h=>h.elim) (λh=>h) (λz=>⟨Tg _ _ (by rw[I];omega),Qd _ _ ?_ (by rw[I];omega) (by rw[I];omega)⟩) (by grind);cases c with
     |nil=>exact .inl rfl
     |cons R l=>exact .inr (P _ (V C R (by simp)))
    rw[GJ];have⟨J,X⟩:=nM (fr.getD c.length 0);have T:Hid (iV ((J,iC (iV c) (v.extract 0 (min v.size 240))):: c)=J):=rfl;rw[X]at f⊢;rw[T.out];have⟨B,U⟩:=nM (iV c);rw[U]at g f⊢;have⟨a0,W⟩:=nM (iC B (v.extract 0 (min v.size 240)));rw[W]at f⊢;have⟨a1,Y⟩:=nM (c.reverse);rw[Y]at g f⊢;clear O V X I T U W Y;have ad:v.toList.isEmpty=false:=Oy.2 a7;by_cases hle:v.size<=240
    ·have H:min v.size 240=v.size:=by omega
     rw[H]at g f;have a3:v.extract v.size v.size=ByteArray.empty:=by simp
     have a4:v.extract 0 v.size=v:=extract_all (jU _);rw[a3]at g;rw[a4]at f;have a6:(v.size:Int)<=240:=by omega
     go_enter Tryz.func211,Tryz.ntmps211;go_wp2;apply dF (S:=λ_=>True) 11 (by kernel_rfl);have M:True:=trivial;apply tks [(0,.p b 0),(1,.p b 0),(2,.string v),(3,.i v.size),(4,.string ByteArray.empty),(6,.string v),(7,.i v.size),(8,.string v)] (by assumption);iterate 8 (refine⟨_,rfl,by kernel_rfl,λ_ _ _ h=>h,.inl ⟨by rfl,λw s=>by(try dsimp only at s);go_simp⟩,?_⟩;try simp only[pS])
     apply tke;refine aR (i:=5) (by kernel_rfl) rfl (λK d=>?_);go_simp;go_at_call 211
     (with_reducible apply jC g)
     intro m Q ⟨L,r⟩;have q:=(AF _ w).drew.trans L;rcases r.symm with⟨e,rfl⟩|⟨e,rfl,n,o,j,y,D⟩
     ·exact⟨rfl,gX.full q e⟩
     simp only[];apply d.out _ _ (λ_=>trivial);try simp only[pS]
     refine lS (i:=9) (v:=.agg #[.i 4,.i 0,.i 0,.i B,.n,.n,.n,.string v]) rfl (by kernel_rfl) (λ_ _ _ h=>h) (.inl ⟨by rfl,λw s=>by(try dsimp only at s);go_simp⟩) (by assumption) (λM=>?_);try simp only[pS]
     refine aR (i:=10) (by kernel_rfl) rfl (λK d=>?_);go_simp;go_at_call 209
     (with_reducible apply jC (f.out n o j Q e y))
     intro m aa ⟨A,r⟩;rcases r.symm with⟨t,rfl⟩|⟨t,rfl,N⟩
     ·exact⟨rfl,gX.seq q D e ⟨A,.inr ⟨t,rfl⟩⟩⟩
     simp only[];apply d.out _ _ (λ_=>trivial);try simp only[pS]
     refine aR (i:=11) (by kernel_rfl) rfl (λK d=>?_);go_simp;apply d.out _ _ (λ_=>by trivial);clear d K;try simp only[pS]
     refine cY (by kernel_rfl) ?_ _;go_wp2;go_ret;exact gX.seq q D e ⟨A,.inl ⟨t,rfl,N⟩⟩
    ·have H:min v.size 240=240:=by omega
     rw[H]at g f;have a6:¬(v.size:Int)<=240:=by omega
     have ac:(240:Int)<=(v.size:Int):=by omega
     have ab:240<=v.size:=by omega
     clear H;go_enter Tryz.func211,Tryz.ntmps211;go_wp2;apply dF (S:=λ_=>True) 11 (by kernel_rfl);have M:True:=trivial;apply tks [(0,.p b 0),(1,.p b 0),(2,.string v),(3,.i 240),(4,.string (v.extract 240 v.size)),(6,.string v),(7,.i 240),(8,.string (v.extract 0 240))] (by assumption);iterate 8 (refine⟨_,rfl,by kernel_rfl,λ_ _ _ h=>h,.inl ⟨by rfl,λw s=>by(try dsimp only at s);go_simp⟩,?_⟩;try simp only[pS])
     apply tke;refine aR (i:=5) (by kernel_rfl) rfl (λK d=>?_);go_simp;go_at_call 211
     (with_reducible apply jC g)
     intro m Q ⟨L,r⟩;have q:=(AF _ w).drew.trans L;rcases r.symm with⟨e,rfl⟩|⟨e,rfl,n,o,j,y,D⟩
     ·exact⟨rfl,gX.full q e⟩
     simp only[];apply d.out _ _ (λ_=>trivial);try simp only[pS]
     refine lS (i:=9) (v:=.agg #[.i 4,.i 0,.i 0,.i B,.n,.n,.n,.string (v.extract 0 240)]) rfl (by kernel_rfl) (λ_ _ _ h=>h) (.inl ⟨by rfl,λw s=>by(try dsimp only at s);go_simp⟩) (by assumption) (λM=>?_);try simp only[pS]
     refine aR (i:=10) (by kernel_rfl) rfl (λK d=>?_);go_simp;go_at_call 209
     (with_reducible apply jC (f.out n o j Q e y))
     intro m aa ⟨A,r⟩;rcases r.symm with⟨t,rfl⟩|⟨t,rfl,N⟩
     ·exact⟨rfl,gX.seq q D e ⟨A,.inr ⟨t,rfl⟩⟩⟩
     simp only[];apply d.out _ _ (λ_=>trivial);try simp only[pS]
     refine aR (i:=11) (by kernel_rfl) rfl (λK d=>?_);go_simp;apply d.out _ _ (λ_=>by trivial);try simp only[pS]
     refine cY (by kernel_rfl) ?_ _;go_wp2;go_ret;exact gX.seq q D e ⟨A,.inl ⟨t,rfl,N⟩⟩
theorem Zi(w:World)(a z):(w.alloc (.cells #[] a)).ownsRow 0 a z (.q w.heap.size 0 0) 0 []:=by
 refine⟨by simp,.inr ⟨w.heap.size,0,#[],rfl,AH _,aA w _,jU _,by unfold maxLen;omega,by simp,by simp⟩⟩
theorem qBf(b a f es S w)(l:aD w S (some ⟨b,a,none⟩) (aT es))(m:∀b,S b->b<w.heap.size)(t:es.length<=100000)(s:es≠[]):
  cL 210 #[.slice (some ⟨b,a,none⟩) es.length f] w λe w'=>∃v,e=.returned v/\w'.ownsRow 0 69 4 v es.length (aT es)/\bW w w'/\∀k,v.ownBlock=some k->w.heap.size<=k:=by
 have p:∀d c,(aT es)[d]?=some c->(w.alloc (.cells #[] 69)).cell? ((⟨b,a,none⟩:Addr).add d)=some c:=by
  intro d c q;have⟨r,x,j,n,o⟩:=l.val q;simp only[AX,CA,DA]at j;obtain⟨rfl,rfl⟩:=j;have e:(⟨b,a,none⟩:Addr).add d=⟨b,a+d,none⟩:=by unfold Addr.add;split<;>simp_all
  rw[e,CF (w:=w) (DB w _ b (m b n))];exact o
 have u:∀(c:World),(binOp .eql 67 (.slice (some ⟨b,a,none⟩) es.length f) .n).run Tryz.prog c=.ok (.bool false) c:=λc=>Go.Lib.run_eql_slice_nil (P:=Tryz.prog) c 67 69 (some ⟨b,a,none⟩) es.length f 0 0 Tryz.underlying67;go_enter Tryz.func210,Tryz.ntmps210;go_wp2_with (at_builtin;apply wZ (w.alloc (.cells #[] 69)) rfl (.tmp 5) (.tmp 6) 67 69 _ 4 48 rfl Tryz.underlying67 Ei rfl (by decide) (.q w.heap.size 0 0) 0 [] rfl (Zi w _ 4) ⟨b,a,none⟩ es.length f (aT es) rfl (by rw[nW]) p (Ey es) (by omega) (by omega);intro v3 y g);go_ret;refine⟨_,rfl,by simpa using g.row,((AC _ w).alloc (jU _) _).trans (g.fr.below (by simp) (λk i=>by simp[Value.ownBlock]at i;omega)),λk i=>?_⟩;rcases g.lies k i with h|h
 ·simp[Value.ownBlock]at h;omega
 ·simp at h;omega
theorem Ed:∀(es:List En) (x:En) (fr:List Nat),aV (es++[x]) fr=((aV es fr).1++[oF x (fr.drop (aV es fr).2.length)],(aV es fr).2++(dN x (fr.drop (aV es fr).2.length)).reverse)
 |[],x,fr=>by simp[aV]
 |y :: es,x,fr=>by
  simp only[jF,aV,Ed es x,KL,jK,DQ,BX]
theorem Oi(es:List En)(fr j)(a:j<es.length):aV (es.take (j+1)) fr=((aV (es.take j) fr).1++[oF es[j] (fr.drop (aV (es.take j) fr).2.length)],(aV (es.take j) fr).2++(dN es[j] (fr.drop (aV (es.take j) fr).2.length)).reverse):=by
 rw[AK a,Ed]
theorem pE:∀(es:List En) (fr:List Nat) (j:Nat),(aV (es.take j) fr).2.length<=(aV es fr).2.length
 |[],_,_=>by simp[aV]
 |x :: es,fr,0=>by simp[aV]
 |x :: es,fr,j+1=>by
  have:=pE es (fr.drop (dN x fr).length) j;simp only[EJ,aV,jK,DQ];omega
theorem Vb(a B x b o s)(f:b.e=⟨x.e.key,s,x.e.size,o⟩):((aT (a++x :: B)).set (a.length * 4+3) (.i o)).set (a.length * 4+1) (.string s)=aT (a++b :: B):=by
 have c:aT (a++x :: B)=aT a++(x.e.cells++aT B):=by simp[aT]
 have d:aT (a++b :: B)=aT a++(b.e.cells++aT B):=by simp[aT]
 rw[c,d,<-(nW a),ES _ _ (by omega),ES _ _ (by omega)];congr 1;rw[show(aT a).length+3-(aT a).length=3 by omega,show(aT a).length+1-(aT a).length=1 by omega,f];rfl
theorem Tv(es)(o:es.length<=100000)(d:∀x∈es,x.fits):(eJ es).small:=by
 refine⟨by simp[eJ],by simp[eJ],by simp[eJ];omega,?_,?_,?_,AH _⟩
 ·intro l e
  obtain⟨x,f,rfl⟩:=AY.1 e;have:=d x f;exact⟨by have:=this.1;omega,by have:=this.2;omega⟩
 ·simp[eJ,eM,aK]
 ·have h:∀(a:List En),(∀x∈a,x.fits)->((a.map (·.e)).flatMap Ent.bytes).length<=500 * a.length:=by
   intro a;induction a with
   |nil=>simp
   |cons x a ih =>
    intro b;have m:=ih (λi g=>b i (by simp[g]));have c:=b x (by simp);have n:(Ent.bytes x.e).length<=500:=by
     unfold Ent.bytes mC;have:=pJ x.e.key;have:=pJ x.e.val;have j:=c.1;have k:=c.2;split
     ·rw[jK,jK];simp;omega
     ·rw[jK,jK,jK,aK,aK];simp;omega
    rw[BD,AJ,jK,jB];omega
  have:=h es d;simp only[eJ,mG,jK,aK];omega
theorem fD.not {f g l}(h:fD w b d f g fr c l){k cs t}(a:w.heap[k]?=some (.cells cs t))(i:t≠238)(j:t≠226):¬fpL b c k:=by
 rintro(rfl|e)
 ·rw[h.box]at a
  simp at a;exact i a.2.symm
 ·exact aQ h.own a j e
theorem fD.beside {e g i d l}(h:fD w b e g i fr d l){Y}(f:Fr Y w w')(j:∀k,Y k->¬fpL b d k)(m:∀k,Y k->¬e k):fD w' b e g i fr d l :=
 ⟨f.heap h.box (λc=>j b c (.inl rfl)),h.free.on (f.on (λk a=>⟨(h.apart k a).1,λc=>m k c a⟩)),h.some',h.cap,aS h.own (f.on (Z:=λk=>d.ownBlock=some k) (λk a=>⟨aM h.own a,λc=>j k c (.inr a)⟩)) (λk a=>a),λk a=>⟨jY (h.apart k a).1 f.size,(h.apart k a).2⟩⟩
theorem kO {z g n c}(h:w.ownsRow 0 e z (.q g n c) n xs):∃b,w.heap[g]?=some (.cells b e):=by
 have⟨_,d⟩:=h;rcases d with⟨a,_⟩|⟨j,i,b,a,_,f,_⟩
 ·simp at a
 ·simp only[AP,AX,CA,DA,CT]at a
  obtain⟨rfl,_⟩:=a;exact⟨b,f⟩
theorem qEl(b Sf fs es ea ec S fa fc fr wv ws w)(h:fD w b Sf fa fc fr wv ws)(hR:aD w S ea (aT es))(hS:∀b,S b->b<w.heap.size)(hne:es≠[])(hr:cM es)(hg:∀x∈es,x.good fs)(ht:tot esz es<=250)(hn:es.length<=1000)(hp:∀p∈fr,bH (p:Nat)=true)(hws:ws.length+fr.length<=10000):
  cL 194 #[.p b 0,.slice ea es.length ec] w (gX b Sf fr wv ws w (fr.getD (aV es fr).2.length 0) ((aV es fr).2++[(fr.getD (aV es fr).2.length 0,eJ (aV es fr).1)])):=by
 obtain⟨b0,o0,rfl,hb0⟩:=hR.addr (yG (BR.2 hne));have hC:=qBf b0 o0 ec es S w hR hS (by omega) hne;go_enter Tryz.func194,Tryz.ntmps194;go_wp2_with (go_at_call 210;(with_reducible refine jC hC ?_);rintro e wc ⟨v,rfl,hown,hbc,hlies⟩;obtain⟨g,cE,rfl,hgl,hcE⟩:=vU hown (BR.2 hne));have hgw:w.heap.size<=g:=hlies g rfl;have hL0:=h.fr hbc;have bP:bW wc (wc.alloc (.cells #[.i 3,.i 0,.i 0,.i 0,.n,.n,.q g es.length cE,.string ⟨#[]⟩] 80)):=bA _ _;have xP:=aA wc (.cells #[.i 3,.i 0,.i 0,.i 0,.n,.n,.q g es.length cE,.string ⟨#[]⟩] 80);have hLP:=hL0.fr bP;have hoP:=CG (w:=wc) hown (.cells #[.i 3,.i 0,.i 0,.i 0,.n,.n,.q g es.length cE,.string ⟨#[]⟩] 80);obtain⟨WP,hWP⟩:=nM (wc.alloc (.cells #[.i 3,.i 0,.i 0,.i 0,.n,.n,.q g es.length cE,.string ⟨#[]⟩] 80));obtain⟨p0,p1,p2,p3,p4,p5,p6,p7⟩:=bM xP;have FP:Fr (fpL b wv) w WP:=(AA hbc).trans (hWP▸AA bP);go_loopw [14] (λi wr=>∃(j:Nat) (fa':Option Addr) (fc':Nat) (wv':Value),i=.i j/\j<=es.length/\(aV (es.take j) fr).2.length<=fr.length/\fD wr b Sf fa' fc' (fr.drop (aV (es.take j) fr).2.length) wv' (ws++(aV (es.take j) fr).2.map enc1)/\wr.ownsRow 0 69 4 (.q g es.length cE) es.length (aT ((aV (es.take j) fr).1++es.drop j))/\wr.heap[wc.heap.size]?=some (.cells #[.i 3,.i 0,.i 0,.i 0,.n,.n,.q g es.length cE,.string ⟨#[]⟩] 80)/\Fr (fpL b wv) w wr/\∀k,wv'.ownBlock=some k->wv.ownBlock=some k\/w.heap.size<=k) (λi _=>es.length-(intOf i).toNat)
 case atStart=>rw[hWP]at hLP hoP xP⊢;exact⟨0,fa,fc,wv,rfl,AH _,by simp[aV],by simpa[aV] using hLP,by simpa[aV] using hoP,xP,FP,λk hk=>.inl hk⟩
 case round =>
  obtain⟨j,fa',fc',wv',rfl,hj,hrm,hL,ho,xp,hF,hli⟩:=hrel;clear p0 p1 p2 p3 p4 p5 p6 p7;obtain⟨p0,p1,p2,p3,p4,p5,p6,p7⟩:=bM xp;have zF:=hF.size;by_cases hlt:j<es.length
  ·obtain⟨x,hx⟩:=nM (es[j])
   have hxm:x∈es:=hx▸AB hlt;obtain⟨A,hA⟩:=nM ((aV (es.take j) fr).1);have hAl:A.length=j:=by rw[<-hA,qU,AZ];omega
   obtain⟨f,hf⟩:=nM (fr.drop (aV (es.take j) fr).2.length);have hst:=Oi es fr j hlt;rw[hx,hA,hf]at hst;have hle1:=pE es fr (j+1);rw[hst]at hle1;simp only[jK,DQ]at hle1;have hfl2:f.length=fr.length-(aV (es.take j) fr).2.length:=by rw[<-hf,BH]
   have hfp:∀p∈f,bH (p:Nat)=true:=λp hpp=>hp p (BO (hf▸hpp));have hdr:es.drop j=x :: es.drop (j+1):=by rw[CC hlt,hx]
   rw[hA,hdr]at ho;rw[hf]at hL;have hcell:∀i (u:Value),i<4->x.e.cells[i]?=some u->wr.cell? ⟨g,j * 4+i,none⟩=some u:=λi u hi hu=>by
    have hidx:(aT (A++x :: es.drop (j+1)))[j * 4+i]?=some u:=by
     have e1:aT (A++x :: es.drop (j+1))=aT A++(x.e.cells++aT (es.drop (j+1))):=by simp[aT]
     have hA4:(aT A).length=j * 4:=by rw[nW,hAl]
     rw[e1,BJ (by omega),hA4,show j * 4+i-j * 4=i by omega,BT (by have:x.e.cells.length=4:=rfl;omega)];exact hu
    obtain⟨g',e1,_,_,e2⟩:=vZ ho hidx;simp only[AX,CA,DA]at e1;rw[e1];exact e2
   have hgx:=hg x hxm;obtain⟨⟨xk,xv,xs,xo⟩,xch⟩:=x;have c0:wr.cell? ⟨g,j * 4,none⟩=some (.string xk):=hcell 0 _ (by decide) rfl;have c1:wr.cell? ⟨g,j * 4+1,none⟩=some (.string xv):=hcell 1 _ (by decide) rfl;have c2:wr.cell? ⟨g,j * 4+2,none⟩=some (.i xs):=hcell 2 _ (by decide) rfl;have c3:wr.cell? ⟨g,j * 4+3,none⟩=some (.i xo):=hcell 3 _ (by decide) rfl;have hcE':es.length<=cE:=by have:=ho.2;rcases this with⟨h1,_⟩|⟨_,cap,cur,h1,_,_,h2,_⟩;simp at h1;simp at h1;omega
   have nE:=aA wr (.cells #[.string xk,.string xv,.i xs,.i xo] 69);obtain⟨q0,q1,q2,q3⟩:=iM nE;have bE:bW wr (wr.alloc (.cells #[.string xk,.string xv,.i xs,.i xo] 69)):=bA _ _;have xpE:=aI (.cells #[.string xk,.string xv,.i xs,.i xo] 69) xp;obtain⟨r0,r1,r2,r3,r4,r5,r6,r7⟩:=bM xpE;have hLE:=hL.fr bE;have hoE:=CG (w:=wr) ho (.cells #[.string xk,.string xv,.i xs,.i xo] 69);have FE:Fr (fpL b wv) w (wr.alloc (.cells #[.string xk,.string xv,.i xs,.i xo] 69)):=hF.trans (AA bE);have HST:Hid (aV (es.take (j+1)) fr=(A++[oF ⟨⟨xk,xv,xs,xo⟩,xch⟩ f],(aV (es.take j) fr).2++(dN ⟨⟨xk,xv,xs,xo⟩,xch⟩ f).reverse)):=hst;have HF:Hid (fr.drop (aV (es.take j) fr).2.length=f):=hf;have HAL:Hid (A.length=j):=hAl;have same:(⟨⟨xk,xv,xs,xo⟩,xch⟩:En).newB=false->(∃(j_1:Nat) (fa':Option Addr) (fc':Nat) (wv':Value),(Value.int IntKind.i64 ((j:Int)+1))=.i j_1/\j_1<=es.length/\(aV (es.take j_1) fr).2.length<=fr.length/\fD (wr.alloc (.cells #[.string xk,.string xv,.i xs,.i xo] 69)) b Sf fa' fc' (fr.drop (aV (es.take j_1) fr).2.length) wv' (ws++(aV (es.take j_1) fr).2.map enc1)/\(wr.alloc (.cells #[.string xk,.string xv,.i xs,.i xo] 69)).ownsRow 0 69 4 (.q g es.length cE) es.length (aT ((aV (es.take j_1) fr).1++es.drop j_1))/\(wr.alloc (.cells #[.string xk,.string xv,.i xs,.i xo] 69)).heap[wc.heap.size]?=some (.cells #[.i 3,.i 0,.i 0,.i 0,.n,.n,.q g es.length cE,.string ⟨#[]⟩] 80)/\Fr (fpL b wv) w (wr.alloc (.cells #[.string xk,.string xv,.i xs,.i xo] 69))/\∀k,wv'.ownBlock=some k->wv.ownBlock=some k\/w.heap.size<=k):=by
    intro hnb;have e1:dN ⟨⟨xk,xv,xs,xo⟩,xch⟩ f=[]:=by rw[dN,hnb];rfl
    have e2:oF ⟨⟨xk,xv,xs,xo⟩,xch⟩ f=⟨⟨xk,xv,xs,xo⟩,xch⟩:=by rw[oF,hnb];rfl
    have e3:=HST.out;rw[e1,e2,List.reverse_nil,EV]at e3;refine⟨j+1,fa',fc',wv',by simp,by omega,by rw[e3];exact hrm,?_,?_,xpE,FE,hli⟩
    ·rw[e3,HF.out];exact hLE
    ·rw[e3,BX];exact hoE
   clear hst hf hAl hcell hx hA hdr hcE;by_cases ho0:xo=0
   ·subst ho0
    by_cases hs60:60<xs
    ·have hnb:(⟨⟨xk,xv,xs,0⟩,xch⟩:En).newB=true:=by simp[En.newB];omega
     obtain⟨gs1,gs2,gs3,gs4⟩:=nA hgx hnb;have ech:dN ⟨⟨xk,xv,xs,0⟩,xch⟩ f=gV 2 xv f:=by rw[dN,hnb];rfl
     obtain⟨ch,hch⟩:=nM (gV 2 xv f);have hlenw:(ws++(aV (es.take j) fr).2.map enc1).length+f.length<=100000:=by
      rw[jK,AE];omega
     have hV:=Hc b Sf 2 xv fa' fc' f wv' (ws++(aV (es.take j) fr).2.map enc1) (wr.alloc (.cells #[.string xk,.string xv,.i xs,.i 0] 69)).drew (hLE.fr ((AC _ _).drew)) (by simp only at gs2;omega) (by simp only at gs2;omega) hfp hlenw;rw[hch]at hV;have elx:oF ⟨⟨xk,xv,xs,0⟩,xch⟩ f=⟨⟨xk,⟨#[]⟩,xs,(iV ch:Nat)⟩,ch⟩:=by rw[oF,hnb,AW rfl,ech,hch]
     have HST2:Hid (aV (es.take (j+1)) fr=(A++[⟨⟨xk,⟨#[]⟩,xs,(iV ch:Nat)⟩,ch⟩],(aV (es.take j) fr).2++ch.reverse)):=by
      show _=_;rw[HST.out,elx,ech,hch]
     obtain⟨hd,hhd⟩:=nM (iV ch);rw[hhd]at hV HST2;have HFU:Hid (f.length<ch.reverse.length->fr.length<(aV es fr).2.length):=λhh=>by have h1:=pE es fr (j+1);rw[HST2.out]at h1;simp only[jK]at h1;omega
     have hs6:(60:Int)<xs:=hs60;obtain⟨curE,hgE⟩:=kO hoE;have zE:g<wr.heap.size:=(jJ.1 (kO ho).choose_spec).1;have cB:∀{o:Nat}{u:Value},wr.cell? ⟨g,o,none⟩=some u->(wr.alloc (.cells #[.string xk,.string xv,.i xs,.i 0] 69)).cell? ⟨g,o,none⟩=some u:=λh=>by rw[CF (w:=wr) (bE.block g zE)];exact h
     have d1:=cB c1;have d3:=cB c3;have hnp:g≠wc.heap.size:=by omega
     have hpz:=(gL xp);clear same HST hnb ech hch elx hhd cB hs60 gs1 gs2 gs3 gs4;go_wp2;refine dF (S:=(λX=>X.cell? ⟨wc.heap.size,6,none⟩=some (.q g es.length cE)/\X.cell? ⟨wr.heap.size,1,none⟩=some (.string xv))) 9 (by kernel_rfl) ?_;have hHeld:=(show((λX:World=>X.cell? ⟨wc.heap.size,6,none⟩=some (.q g es.length cE)/\X.cell? ⟨wr.heap.size,1,none⟩=some (.string xv))) ((wr.alloc (.cells #[.string xk,.string xv,.i xs,.i 0] 69)).drew) from ⟨r6,q1⟩);refine tks [(0,.p wc.heap.size 6),(1,.q g es.length cE),(2,.i j),(3,.p b 0),(4,.p wr.heap.size 1),(5,.string xv)] (by assumption) ?_;iterate 6 (refine⟨_,rfl,by kernel_rfl,λ_ _ _ h=>h,.inl ⟨by rfl,λw hSw=>by(try dsimp only at hSw);go_simp⟩,?_⟩;try simp only[pS])
     refine tke ?_;refine aR (i:=6) (by kernel_rfl) rfl (λK hK=>?_);go_simp;go_at_call 211
     (with_reducible refine jC hV ?_)
     rintro e wt ⟨hF2,hQ⟩;have hF4:Fr (fpL b wv) w wt:=FE.grow ((AF _ _).drew.trans hF2) (λk hk=>by rcases hk with hk|hk;exact .inl (.inl hk);exact(hli k hk).imp (λh=>.inr h) id);rcases hQ.symm with⟨hl1,rfl⟩|⟨hl1,rfl,fa2,fc2,wv2,hL2,hli2⟩
     ·exact⟨rfl,gX.full hF4 (HFU.out hl1)⟩
     simp only[]
     (have hF3:Fr (fpL b wv') (wr.alloc (.cells #[.string xk,.string xv,.i xs,.i 0] 69)) wt:=(AF _ _).drew.trans hF2;have xpT:=hF3.heap xpE (hLE.not xpE (by decide) (by decide));have nET:=hF3.heap nE (hLE.not nE (by decide) (by decide));have hng:=hLE.not hgE (by decide) (by decide);have hoT:=aS hoE (hF3.on (Z:=λk=>k=g) (λk hk=>⟨by subst hk;exact(gL hgE),by subst hk;exact hng⟩)) (λk hk=>by simp[Value.ownBlock]at hk;exact hk.symm);obtain⟨r0,r1,r2,r3,r4,r5,r6,r7⟩:=bM xpT;obtain⟨q0,q1,q2,q3⟩:=iM nET;have d1T:=(hF3.cell (o:=j * 4+1) (gL hgE) hng).trans d1;have d3T:=(hF3.cell (o:=j * 4+3) (gL hgE) hng).trans d3;have gfr:=aB (hF3.heap hgE hng))
     refine hK.out _ _ (λ_=>⟨r6,q1⟩) ?_;clear hK K;try simp only[pS]
     have hHeld:=(show((λX:World=>X.cell? ⟨wc.heap.size,6,none⟩=some (.q g es.length cE)/\X.cell? ⟨wr.heap.size,1,none⟩=some (.string xv))) wt from ⟨r6,q1⟩);refine tks [(7,.p g (j * 4)),(8,.p g (j * 4+3))] (by assumption) ?_;iterate 2 (refine⟨_,rfl,by kernel_rfl,λ_ _ _ h=>h,.inl ⟨by rfl,λw hSw=>by(try dsimp only at hSw);go_simp⟩,?_⟩;try simp only[pS])
     refine tke ?_;refine aR (i:=9) (by kernel_rfl) rfl (λK hK=>?_);go_simp;refine hK.out _ _ (λe=>by cases e) ?_;clear hK K;try simp only[pS]
     refine cY (by kernel_rfl) ?_ _
     all_goals
      obtain⟨wz,hwz⟩:=nM (wt.setCell ⟨g,j * 4+3,none⟩ (.i hd));rw[hwz];have fz:Fr (Bl.one g) wt wz:=hwz▸(AF (Bl.one g) wt).setCell (p:=⟨g,j * 4+3,none⟩) (.inl rfl) _;have xpz:=fz.heap xpT (oN (by omega));have hAl:=HAL.out;have hlenE:(aT (A++⟨⟨xk,xv,xs,0⟩,xch⟩:: es.drop (j+1))).length=es.length * 4:=by rw[nW,jK,jB,BH];omega
      have hoz:=dI hoT (j * 4+3) (by omega) (.i hd);rw[hwz]at hoz;have hoz2:=dI hoz (j * 4+1) (by rw[CL];omega) (.string ⟨#[]⟩);have d1z:wz.cell? ⟨g,j * 4+1,none⟩=some (.string xv):=by rw[<-hwz,EC _ _ _ _ (by simp)];exact d1T
      obtain⟨curz,hgz⟩:=kO hoz;have zfr:=aB hgz;obtain⟨s0,s1,s2,s3,s4,s5,s6,s7⟩:=bM xpz;clear r0 r1 r2 r3 r4 r5 r6 r7 q0 q1 q2 q3 d1T d3T gfr p0 p1 p2 p3 p4 p5 p6 p7 d1 d3 c0 c1 c2 c3;go_wp2;have hput:=Vb A (es.drop (j+1)) ⟨⟨xk,xv,xs,0⟩,xch⟩ ⟨⟨xk,⟨#[]⟩,xs,(hd:Nat)⟩,ch⟩ (hd:Nat) ⟨#[]⟩ rfl;rw[hAl]at hput;rw[hput]at hoz2;have fz2:Fr (Bl.one g) wt (wz.setCell ⟨g,j * 4+1,none⟩ (.string ⟨#[]⟩)):=fz.setCell (p:=⟨g,j * 4+1,none⟩) (.inl rfl) _;have hngT:¬fpL b wv2 g:=hL2.not (hF3.heap hgE hng) (by decide) (by decide);refine⟨⟨j+1,fa2,fc2,wv2,by simp,by omega,by rw[HST2.out,jK];omega,?_,?_,fz2.heap xpT (oN (by omega)),?_,?_⟩,by simp[intOf];omega⟩
      ·rw[HST2.out]
       simp only[jK,BM];rw[<-KL,HF.out,<-BX];exact hL2.beside fz2 (λk hk=>by simp only[Bl.one]at hk;subst hk;exact hngT) (λk hk=>by simp only[Bl.one]at hk;subst hk;intro hs;have:=(h.apart k hs).1;omega)
      ·rw[HST2.out,BX]
       exact hoz2
      ·exact hF4.grow fz2 (λk hk=>.inr (by simp only[Bl.one]at hk;omega))
      ·intro k hk
       rcases hli2 k hk with h1|h1
       ·exact hli k h1
       ·have h2:wr.heap.size+1<=k:=by simpa using h1
        exact .inr (by omega)
    ·have SM:=same (by simp[En.newB];omega)
     have hs6:¬(60:Int)<xs:=hs60;clear same;go_wp2;exact⟨SM,by simp[intOf];omega⟩
   ·have SM:=same (by simp[En.newB,ho0])
    have hob:(xo==0)=false:=by simpa using ho0
    clear same;go_wp2;exact⟨SM,by simp[intOf];omega⟩
  ·obtain rfl:j=es.length:=by omega
   rw[BG]at hL ho;rw[List.drop_length,EV]at ho;obtain⟨les,hles⟩:=nM ((aV es fr).1);have hll:les.length=es.length:=by rw[<-hles];exact qU es fr
   have hE:0<(fr.drop (aV es fr).2.length).length->(eJ les).small/\(eJ les).encE=0:=λh0=>by
    rw[BH]at h0;refine⟨Tv les (by omega) (λy hy=>?_),?_⟩
    ·rw[<-hles]at hy
     obtain⟨x,hx,f',hf',hfl',rfl,_⟩:=qW (P:=λ_ _=>True) es fr (by omega) y hy;have hgx:=hg x hx;refine⟨by rw[wD];exact hgx.2.1,?_⟩;unfold oF;split
     ·exact AH _
     ·exact(qA hgx).2
    ·rw[<-hles]
     exact Oc (fs:=fs) (n:=.leaf ⟨iI es,⟨#[]⟩⟩ es) ⟨hne,rfl,hr,ht,hg⟩ fr (by simp only[kW,jK,AM];omega) hp (fr.getD (aV es fr).2.length 0,eJ (aV es fr).1) (by simp[kW])
   rw[hles]at ho;obtain⟨_,_,e1,_,hrow⟩:=bR ho;simp only[AP,CT]at e1;obtain⟨rfl,rfl⟩:=e1;have hgz:g<wr.heap.size:=by obtain⟨_,h1⟩:=kO ho;exact(gL h1)
   obtain⟨curE,hgE⟩:=kO ho;rw[BG]at hrm;have hPg:=Da b Sf fa' fc' _ wv' _ (eJ les) none none (some ⟨g,0,none⟩) 0 0 cE (λk=>k=g) wr hL ⟨.inl rfl,.inl rfl,(by
     have e:(eJ les).ents.flatMap Ent.cells=aT les:=rfl;rw[e];exact hrow.mono (λk hk=>by simp[Value.ownBlock]at hk;exact hk.symm))⟩ (λk hk=>by subst hk;exact hgz) (λe=>hL.not hgE (by decide) (by decide) (.inl e.symm)) hE (by
     rw[jK,AE];omega)
   have e1:(eJ les).ents.length=es.length:=by simp[eJ,hll]
   rw[e1]at hPg;have e2:(eJ les).keys.length=0:=rfl;have e3:(eJ les).kids.length=0:=rfl;rw[e2,e3]at hPg;have e4:(fr.drop (aV es fr).2.length).getD 0 0=fr.getD (aV es fr).2.length 0:=by simp[DJ]
   rw[e4]at hPg;obtain⟨pl,hpl⟩:=nM (fr.getD (aV es fr).2.length 0);rw[hpl]at hPg;have HQ:Hid (∀e w',gX b Sf fr wv ws w pl ((aV es fr).2++[(pl,eJ les)]) e w'->gX b Sf fr wv ws w (fr.getD (aV es fr).2.length 0) ((aV es fr).2++[(fr.getD (aV es fr).2.length 0,eJ (aV es fr).1)]) e w'):=λe w' h=>by rw[hles,hpl];exact h
   change cL _ #[_,.agg #[.i 3,.i 0,.i 0,.i 0,.n,.n,.q g es.length cE,.string ⟨#[]⟩]] wr _ at hPg;generalize eJ les=pg at hPg HQ;clear e1 e2 e3 e4 hles hll hpl;go_wp2_with (go_at_call 209;(with_reducible refine jC hPg ?_);rintro e wp ⟨hF2,hQ⟩;rcases hQ.symm with⟨hl2,rfl⟩|⟨hl2,rfl,hX⟩;exact⟨rfl,HQ.out _ _ (gX.seq hF hli hrm ⟨hF2,.inr ⟨hl2,rfl⟩⟩)⟩);go_ret;exact HQ.out _ _ (gX.seq hF hli hrm ⟨hF2,.inl ⟨hl2,rfl,hX⟩⟩)
theorem Tl(b f fs s es)(d:Ok0 fs (.leaf s es))(m S n o fr l e w)(h:fD w b f n o fr l e)(J:fZ w S (nd0 (.leaf s es)) m)(r:∀b,S b->b<w.heap.size)(I:es.length<=1000)(K:∀p∈fr,bH (p:Nat)=true)(L:e.length+fr.length<=10000):
  cL 174 #[.p b 0,.agg #[.string m.lo,.string m.hi,.i m.place,.slice m.ea m.en m.ec,.slice m.ka m.kn m.kc]] w (gX b f fr l e w (fr.getD (aV es fr).2.length 0) ((aV es fr).2++[(fr.getD (aV es fr).2.length 0,eJ (aV es fr).1)])):=by
 have⟨y,u,O,g,z,i,v,N,x⟩:=m;have⟨_,_,_,_,_,a4,R,V,A,B,C,W,X,D,Y,T,U⟩:=J;obtain rfl:O=0:=A;obtain rfl:z=es.length:=B;obtain rfl:N=0:=C;obtain⟨a,t,c,P,-⟩:=al1 w (.cells #[.string y,.string u,.i 0,.slice g es.length i,.slice v 0 x] 242);have⟨Z,a0,a1,a2,a3⟩:=cU P;have j:=qEl b f fs es g i S n o fr l e a (h.fr c) (D.on (vV c r)) (λM H=>jY (r M H) c.size) d.1 d.2.2.1 d.2.2.2.2 d.2.2.2.1 I K L;generalize (aV es fr).2++[(fr.getD (aV es fr).2.length 0,eJ (aV es fr).1)]=lp at j⊢;generalize fr.getD (aV es fr).2.length 0=pp at j⊢;go_enter Tryz.func174,Tryz.ntmps174;go_wp2_with (go_at_call 194;(with_reducible apply jC j);intro Q a5 ⟨q,F⟩;rcases F.symm with⟨k,rfl⟩|⟨k,rfl,G⟩;exact⟨rfl,gX.ahead (AA c) ⟨q,.inr ⟨k,rfl⟩⟩⟩);go_ret;exact gX.ahead (AA c) ⟨q,.inl ⟨k,rfl,G⟩⟩
def eW(ns:List NT)(j:Nat):List ByteArray:=(ns.take j).tail.map (λn=>n.sp.lo)
theorem Ts(ns j)(b:j<ns.length)(c:0<j):eW ns (j+1)=eW ns j++[(ns[j]).sp.lo]:=by
 unfold eW;rw[AK b,List.tail_append_of_ne_nil (by intro a;have:=BZ List.length a;grind),BM];rfl
theorem qAa(ns):eW ns 1=[]:=by
 unfold eW;cases ns<;>rfl
theorem qAb(ns j)(a:j<=ns.length):(eW ns j).length=j-1:=by
 unfold eW;grind
theorem fD.notOwn {f i r}(h:fD w b d f i fr c r)(p:w.ownsRow 0 e z v n xs)(j:e≠238)(l:e≠226):∀k,v.ownBlock=some k->¬fpL b c k:=by
 intro k a;have⟨_,m⟩:=p;rcases m with⟨rfl,_⟩|⟨g,s,t,rfl,_,o,_⟩
 ·simp[Value.ownBlock]at a
 ·simp[Value.ownBlock]at a
  subst a;exact h.not o j l
theorem eF {Y}(b:w.ownsRow 0 e z v n xs)(f:Fr Y w w')(h:∀k,v.ownBlock=some k->¬Y k):w'.ownsRow 0 e z v n xs :=
 aS b (f.on (Z:=λk=>v.ownBlock=some k) (λk a=>⟨aM b a,h k a⟩)) (λk a=>a)
theorem Xn:(Tryz.prog.info? 3).map (λi=>(i.zero,i.size,i.bytes))=some (some (.i 0),1,8):=by kernel_rfl
theorem aY.box {c}(h:aY w c u):∃b,w.heap[c]?=some (.cells b 4 (0,0)):=by
 have⟨_,d⟩:=h;rcases d with⟨a,_⟩|⟨g,f,b,a,i,e,_⟩
 ·simp at a
 ·simp only[AP,AX,CA,DA,CT]at a
  obtain⟨rfl,rfl⟩:=a;exact⟨b,e⟩
def mH(u:List Bool)(p:Nat):List Nat:=(List.range' 2 (p-2)).filter (λp=>!(u.getD p true))
theorem Us (b:2<=p):mH u (p+1)=mH u p++(if u.getD p true then [] else [p]):=by
 unfold mH;rw[show p+1-2=(p-2)+1 by omega,List.range'_1_concat,GE,show 2+(p-2)=p by omega];congr 1;cases h:u.getD p true
 ·have a:=h
  rw[DJ]at a;simp[h,a]
 ·have a:=h
  rw[DJ]at a;simp[h,a]
theorem qAq (a:n<=p)(b:p<=n\/p=2):mH u p=dK n u:=by
 unfold mH dK;rw[show p-2=n-2 by omega]
theorem qAp:(mH u p).length<=p:=by
 unfold mH;apply vJ (KD _ _);rw[List.length_range'];omega
theorem qFb(D st o ao ot w)(h:aO w st D)(hn:D.ts.length<=1000000)(hl:(D.fs.life==0)=false)(ho:bJ D.fs (rootOf o) o)(hr:D.root=rootOf o)(hao:bJ D.fs (rootOf ao) ao)(har:D.aroot=rootOf ao)(hts:∀t∈D.ts,bJ D.fs (rootOf (ot t)) (ot t)/\t.root=rootOf (ot t)):
  cL 158 #[.p D.d 0] w λe w'=>∃v,e=.returned v/\w'.ownsRow 0 3 1 v (dK D.fs.safe.length (cQ ([o,ao]++D.ts.map ot))).length ((dK D.fs.safe.length (cQ ([o,ao]++D.ts.map ot))).map (λn:Nat=>Value.i n))/\bW w w':=by
 have⟨w1,hmk,hU1,hb1⟩:=Ig w;have hmk':(Instr.makeSlice 139 (.i 4096) (.i 4096)).run Tryz.prog w=.ok (.q w.heap.size 4096 4096) w1:=hmk;have hsm:D.fs.safe.length<=4096:=h.file.small;have HK:Hid (∀X,bW w X->X.c D.d 2=some (.p D.β 0)/\X.c D.d 5=some (.i D.root)/\X.c D.d 11=some (.i D.aroot)/\X.c D.d 14=some D.ov/\aO X st D):=by
  intro X hX;have h1:=h.on (vV hX h.lies);have⟨c0,c1,c2,c3,c4,c5,c6,c7,c8,c9,c10,c11,c12,c13,c14⟩:=fC h1.box;exact⟨c2,c5,c11,c14,h1⟩
 have HM:Hid (∀X os oo,bW w X->(∀y∈os,bJ D.fs (rootOf y) y)->bJ D.fs (rootOf oo) oo->aY X w.heap.size (cQ os)->∀root ca cn cc,root=rootOf oo->cL 84 #[.agg #[.p D.β 0,.i ((root:Nat):Int),.slice ca cn cc],.q w.heap.size 4096 4096] X λe w'=>(∃v,e=.returned v)/\aY w' w.heap.size (cQ (os++[oo]))/\bW w w'):=by
  intro X os oo hX hos hoo hU root ca cn cc hroot;subst hroot;rw[Cc];exact(Ga D.β D.sv D.lv D.fs hl _ ca cn cc w.heap.size oo (cQ os) X hoo (Sg hsm os hos oo hoo) (tC os) (h.file.on (vV hX h.file.lies)) hU).mono λe w' ⟨he,hu',hf'⟩=>⟨he,hu',hX.trans (hf'.below hX.size (oK (by omega)))⟩
 have hT1:Hid (∀X (root:Nat),bW w X->cL 36 #[.p D.d 0,.i (root:Int)] X λe w'=>e=.returned (.agg #[.p D.β 0,.i (root:Int),.n])/\bW w w'/\∀os,aY X w.heap.size os->aY w' w.heap.size os):=λX root hX=>(nF D.d D.β root X (HK X hX).1).mono λe w' ⟨he,hb⟩=>⟨he,hX.trans (hb.mono hX.size),λos hu=>hu.on (Y:=Bl.one w.heap.size) (vV hb (λk hk=>by simp only[Bl.one]at hk;have:=hu.lt;omega)) rfl⟩;have⟨c2,c5,c11,c14,_⟩:=HK w1 hb1;have hA:=hT1 w1 D.root hb1;have HTS:Hid _:=hts;have HO:Hid _:=ho;have HAO:Hid _:=hao;have HR:Hid _:=hr;have HAR:Hid _:=har;have HU1:Hid (aY w1 w.heap.size (cQ [])):=hU1;have⟨oa,oc,hov,hoc,hrow⟩:=bR h.row;have HOV:Hid _:=hov;clear hts ho hao hr har hmk hov;go_enter Tryz.func158,Tryz.ntmps158;go_wp2_with (first
  |(go_at_call 36;(with_reducible apply jC hA);rintro e w2 ⟨rfl,hb2,hk2⟩;have hM:=HM w2 [] o hb2 (by simp) HO (hk2 _ HU1) D.root none 0 0 HR)
  |(go_at_call 84;(with_reducible apply jC hM);rintro e w3 ⟨⟨v3,rfl⟩,hU3,hb3⟩;have⟨d2,d5,d11,d14,_⟩:=HK w3 hb3;have hB:=hT1 w3 D.aroot hb3)
  |(go_at_call 36;(with_reducible apply jC hB);rintro e w4 ⟨rfl,hb4,hk4⟩;have hN:=HM w4 [o] ao hb4 (by intro y hy;rw[AS]at hy;subst hy;exact HO) HAO (hk4 _ hU3) D.aroot none 0 0 HAR)
  |(go_at_call 84;(with_reducible apply jC hN);rintro e w5 ⟨⟨v5,rfl⟩,hU5,hb5⟩;have⟨e2,e5,e11,e14,_⟩:=HK w5 hb5;rw[HOV.out]at e14))
 have HRow:Hid (aD w (λk=>D.ov.ownBlock=some k) oa (lG D.ts)):=hrow;have HS:Hid (∀k,D.ov.ownBlock=some k->k<w.heap.size):=λk hk=>aM h.row hk;have HU5:Hid (aY w5 w.heap.size (cQ ([o,ao]++(D.ts.take 0).map ot))):=hU5;clear hA hM hB hN hmk' hU3 hU5 hrow h hU1 hk2 hk4 c2 c5 c11 c14 d2 d5 d11 d14 hT1 HU1;go_loopw [31] (λa wr=>∃j:Nat,a=.i j/\j<=D.ts.length/\bW w wr/\Hid (aY wr w.heap.size (cQ ([o,ao]++(D.ts.take j).map ot)))) (λa _=>D.ts.length-(intOf a).toNat)
 case atStart=>exact⟨0,rfl,AH _,hb5,HU5⟩
 case round =>
  obtain⟨j,rfl,hj,hb,HI⟩:=hrel;by_cases hlt:j<D.ts.length
  ·have hlti:(j:Int)<(D.ts.length:Int):=by omega
   have⟨t,ht⟩:=nM (D.ts[j]);have htm:t∈D.ts:=ht▸AB hlt;rcases HRow.on (vV hb HS) with h0|⟨g,off,rfl,hg,hcell⟩
   ·have:=BZ List.length h0
    simp[lG]at this;rw[this]at hlt;simp at hlt
   have k0:wr.c g (off+j)=some (.p t.b 0):=hcell j _ (by simp[lG,hlt,ht]);have hbx:=((HK wr hb).2.2.2.2.each t htm).box;have q2:wr.c t.b 2=some (.p D.β 0):=by simp[World.cell?,hbx]
   have q3:wr.c t.b 3=some (.i t.root):=by simp[World.cell?,hbx]
   have q4:wr.c t.b 4=some (.slice t.ca t.cs.length t.cc):=by simp[World.cell?,hbx]
   have hM:=HM wr ([o,ao]++(D.ts.take j).map ot) (ot t) hb (by
    intro y hy;simp only[jF,jE,AR,AY]at hy;rcases hy with rfl|rfl|⟨x,hx,rfl⟩
    ·exact HO
    ·exact HAO
    ·exact(HTS x (CZ hx)).1) (HTS t htm).1 HI t.root t.ca t.cs.length t.cc (HTS t htm).2
   have HE:Hid ([o,ao]++(D.ts.take j).map ot++[ot t]=[o,ao]++(D.ts.take (j+1)).map ot):=by
    show _=_
    rw[AK hlt,ht,BM,BX];rfl
   rw[HE.out]at hM;clear hcell ht hbx e2 e5 e11 e14;go_wp2_with (go_at_call 84;(with_reducible apply jC hM);rintro e w6 ⟨⟨v6,rfl⟩,hU6,hb6⟩);exact⟨⟨j+1,by simp,by omega,hb6,hU6⟩,by simp[intOf];omega⟩
  ·obtain rfl:j=D.ts.length:=by omega
   have hlti:¬(D.ts.length:Int)<(D.ts.length:Int):=by omega
   rw[BG]at HI;have⟨U,hUd⟩:=nM (cQ ([o,ao]++D.ts.map ot));have hUl:U.length=4096:=by rw[<-hUd];exact tC _
   rw[hUd]at HI;have HUD:Hid (cQ ([o,ao]++D.ts.map ot)=U):=hUd;clear hUd;clear e2 e5 e11 e14 hlti;go_wp2;go_loopw [6,7] (λa b wq=>∃p:Nat,b=.i p/\2<=p/\(p<=D.fs.safe.length\/p=2)/\bW w wq/\Hid (aY wq w.heap.size U)/\Hid (wq.ownsRow 0 3 1 a (mH U p).length ((mH U p).map (λn:Nat=>Value.i n))/\∀k,a.ownBlock=some k->w.heap.size<=k)) (λ_ b _=>D.fs.safe.length-(intOf b).toNat)
   case atStart=>exact⟨2,rfl,jU _,.inr rfl,hb,HI,AL _ _ _ _,λk hk=>by simp[Value.ownBlock]at hk⟩
   case round =>
    obtain⟨p,rfl,hp2,hpn,hbq,HUq,HOq⟩:=hrel;have⟨hown,hlies⟩:=HOq.out;have⟨c2,c5,c11,c14,hDq⟩:=HK wr hbq;have hPg:=mS D.β D.sv D.lv D.fs wr hDq.file;obtain⟨aa,ac,rfl⟩:=aF hown;by_cases hlt2:p<D.fs.safe.length
    ·have hl2:(p:Int)<(D.fs.safe.length:Int):=by omega
     have hp4:p<4096:=by omega
     have hp4i:(p:Int)<4096:=by omega
     have ucell:=HUq.cell hp4 hUl;have hgd:U.getD p true=U[p]'(by omega):=by rw[DJ,jQ (by omega)];rfl
     have HST:Hid _:=Us (u:=U) hp2;have hlenq:(mH U p).length<=4096:=vJ qAp (by omega);cases hb':(U[p]'(by omega):Bool)
     ·rw[hb']at ucell hgd
      have HG:Hid _:=hgd;clear hgd;have⟨L,hL⟩:=nM (mH U p);rw[hL]at hown hlenq HOq HST hlies;rw[hL];have HS1:Hid (mH U (p+1)=L++[p]):=by
       show _=_
       rw[HST.out,HG.out];rfl
      clear HST hL c5 c11 c14 hlt hDq;go_wp2_with (first
       |(go_at_call 31;(with_reducible apply jC hPg);rintro e w7 ⟨rfl,hw7⟩;subst w7)
       |(at_builtin;apply fK wr rfl (.tmp 56) (.tmp 58) 44 3 _ 1 8 rfl Tryz.underlying44 Xn rfl (by decide) (.slice aa L.length ac) L.length (L.map (λn:Nat=>Value.i n)) rfl hown [.i (p:Int)] rfl rfl (by simp[Value.oneCell']) (by omega) (by omega);intro v3 w3 A3;obtain⟨g3,k3,rfl⟩:=A3.shape (by decide)))
      have⟨cur,hcur⟩:=HUq.box;refine⟨⟨p+1,by simp,by omega,.inl (by omega),hbq.trans (A3.fr.below hbq.size (λk hk=>hlies k hk)),HUq.on (Y:=Bl.one w.heap.size) (A3.fr.on (λk hk=>⟨by simp only[Bl.one]at hk;have:=HUq.lt;omega,by simp only[Bl.one]at hk;subst hk;exact (aQ hown hcur (by decide))⟩)) rfl,?_,λk hk=>?_⟩,by simp[intOf];omega⟩
      ·rw[HS1.out,jK,AM,BM]
       exact A3.row
      ·rcases A3.lies k hk with h'|h'
       ·exact hlies k h'
       ·exact vJ hbq.size h'
     ·rw[hb']at ucell hgd
      have HG:Hid _:=hgd;have HS1:Hid (mH U (p+1)=mH U p):=by
       show _=_
       rw[HST.out,HG.out];simp
      clear HST HG hgd c5 c11 c14 hlt hDq;go_wp2_with (go_at_call 31;(with_reducible apply jC hPg);rintro e w7 ⟨rfl,hw7⟩;subst w7);refine⟨⟨p+1,by simp,by omega,.inl (by omega),hbq,HUq,?_,hlies⟩,by simp[intOf];omega⟩;rw[HS1.out];exact hown
    ·have hl2:¬(p:Int)<(D.fs.safe.length:Int):=by omega
     have HFE:Hid (mH U p=dK D.fs.safe.length U):=qAq (by omega) hpn;clear c5 c11 c14 hlt hDq;go_wp2_with (go_at_call 31;(with_reducible apply jC hPg);rintro e w7 ⟨rfl,hw7⟩;subst w7);go_ret;refine⟨.slice aa (mH U p).length ac,rfl,?_,hbq⟩;rw[show cQ (o :: ao :: D.ts.map ot)=U from HUD.out,<-HFE.out];exact hown
def Fs.well(fs:Fs):Prop:=fs.wait = -1/\fs.life = -1
variable {fs:Fs}
theorem Fs.well_ok (h:fs.well):fs.chOk=true/\fs.ch=fs:=by
 have⟨a,b⟩:=h;have c:fs.chOk=true:=by unfold Fs.chOk;rw[a,b];rfl
 refine⟨c,?_⟩;unfold Fs.ch;rw[AW c,a,b];cases fs
 grind
theorem Fs.well_alive (h:fs.well):(fs.life==0)=false:=by rw[h.2];rfl
def GQ:=@Fs.well_alive
theorem Fs.well_put (h:fs.well)(p d):(fs.put p d).well:=h
theorem Fs.well_synced (h:fs.well):fs.synced.well:=h
theorem Fs.well_puts (h:fs.well)(l):(fs.puts l).well:=h
theorem Bv(β sv lv fs p data w)(h:aH w β sv lv fs)(a:fs.well)(c:data.size=256)(d:p<fs.safe.length)(f:fs.late.length<1000000):
  cL 116 #[.p β 0,.i p,.string data] w λe w'=>e=.returned (.bool true) /\
   ∃b,aH w' β sv b (fs.put p data)/\Fr (fpF β sv lv) w w'/\aJ w (fpF β sv lv) (fpF β sv b):=by
 have:=Yd β sv lv fs p data w h (by rw[a.1];decide) (by rw[a.1];decide) (by rw[a.2];decide) (by rw[a.2];decide) c d f;rw[(Fs.well_ok a).1,(Fs.well_ok a).2]at this;exact this
theorem Hg(β sv lv fs w)(h:aH w β sv lv fs)(a:fs.well)(c:fs.fits):
  cL 82 #[.p β 0] w λe w'=>e=.returned (.bool true) /\
   ∃b,aH w' β sv b fs.synced/\Fr (fpF β sv lv) w w'/\aJ w (fpF β sv lv) (fpF β sv b):=by
 have:=qCc β sv lv fs w h (by rw[a.1];decide) (by rw[a.1];decide) (by rw[a.2];decide) (by rw[a.2];decide) c;rw[(Fs.well_ok a).1,(Fs.well_ok a).2]at this;exact this
theorem Zj {B z n k}(h:w.ownsRow B e z v n xs)(a:v.ownBlock=some k):∃b,w.heap[k]?=some (.cells b e):=by
 have⟨_,d⟩:=h;rcases d with⟨c,_⟩|⟨i,g,b,c,_,f,_⟩
 ·rw[c]at a;simp[Value.ownBlock]at a
 ·rw[c]at a
  simp only[Value.ownBlock,AX]at a;grind
theorem aO.txFile {e D}(h:aO w e D){t}(b:eN w D.β t):∀k,fpT t k->¬fpF D.β D.sv D.lv k:=by
 rintro k (rfl|a|a)
 ·exact iJ h.file b.box (by decide) (by decide) (by decide)
 ·have⟨g,d⟩:=Zj b.row a
  exact iJ h.file d (by decide) (by decide) (by decide)
 ·have⟨i,f,c⟩:=b.tk.block a
  exact qAw h.file c
theorem aO.refile {i D g e}(h:aO w i D)(j:aH w' D.β D.sv g e)(f:Fr (fpF D.β D.sv D.lv) w w'):aO w' i {D with lv:=g,fs:=e}:=
 ⟨f.heap h.box h.noFile,j,eF h.row f (λb a k=>h.fileRow b k a),λd c=>(h.each d c).on (f.on (λb a=>⟨(h.each d c).lies b a,h.txFile (h.each d c) b a⟩)),h.apart⟩
theorem aD.wr {S a}{l:List (Nat×ByteArray)}{j}(h:aD w S a (l.flatMap dD))(k:j<l.length):∃b c,a=some ⟨b,c,none⟩/\S b/\w.c b (c+j * 2)=some (.i (l[j]).1)/\w.c b (c+j * 2+1)=some (.string (l[j]).2):=by
 have⟨d,f⟩:=xC k;rcases h with h|⟨b,c,g,i,e⟩
 ·rw[h]at d;simp at d
 ·exact⟨b,c,g,i,e _ _ d,e _ _ f⟩
theorem To(v r):(dR v r).small:=by
 exact⟨by simp[dR],by simp[dR],by simp[dR],by simp[dR],by simp[dR,eM,aK],by simp[dR,mG,aK],AH _⟩
def qHz(l:List (Nat×Pg)):List (Nat×ByteArray):=l.map λy=>(y.1,y.2.encS)
theorem qIt(D ab l)(m:MV)(aa:Nat)(M Z S w)(h:aO w ab D)(bn:D.fs.well)(bi:D.fs.late=[])(bb:aD w S M ((qHz l).flatMap dD))(bc:∀k,S k->k<w.heap.size/\¬fpF D.β D.sv D.lv k)(dt:l.length<=Z)(du:l.length<=4096)(b8:∀s∈l,s.2.encE=0)(bl:∀s∈l,s.1<D.fs.safe.length)(bk:(dR m.ver m.root).encE=0)(d3:(dR m.ver m.root).small)(v:2<=D.fs.safe.length):
  cL 130 #[.p D.d 0,.agg #[.i (aa:Int),.slice M l.length Z],.agg #[.i 1,.i m.ver,.i m.root,.i 0,.slice m.ka 0 m.kc,.slice m.ia 0 m.ic,.slice m.ea 0 m.ec,.string ⟨#[]⟩]] w λe w'=>e=.returned (.bool true)/\∃f,aO w' ab {D with lv:=f,fs:=D.fs.made l (m.ver % 2) (dR m.ver m.root)}/\Fr (fpF D.β D.sv D.lv) w w'/\aJ w (fpF D.β D.sv D.lv) (fpF D.β D.sv f):=by
 obtain⟨u,a2⟩:=nM ((w.alloc (.cells #[.i (aa:Int),.slice M l.length Z] 193)).alloc (.cells #[.i 1,.i m.ver,.i m.root,.i 0,.slice m.ka 0 m.kc,.slice m.ia 0 m.ic,.slice m.ea 0 m.ec,.string ⟨#[]⟩] 80));have aq:bW w u:=a2▸(bA _ _).alloc (by simp) _;have an:u.heap[w.heap.size]?=some (.cells #[.i (aa:Int),.slice M l.length Z] 193):=a2▸aI _ (aA w _);have ad:u.heap[w.heap.size+1]?=some (.cells #[.i 1,.i m.ver,.i m.root,.i 0,.slice m.ka 0 m.kc,.slice m.ia 0 m.ic,.slice m.ea 0 m.ec,.string ⟨#[]⟩] 80):=by
  rw[<-a2];have:=aA (w.alloc (.cells #[.i (aa:Int),.slice M l.length Z] 193)) (.cells #[.i 1,.i m.ver,.i m.root,.i 0,.slice m.ka 0 m.kc,.slice m.ia 0 m.ic,.slice m.ea 0 m.ec,.string ⟨#[]⟩] 80);simpa using this
 have da:=(gL ad);obtain⟨dl,dm⟩:=bS an;obtain⟨dd,de,df,dg,dh,di,dj,dk⟩:=bM ad;have af:=Af (dR m.ver m.root) m.ka m.ia m.ea m.kc m.ic m.ec (λ_=>False) u ⟨.inl rfl,.inl rfl,.inl rfl⟩ (λ_ cs=>cs.elim) d3 bk;simp only[dR,jN,Int.ofNat_zero]at af;obtain⟨y,ah⟩:=nM ((dR m.ver m.root).encS);have az:Hid ((dR m.ver m.root).encS=y):=ah;have b9:cL 117 #[.agg #[.i 1,.i m.ver,.i m.root,.i 0,.slice m.ka 0 m.kc,.slice m.ia 0 m.ic,.slice m.ea 0 m.ec,.string ⟨#[]⟩]] u λe w'=>e=.returned (.string y)/\bW u w':=by
  rw[<-ah];exact af
 clear af ah;go_enter Tryz.func130,Tryz.ntmps130;go_wp2_with (go_at_call 117;(with_reducible refine jC b9 ?_);rintro e al ⟨rfl,ag⟩;have ar:=aq.trans (ag.mono aq.size);have bs:=(ag.block _ (by omega)).trans an;obtain⟨dn,dp⟩:=bS bs);have bt:=(ag.block _ da).trans ad;have bx:Hid (∀X,Fr (fpF D.β D.sv D.lv) w X->X.heap[D.d]?=some (dbO ab D)/\aD X S M ((qHz l).flatMap dD)):=λX r=>⟨r.heap h.box h.noFile,bb.on (r.on bc)⟩;have c5:Hid (aH al D.β D.sv D.lv (D.fs.puts (l.take 0))/\Fr (fpF D.β D.sv D.lv) w al/\aJ w (fpF D.β D.sv D.lv) (fpF D.β D.sv D.lv)/\al.heap[w.heap.size+1]?=some (.cells #[.i 1,.i m.ver,.i m.root,.i 0,.slice m.ka 0 m.kc,.slice m.ia 0 m.ic,.slice m.ea 0 m.ec,.string ⟨#[]⟩] 80)):=by
  refine⟨?_,AA ar,CQ _ _,bt⟩;rw[LV,Mw];exact h.file.on (vV ar h.file.lies)
 have c2:Hid (aO w ab D):=h;have a1:Hid _:=bn;have bz:Hid _:=b8;have b0:Hid _:=bl;have ay:Hid _:=bi;clear h bb bc b8 bl bn bi a2 an ad dl dm dd de df dg dh di dj dk b9 bs bt dn dp;go_loopw [15] (λa am=>∃(g:Nat) (B:Value),a=.i g/\g<=l.length/\Hid (aH am D.β D.sv B (D.fs.puts (l.take g))/\Fr (fpF D.β D.sv D.lv) w am/\aJ w (fpF D.β D.sv D.lv) (fpF D.β D.sv B)/\am.heap[w.heap.size+1]?=some (.cells #[.i 1,.i m.ver,.i m.root,.i 0,.slice m.ka 0 m.kc,.slice m.ia 0 m.ic,.slice m.ea 0 m.ec,.string ⟨#[]⟩] 80))) (λa _=>l.length-(intOf a).toNat)
 case atStart=>exact⟨0,D.lv,rfl,AH _,c5.out⟩
 case round =>
  obtain⟨g,B,rfl,ds,c0⟩:=hrel;obtain⟨R,T,U,a4⟩:=c0.out;obtain⟨V,ai⟩:=bx.out wr T;by_cases hlt:g<l.length
  ·have d0:(g:Int)<(l.length:Int):=by omega
   obtain⟨s,G⟩:=nM (l[g]);have bo:s∈l:=G▸AB hlt;obtain⟨dw,dx,d9,dv,bp,ak⟩:=ai.wr (j:=g) (by simp[qHz];exact hlt);simp only[qHz,EB,G]at bp ak;subst d9;obtain⟨N,bu⟩:=s;simp only at bp ak;obtain⟨d,a5⟩:=nM (bu.encS);rw[a5]at ak;have ct:d.size=256:=a5▸sV bu (bz.out _ bo);have bm:(D.fs.puts (l.take g)).put N d=D.fs.puts (l.take (g+1)):=by
    rw[AK hlt,G,Hq,a5]
   have d7:(D.fs.puts (l.take g)).late.length<1000000:=by
    simp only[Fs.puts,ay.out,jE,AE,AZ];omega
   have cb:Hid (∀X,bW wr X->cL 116 #[.p D.β 0,.i (N:Int),.string d] X λe w'=>e=.returned (.bool true)/\∃f,aH w' D.β D.sv f (D.fs.puts (l.take (g+1)))/\Fr (fpF D.β D.sv B) X w'/\aJ X (fpF D.β D.sv B) (fpF D.β D.sv f)/\(∀(k:Nat) (p:Array Value) (c:TypeId),X.heap[k]?=some (Obj.cells p c)->c≠63->c≠9->c≠104->w'.heap[k]?=some (Obj.cells p c))):=by
    intro X r;have ba:=R.on (vV r R.lies);refine(Bv D.β D.sv B (D.fs.puts (l.take g)) N d X ba (Fs.well_puts a1.out _) ct (b0.out _ bo) d7).mono ?_;rintro e w' ⟨W,f,E,v,Q⟩;rw[bm]at E;exact⟨W,f,E,v,Q,λk p c A j n o=>v.heap A (iJ ba A j n o)⟩
   obtain⟨cf,cg,cl,cm,cn,co,cp,cq,c8,c9,c10,ch,ci,cj,ck⟩:=fC V;obtain⟨z,bd⟩:=nM (wr.alloc (.cells #[.i (N:Int),.string d] 226));have C:bW wr z:=bd▸(bA _ _);have bv:z.heap[wr.heap.size]?=some (.cells #[.i (N:Int),.string d] 226):=bd▸aA wr _;have b4:=(C.block _ (gL V)).trans V;have cd:=(C.block _ (gL a4)).trans a4;obtain⟨ao,ap⟩:=bS bv;have t:z.c D.d 2=some (.p D.β 0):=by simp[World.cell?,b4]
   clear cf cg cl cm cn co cp cq c8 c9 c10 ch ci cj ck bm a5 G ai;go_wp2;go_region_held3 (λX=>X.c D.d 2=some (.p D.β 0)/\X.c wr.heap.size 0=some (.i (N:Int))/\X.c wr.heap.size 1=some (.string d))
    ((first|(with_reducible exact⟨t,ao,ap⟩)|(simp[t,ao,ap])))
    (first
     |(go_at_call 116;(with_reducible refine jC (cb.out _ ?_) ?_);(first|exact C.drew|exact C);rintro e ac ⟨rfl,a9,a6,a8,a7,F⟩;have P:=F _ _ _ b4 (by decide) (by decide) (by decide);have O:=F _ _ _ cd (by decide) (by decide) (by decide);have dr:=F _ _ _ bv (by decide) (by decide) (by decide);obtain⟨ao,ap⟩:=bS dr;have t:ac.c D.d 2=some (.p D.β 0):=(by simp[World.cell?,P])))
   all_goals go_wp2
   all_goals
    have ae:Fr (fpF D.β D.sv B) wr ac:=by first|exact(AA C.drew).trans a8|exact(AA C).trans a8
    have a0:aJ w (fpF D.β D.sv D.lv) (fpF D.β D.sv a9):=by
     have dy:=T.size;have dz:=C.size;first|exact U.trans (b:=z.drew) (by show _<=z.heap.size;omega) a7|exact U.trans (b:=z) (by omega) a7
    exact⟨⟨g+1,a9,by simp,by omega,a6,T.grow ae U,a0,O⟩,by simp[intOf];omega⟩
  ·obtain rfl:g=l.length:=by omega
   have d0:¬(l.length:Int)<(l.length:Int):=by omega
   rw[BG]at R;have b1:Hid (∀X q i,aH X D.β D.sv q i->i.well->i.fits->cL 82 #[.p D.β 0] X λe w'=>e=.returned (.bool true)/\∃f,aH w' D.β D.sv f i.synced/\Fr (fpF D.β D.sv q) X w'/\aJ X (fpF D.β D.sv q) (fpF D.β D.sv f)/\(∀(k:Nat) (p:Array Value) (c:TypeId),X.heap[k]?=some (Obj.cells p c)->c≠63->c≠9->c≠104->w'.heap[k]?=some (Obj.cells p c))):=λX q i r aj cx=>(Hg D.β D.sv q i X r aj cx).mono λe w' ⟨W,f,E,v,Q⟩=>⟨W,f,E,v,Q,λk p c A j n o=>v.heap A (iJ r A j n o)⟩;have cc:Hid (∀X q i,aH X D.β D.sv q i->i.well->m.ver % 2<i.safe.length->i.late.length<1000000->cL 116 #[.p D.β 0,.i ((m.ver:Int) % 2),.string y] X λe w'=>e=.returned (.bool true)/\∃f,aH w' D.β D.sv f (i.put (m.ver % 2) y)/\Fr (fpF D.β D.sv q) X w'/\aJ X (fpF D.β D.sv q) (fpF D.β D.sv f)/\(∀(k:Nat) (p:Array Value) (c:TypeId),X.heap[k]?=some (Obj.cells p c)->c≠63->c≠9->c≠104->w'.heap[k]?=some (Obj.cells p c))):=by
    intro X q i r aj d4 d8;have d2:(((m.ver % 2:Nat)):Int)=(m.ver:Int) % 2:=by simp
    rw[<-d2];exact(Bv D.β D.sv q i (m.ver % 2) y X r aj (az.out▸sV _ bk) d4 d8).mono λe w' ⟨W,f,E,v,Q⟩=>⟨W,f,E,v,Q,λk p c A j n o=>v.heap A (iJ r A j n o)⟩
   have c4:Hid (∀X,cL 159 #[.agg #[.i 1,.i m.ver,.i m.root,.i 0,.slice m.ka 0 m.kc,.slice m.ia 0 m.ic,.slice m.ea 0 m.ec,.string ⟨#[]⟩]] X λe w'=>e=.returned (.i ((m.ver:Int) % 2))/\bW X w'):=by
    intro X;have:=yZ m X;rw[show(((m.ver % 2:Nat)):Int)=(m.ver:Int) % 2 by simp]at this;exact this
   have be:(D.fs.puts l).fits:=by
    intro x Y;simp only[Fs.puts,ay.out,jE,AY]at Y;obtain⟨s,G,rfl⟩:=Y;exact b0.out s G
   have bj:(D.fs.puts l).synced.safe.length=D.fs.safe.length:=dY _ _;have bf:(((D.fs.puts l).synced).put (m.ver % 2) y).fits:=by
    intro x Y;simp only[Fs.put,Fs.synced,jE,AS]at Y;subst Y;show m.ver % 2<(laid _ _).length
    rw[dY];show m.ver % 2<D.fs.safe.length
    omega
   have c6:=b1.out wr.drew B _ (R.on (vV (AC _ wr).drew R.lies)) (Fs.well_puts a1.out l) be;have c3:Hid (m.ver % 2<(D.fs.puts l).synced.safe.length):=by show _<_;rw[bj];omega
   have c1:Hid _:=bf;obtain⟨H,j,n,o,I,J,K,L⟩:=bM a4;have t:wr.c D.d 2=some (.p D.β 0):=by simp[World.cell?,V]
   clear be bf bj ai;go_wp2;go_region_held3 (λX=>X.c D.d 2=some (.p D.β 0)/\X.c (w.heap.size+1) 0=some (.i 1)/\X.c (w.heap.size+1) 1=some (.i m.ver)/\X.c (w.heap.size+1) 2=some (.i m.root)/\X.c (w.heap.size+1) 3=some (.i 0)/\X.c (w.heap.size+1) 4=some (.slice m.ka 0 m.kc)/\X.c (w.heap.size+1) 5=some (.slice m.ia 0 m.ic)/\X.c (w.heap.size+1) 6=some (.slice m.ea 0 m.ec)/\X.c (w.heap.size+1) 7=some (.string ⟨#[]⟩))
    ((first|(with_reducible exact⟨t,H,j,n,o,I,J,K,L⟩)|(simp[t,H,j,n,o,I,J,K,L])))
    (first
     |(go_at_call 82;(with_reducible refine jC c6 ?_);rintro e ac ⟨rfl,a9,a6,a8,a7,F⟩;have P:=F _ _ _ V (by decide) (by decide) (by decide);have O:=F _ _ _ a4 (by decide) (by decide) (by decide);obtain⟨H,j,n,o,I,J,K,L⟩:=bM O;have t:ac.c D.d 2=some (.p D.β 0):=(by simp[World.cell?,P]))
     |(go_at_call 159;(with_reducible refine jC (c4.out _) ?_);rintro e bq ⟨rfl,a3⟩;have b5:=(a3.block _ (gL P)).trans P;have b2:=(a3.block _ (gL O)).trans O;obtain⟨H,j,n,o,I,J,K,L⟩:=bM b2;have t:bq.c D.d 2=some (.p D.β 0):=(by simp[World.cell?,b5]);have cu:=a6.on (vV a3 a6.lies);have c7:=cc.out bq a9 _ cu (Fs.well_synced (Fs.well_puts a1.out l)) c3.out (by simp[Fs.synced]))
     |(go_at_call 116;(with_reducible refine jC c7 ?_);rintro e br ⟨rfl,db,cv,d5,cy,bg⟩;have b6:=bg _ _ _ b5 (by decide) (by decide) (by decide);have b3:=bg _ _ _ b2 (by decide) (by decide) (by decide);obtain⟨H,j,n,o,I,J,K,L⟩:=bM b3;have t:br.c D.d 2=some (.p D.β 0):=(by simp[World.cell?,b6]);have ca:=b1.out br db _ cv (Fs.well_put (Fs.well_synced (Fs.well_puts a1.out l)) _ _) c1.out)
     |(go_at_call 82;(with_reducible refine jC ca ?_);rintro e dq ⟨rfl,dc,cw,d6,cz,bh⟩;have cr:=bh _ _ _ b6 (by decide) (by decide) (by decide);have ce:=bh _ _ _ b3 (by decide) (by decide) (by decide);obtain⟨H,j,n,o,I,J,K,L⟩:=bM ce;have t:dq.c D.d 2=some (.p D.β 0):=(by simp[World.cell?,cr])))
   all_goals go_wp2
   all_goals
    have ae:=T.grow ((AF _ wr).drew.trans a8) U;have a0:=U.trans (b:=wr.drew) T.size a7;have au:=ae.trans (AA a3);have av:=au.grow d5 a0;have ax:=a0.trans au.size cy;have aw:=av.grow d6 ax;have bw:=ax.trans av.size cz;have b7:=c2.out.refile cw aw;have d1:D.fs.made l (m.ver % 2) (dR m.ver m.root)=(((D.fs.puts l).synced).put (m.ver % 2) y).synced:=by unfold Fs.made;rw[az.out]
    rw[<-d1]at b7;go_ret;exact⟨rfl,dc,b7,aw,bw⟩
def oU(P:Program)(md:Region.Mode)(ops:Array Oper)(Q:Exit->Act->World->Prop)(S:World->Prop):List (Nat×Tmp×Value)->Nat->Array Bool->Act->World->Prop
 |[],n,L,a,w=>wpAnyH P md ops Q S n L a w
 |(i,d,v):: l,n,L,a,w=>∃oi,ops[i]?=some oi/\oi.dst=some d/\(Region.noSelect ops&&Region.free md ops L i&&(Region.ready md ops L).contains i)=true/\(∀c a w,Q (.panic c) (a.put (some d) v) w->Q (.panic c) a w)/\YieldsIf P ops S oi v a/\oU P md ops Q S l n (L.setIfInBounds i true) (a.put (some d) v) w
theorem oU.take{P md ops Q S}:∀(l:List (Nat×Tmp×Value)) {n k:Nat}{L:Array Bool}{a:Act}{w:World},k=n+l.length->S w->oU P md ops Q S l n L a w->wpAnyH P md ops Q S k L a w
 |[],n,k,L,a,w,hk,hS,h=>by subst hk;exact h
 |(i,d,v):: l,n,k,L,a,w,hk,hS,⟨oi,h1,hd,h2,hQ,h3,h4⟩=>by
  subst hk;simp only[AN]at h2;rw[<-hd]at hQ h4;exact wpAnyH_take h1 h2.1.1 h2.1.2 h2.2 hQ h3 hS (oU.take l rfl hS h4)
