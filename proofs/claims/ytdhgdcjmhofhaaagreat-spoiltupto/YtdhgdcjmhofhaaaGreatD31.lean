import Derived.Test.YtdhgdcjmhofhaaaGreatD30
set_option linter.all false
set_option maxRecDepth 100000
set_option maxHeartbeats 8000000
namespace Go.Proofs.YtdhgdcjmhofhaaaGreat.Tree
open Go.RowKit Pages Tryz
variable {D:Db} {b i n p z:Nat} {c v:Value} {d:Bl} {e:TypeId} {fr:List Nat} {l:List (Nat×Pg)} {u:List Bool} {w w':World} {xs:List Value}
def enc1(y:Nat×Pg):Nat×ByteArray:=(y.1,y.2.encS)
theorem Yk(next d)(h:d.size<=240):(iX next d).small:=by
 exact⟨by simp[iX],by simp[iX],by simp[iX],by simp[iX],by simp[iX,eU,aK],by simp[iX,nI,aK],(by simp only[iX];omega)⟩
theorem Yg(w S g)(b:g.keys=[])(c:g.kids=[])(d:g.ents=[])(f e a):Jm w S g none none none f e a:=⟨.inl (by rw[b];rfl),.inl (by rw[c];rfl),.inl (by rw[d];rfl)⟩
def iT(b:Nat)(Sf:Bl)(fr:List Nat)(wv:Value)(ws:List (Nat×ByteArray))(w:World)(x:Nat)(l:List (Nat×Pg))(e:Ending)(w':World):Prop :=
 Fr (fpL b wv) w w'/\((l.length<=fr.length/\e=.returned (.int .i64 x)/\∃fa' fc' wv',fM w' b Sf fa' fc' (fr.drop l.length) wv' (ws++l.map enc1)/\∀k,wv'.ownBlock=some k->wv.ownBlock=some k\/w.1.size<=k)\/(fr.length<l.length/\e=.panicked (eS 8)))
theorem iT.seq {g:Bl}{f p:Value}{o:List (Nat×ByteArray)}{w m n:World}{q:Nat}{l j:List (Nat×Pg)}{e:Ending}(h:Fr (fpL b f) w m)(i:∀k,p.ownBlock=some k->f.ownBlock=some k\/w<=k)(A:l.length<=fr)(c:iT b g (fr.drop l) p (o++l.map enc1) m q j e n):iT b g fr f o w q (l++j) e n:=by
 have⟨v,c⟩:=c;rw[BJ]at c;refine⟨h.grow v (λk a=>?_),?_⟩
 .rcases a with a|a
  .exact .inl (.inl a)
  .exact(i k a).imp (λt=>.inr t) id
 .rw[jK];rcases c with⟨u,rfl,r,s,z,x,y⟩|⟨u,rfl⟩
  .refine .inl ⟨ω,rfl,r,s,z,by simp_all,λk a=>?_⟩
   .rcases y k a with d|d
    .exact i k d
    .exact .inr (vJ h.size d)
  grind
theorem iT.full {g:List (Nat×ByteArray)}{w a:World}{h:Nat}{l f:List (Nat×Pg)}(e:Fr (fpL b c) w a)(i:fr.length<l):iT b d fr c g w h (l++f) (.panicked (eS 8)) a:=⟨e,.inr ⟨ζ,rfl⟩⟩
theorem iT.ahead {c a i w f g j e}(d:Fr (fpL b a) w f)(h:iT b c fr a i f j l e g):iT b c fr a i w j l e g:=⟨d.t h.1,h.2.imp (λ⟨n,o,k,m,t,p,q⟩=>⟨n,o,k,m,t,p,λs r=>(q s r).imp id (λh=>vJ d.size h)⟩) id⟩
theorem qEx(b m n o q p a c d f g i j k w)(h:fM w b m n o [] q p):
  cL 209 #[.p b 0,.agg #[a,c,d,f,g,i,j,k]] w λe w'=>e=.panicked (eS 8)/\bW w w':=by
 have l:bW w (w.alloc (.cells #[a,c,d,f,g,i,j,k] 80)):=bA _ _;have⟨t,u⟩:=cM ((h.fr l).box);go_enter func209,ntmps209;go_wp2_with (go_at_call 139;apply(xX 8 _).m;rintro e w' ⟨rfl,s⟩;subst w');exact⟨rfl,rfl,l⟩
theorem Gq(b c i j fr d a g n l e o m f S w)(h:fM w b c i j fr d a)(v:Jm w S g n l e o m f)(x:lW S w)(y:¬S b)(k:0<fr.length->g.small/\g.encE=0)(B:a.length<=100000):
  cL 209 #[.p b 0,.agg #[.i g.kind,.i g.ver,.i g.root,.i g.next,.s n g.keys o,.s l g.kids m,.s e g.ents f,.t g.data]] w (iT b c fr d a w (fr.getD 0 0) [(fr.getD 0 0,g)]):=by
 cases fr with
 |nil =>
  apply(qEx b c i j d a _ _ _ _ _ _ _ _ w h).m;rintro q w' ⟨rfl,z⟩;exact⟨AB z,.inr ⟨σ,rfl⟩⟩
 |cons p fr =>
  have⟨k,s⟩:=k σ;apply(qJn b c i j p fr d a g n l e o m f S w h v x y k s B).m;rintro q w' ⟨rfl,r,C,u,t,A⟩;exact⟨t,.inl ⟨σ,rfl,r,_,C,u,A⟩⟩
theorem Ks(b x):∀(k:Nat) (v:ByteArray) (F:Option Addr) (G:Nat) (fr:List Nat) (E:Value) (u:List (Nat×ByteArray)) (w:World) (h:fM w b x F G fr E u) (a8:v.size<=240 * k) (a9:v.size<=100000) (P:∀p∈fr,bF (p:Nat)=true) (Z:u.length+fr.length<=100000),
  cL 211 #[.p b 0,.t v] w (iT b x fr E u w (kH (iS k v fr)) (iS k v fr).reverse)
 |k,v,F,G,fr,E,u,w,h,a8,a9,P,Z=>by
  by_cases z:v.size=0
  .have a2:=vQ z
   subst a2;rw[kV _ _ _ z];go_enter func211,ntmps211;go_wp2;go_ret;exact⟨AE _ _,.inl ⟨AG _,rfl,F,G,E,by grind,λk a5=>.inl a5⟩⟩
  .cases k with
   |zero=>omega
   |succ k =>
    have a7:¬v=⟨#[]⟩:=λm=>z (by rw[m];rfl);rw[kW _ _ _ z];have g:=Ks b x k (v.extract (min v 240) v) F G fr E u w.drew (h.fr ((AC _ w).drew)) (by rw[iI _ _ _ (jU _)];omega) (by rw[iI _ _ _ (jU _)];omega) P Z;have⟨c,O⟩:=nM (iS k (v.extract (min v 240) v) fr);have V:c.length<=fr.length->∀R∈c,R.1∈fr:=λC=>by rw[<-O]at C⊢;exact uQ (k:=k) (v:=v.extract (min v 240) v.size) (fr:=fr) C
    rw[O]at g⊢;have I:(v.extract 0 (min v 240))=min v.size 240:=σ
    have f:Hid (∀(n:Option Addr) (o:Nat) (j:Value) (w':World),c.reverse.length<=fr.length->fM w' b x n o (fr.drop c.reverse) j (u++c.reverse.map enc1)->cL 209 #[.p b 0,.agg #[.i 4,.i 0,.i 0,.i (kH c:Nat),.n,.n,.n,.t (v.extract 0 (min v 240))]] w' (iT b x (fr.drop c.reverse) j (u++c.reverse.map enc1) w' (fr.getD c 0) [(fr.getD c 0,iX (kH c) (v.extract 0 (min v 240)))])):=by
     intro n o j w' C y;rw[EB]at C y⊢;have m:fr.getD c 0=(fr.drop c).getD 0 0:=σ;rw[m];refine Gq b x n o _ j _ (iX (kH c) (v.extract 0 (min v 240))) none none none 0 0 0 Bl.none w' y (Yg _ _ _ rfl rfl rfl 0 0 0) (λ_ h=>h.elim) (λh=>h) (λz=>⟨Yk _ _ (by rw[I];omega),Ux _ _ ?_ (by rw[I];omega) (by rw[I];omega)⟩) (by grind);cases c with
     |nil=>exact .inl rfl
     |cons R l=>exact .inr (P _ (V C R σ))
    rw[JF];have⟨J,X⟩:=nM (fr.getD c.length 0);have T:Hid (kH ((J,iX (kH c) (v.extract 0 (min v 240))):: c)=J):=rfl;rw[X]at f⊢;rw[T.o];have⟨B,U⟩:=nM (kH c);rw[U]at g f⊢;have⟨a0,W⟩:=nM (iX B (v.extract 0 (min v 240)));rw[W]at f⊢;have⟨a1,Y⟩:=nM (c.reverse);rw[Y]at g f⊢;clear O V X I T U W Y;have ad:v.toList.isEmpty=false:=Tt.2 a7;by_cases hle:v.size<=240
    .have H:min v.size 240=v.size:=ω
     rw[H]at g f;have a3:v.extract v.size v.size=ByteArray.empty:=σ
     have a4:v.extract 0 v.size=v:=extract_all (jU _);rw[a3]at g;rw[a4]at f;have a6:(v.size:Int)<=240:=ω
     go_enter func211,ntmps211;go_wp2;apply cY (S:=λ_=>True) 11 κ;have M:=trivial;apply tks [(0,.p b 0),(1,.p b 0),(2,.t v),(3,.i v.size),(4,.t ByteArray.empty),(6,.t v),(7,.i v.size),(8,.t v)] (by assumption);iterate 8 (refine tk1 rfl ?_;try simp only[pS])
     apply tke;refine aR (i:=5) κ rfl (λK d=>?_);go_simp;apply Calls.m g;intro m Q ⟨L,r⟩;have q:=(AE _ w).drew.t L;rcases r.symm with⟨e,rfl⟩|⟨e,rfl,n,o,j,y,D⟩
     .exact⟨rfl,iT.full q e⟩
     simp only[];apply d _ _ (λ_=>trivial);try simp only[pS]
     refine mR (i:=9) (v:=.agg #[.i 4,.i 0,.i 0,.i B,.n,.n,.n,.t v]) rfl κ (λ_ _ _ h=>h) (.inl ⟨by rfl,λw s=>by(try dsimp only at s);go_simp⟩) (by assumption) (λM=>?_);try simp only[pS]
     refine aR (i:=10) κ rfl (λK d=>?_);go_simp;apply Calls.m (f n o j Q e y);intro m aa ⟨A,r⟩;rcases r.symm with⟨t,rfl⟩|⟨t,rfl,N⟩
     .exact⟨rfl,iT.seq q D e ⟨A,.inr ⟨t,rfl⟩⟩⟩
     simp only[];apply d _ _ (λ_=>trivial);try simp only[pS]
     refine aR (i:=11) κ rfl (λK d=>?_);go_simp;apply d _ _ (λ_=>by trivial);clear d K;try simp only[pS]
     refine dF κ ?_ _;go_wp2;go_ret;exact iT.seq q D e ⟨A,.inl ⟨t,rfl,N⟩⟩
    .have H:min v.size 240=240:=ω;rw[H]at g f;have a6:¬(v.size:Int)<=240:=ω;have ac:(240:Int)<=(v.size:Int):=ω
     have ab:240<=v.size:=ω
     clear H;go_enter func211,ntmps211;go_wp2;apply cY (S:=λ_=>True) 11 κ;have M:=trivial;apply tks [(0,.p b 0),(1,.p b 0),(2,.t v),(3,.i 240),(4,.t (v.extract 240 v)),(6,.t v),(7,.i 240),(8,.t (v.extract 0 240))] (by assumption);iterate 8 (refine tk1 rfl ?_;try simp only[pS])
     apply tke;refine aR (i:=5) κ rfl (λK d=>?_);go_simp;apply Calls.m g;intro m Q ⟨L,r⟩;have q:=(AE _ w).drew.t L;rcases r.symm with⟨e,rfl⟩|⟨e,rfl,n,o,j,y,D⟩
     .exact⟨rfl,iT.full q e⟩
     simp only[];apply d _ _ (λ_=>trivial);try simp only[pS]
     refine mR (i:=9) (v:=.agg #[.i 4,.i 0,.i 0,.i B,.n,.n,.n,.t (v.extract 0 240)]) rfl κ (λ_ _ _ h=>h) (.inl ⟨by rfl,λw s=>by(try dsimp only at s);go_simp⟩) (by assumption) (λM=>?_);try simp only[pS]
     refine aR (i:=10) κ rfl (λK d=>?_);go_simp;apply Calls.m (f n o j Q e y);intro m aa ⟨A,r⟩;rcases r.symm with⟨t,rfl⟩|⟨t,rfl,N⟩
     .exact⟨rfl,iT.seq q D e ⟨A,.inr ⟨t,rfl⟩⟩⟩
     simp only[];apply d _ _ (λ_=>trivial);try simp only[pS]
     refine aR (i:=11) κ rfl (λK d=>?_);go_simp;apply d _ _ (λ_=>by trivial);try simp only[pS]
     refine dF κ ?_ _;go_wp2;go_ret;exact iT.seq q D e ⟨A,.inl ⟨t,rfl,N⟩⟩
theorem qEz(w:World)(a z):(w.alloc (.cells #[] a)).ownsRow 0 a z (.q w 0 0) 0 []:=by
 refine⟨σ,.inr ⟨w,0,#[],rfl,AG _,aB w _,jU _,by unfold maxLen;omega,σ,σ⟩⟩
theorem qHf(b a f es S w)(l:aH w S (some (aD b a)) (aU es))(m:lW S w)(t:es.length<=100000)(s:es≠[]):
  cL 210 #[.s (some (aD b a)) es f] w λe w'=>∃v,e=.r v/\w'.ownsRow 0 69 4 v es (aU es)/\bW w w'/\nW v w:=by
 have p:∀d c,(aU es)[d]?=some c->(w.alloc (.cells #[] 69)).cell? (((aD b a):Addr).add d)=some c:=by
  intro d c q;have⟨r,x,j,n,o⟩:=l.val q;simp only[BB,CD,DC]at j;obtain⟨rfl,rfl⟩:=j;have e:((aD b a):Addr).add d=(aD b (a+d)):=by unfold Addr.add;split<;>simp_all
  rw[e,CP (w:=w) (CY w _ b (m b n))];exact o
 have u:∀(c:World),(binOp .eql 67 (.s (some (aD b a)) es f) .n).run prog c=.ok (.bool false) c:=λc=>Go.Lib.run_eql_slice_nil (P:=prog) c 67 69 (some (aD b a)) es f 0 0 underlying67;go_enter func210,ntmps210;go_wp2_with (at_builtin;apply An (w.alloc (.cells #[] 69)) rfl (.tmp 5) (.tmp 6) 67 69 _ 4 48 rfl underlying67 Hv rfl δ (.q w 0 0) 0 [] rfl (qEz w _ 4) (aD b a) es f (aU es) rfl (by rw[pH]) p (Iq es) ω ω;intro A y g);go_ret;refine⟨_,rfl,by simpa using g.row,((AC _ w).alloc (jU _) _).t (g.fr.below σ (λk i=>by simp[Value.ownBlock]at i;omega)),λk i=>?_⟩;rcases g.lies k i with h|h
 .simp[Value.ownBlock]at h;omega
 .simp at h;omega
theorem Hp:∀(es:List En) (x:En) (fr:List Nat),aX (es++[x]) fr=((aX es fr).1++[pL x (fr.drop (aX es fr).2)],(aX es fr).2++(dZ x (fr.drop (aX es fr).2)).reverse)
 |[],x,fr=>by simp[aX]
 |y :: es,x,fr=>by
  simp only[jF,aX,Hp es x,LS,jK,EB,CA]
theorem Tf(es:List En)(fr j)(a:j<es.length):aX (es.take (j+1)) fr=((aX (es.take j) fr).1++[pL es[j] (fr.drop (aX (es.take j) fr).2)],(aX (es.take j) fr).2++(dZ es[j] (fr.drop (aX (es.take j) fr).2)).reverse):=by
 rw[AJ a,Hp]
theorem qP:∀(es:List En) (fr:List Nat) (j:Nat),(aX (es.take j) fr).2.length<=(aX es fr).2
 |[],_,_=>by simp[aX]
 |x :: es,fr,0=>by simp[aX]
 |x :: es,fr,j+1=>by
  have:=qP es (fr.drop (dZ x fr)) j;simp only[EJ,aX,jK,EB];omega
theorem qAg(a B x b o s)(f:b.e=⟨x.e.key,s,x.e.size,o⟩):((aU (a++x :: B)).set (a.length * 4+3) (.i o)).set (a.length * 4+1) (.t s)=aU (a++b :: B):=by
 have c:aU (a++x :: B)=aU a++(x.e.cells++aU B):=by simp[aU]
 have d:aU (a++b :: B)=aU a++(b.e.cells++aU B):=by simp[aU]
 rw[c,d,<-(pH a),FK _ _ ω,FK _ _ ω];congr 1;rw[show(aU a).length+3-(aU a).length=3 by omega,show(aU a).length+1-(aU a).length=1 by omega,f];rfl
theorem Yz(es)(o:es.length<=100000)(d:∀x∈es,x.fits):(eQ es).small:=by
 refine⟨by simp[eQ],by simp[eQ],by simp[eQ];omega,?_,?_,?_,AG _⟩
 .intro l e;obtain⟨x,f,rfl⟩:=AY.1 e;have:=d x f;exact⟨by have:=this.1;omega,by have:=this.2;omega⟩
 .simp[eQ,eU,aK]
 .have h:∀(a:List En),(∀x∈a,x.fits)->((a.map (·.e)).flatMap Ent.bytes).length<=500 * a:=by
   intro a;induction a with
   |nil=>simp
   |cons x a ih =>
    intro b;have m:=ih (λi g=>b i (by simp[g]));have c:=b x σ;have n:(Ent.bytes x.e).length<=500:=by
     unfold Ent.bytes mY;have:=qU x.e.key;have:=qU x.e.val;have j:=c.1;have k:=c.2;split
     .rw[jK,jK];simp;omega
     .rw[jK,jK,jK,aK,aK];simp;omega
    rw[BE,AK,jK,jB];omega
  have:=h es d;simp only[eQ,nI,jK,aK];omega
theorem fM.not {f g l}(h:fM w b d f g fr c l){k cs t}(a:w.1[k]?=some (.cells cs t))(i:t≠238)(j:t≠226):¬fpL b c k:=by
 rintro(rfl|e)
 .rw[h.box]at a;simp at a;exact i a.2.symm
 .exact aQ h.own a j e
theorem fM.beside {e g d l}(h:fM w b e g i fr d l){Y}(f:Fr Y w w')(j:∀k,Y k->¬fpL b d k)(m:∀k,Y k->¬e k):fM w' b e g i fr d l :=
 ⟨f.heap h.box (λc=>j b c (.inl rfl)),h.free.on (f.on (λk a=>⟨(h.apart k a).1,λc=>m k c a⟩)),h.some',h.cap,aS h.own (f.on (Z:=λk=>d.ownBlock=some k) (λk a=>⟨aL h.own a,λc=>j k c (.inr a)⟩)) (λk a=>a),λk a=>⟨jY (h.apart k a).1 f.size,(h.apart k a).2⟩⟩
theorem lM {z g n c}(h:w.ownsRow 0 e z (.q g n c) n xs):∃b,cW w g b e:=by
 have⟨_,d⟩:=h;rcases d with⟨a,_⟩|⟨j,i,b,a,_,f,_⟩
 .simp at a
 .simp only[AR,BB,CD,DC,CV]at a;obtain⟨rfl,_⟩:=a;exact⟨b,f⟩
theorem qKp(b Sf fs es ea ec S fa fc fr wv ws w)(h:fM w b Sf fa fc fr wv ws)(hR:aH w S ea (aU es))(hS:lW S w)(hne:es≠[])(hr:cT es)(hg:∀x∈es,x.good fs)(ht:tot esz es<=250)(hn:es.length<=1000)(hp:∀p∈fr,bF (p:Nat)=true)(hws:ws.length+fr.length<=10000):
  cL 194 #[.p b 0,.s ea es ec] w (iT b Sf fr wv ws w (fr.getD (aX es fr).2 0) ((aX es fr).2++[(fr.getD (aX es fr).2 0,eQ (aX es fr).1)])):=by
 obtain⟨b0,o0,rfl,hb0⟩:=hR.addr (Bu (BX.2 hne));have hC:=qHf b0 o0 ec es S w hR hS ω hne;go_enter func194,ntmps194;go_wp2_with (apply Calls.m hC;rintro e wc ⟨v,rfl,hown,hbc,hlies⟩;obtain⟨g,cE,rfl,hgl,hcE⟩:=yY hown (BX.2 hne));have hgw:=hlies g rfl;have hL0:=h.fr hbc;have bP:bW wc (wc.alloc (.cells #[.i 3,.i 0,.i 0,.i 0,.n,.n,.q g es cE,.e] 80)):=bA _ _;have xP:=aB wc (.cells #[.i 3,.i 0,.i 0,.i 0,.n,.n,.q g es cE,.e] 80);have hLP:=hL0.fr bP;have hoP:=CG (w:=wc) hown (.cells #[.i 3,.i 0,.i 0,.i 0,.n,.n,.q g es cE,.e] 80);obtain⟨WP,hWP⟩:=nM (wc.alloc (.cells #[.i 3,.i 0,.i 0,.i 0,.n,.n,.q g es cE,.e] 80));obtain⟨p0,p1,p2,p3,p4,p5,p6,p7⟩:=bU xP;have FP:Fr (fpL b wv) w WP:=(AB hbc).t (hWP▸AB bP);go_loopw [14] (λi wr=>∃(j:Nat) (fa':Option Addr) (fc':Nat) (wv':Value),i=.i j/\j<=es/\(aX (es.take j) fr).2.length<=fr.length/\fM wr b Sf fa' fc' (fr.drop (aX (es.take j) fr).2) wv' (ws++(aX (es.take j) fr).2.map enc1)/\wr.ownsRow 0 69 4 (.q g es cE) es (aU ((aX (es.take j) fr).1++es.drop j))/\cW wr wc #[.i 3,.i 0,.i 0,.i 0,.n,.n,.q g es cE,.e] 80/\Fr (fpL b wv) w wr/\∀k,wv'.ownBlock=some k->wv.ownBlock=some k\/w<=k) (λi _=>es-(intOf i).toNat)
 case atStart=>rw[hWP]at hLP hoP xP⊢;exact⟨0,fa,fc,wv,rfl,AG _,by simp[aX],by simpa[aX] using hLP,by simpa[aX] using hoP,xP,FP,λk hk=>.inl hk⟩
 case round =>
  obtain⟨j,fa',fc',wv',rfl,hj,hrm,hL,ho,xp,hF,hli⟩:=hrel;clear p0 p1 p2 p3 p4 p5 p6 p7;obtain⟨p0,p1,p2,p3,p4,p5,p6,p7⟩:=bU xp;have zF:=hF.size;by_cases hlt:j<es
  .obtain⟨x,hx⟩:=nM (es[j])
   have hxm:=hx▸AA hlt;obtain⟨A,hA⟩:=nM ((aX (es.take j) fr).1);have hAl:A=j:=by rw[<-hA,sP,AX];omega
   obtain⟨f,hf⟩:=nM (fr.drop (aX (es.take j) fr).2.length);have hst:=Tf es fr j hlt;rw[hx,hA,hf]at hst;have hle1:=qP es fr (j+1);rw[hst]at hle1;simp only[jK,EB]at hle1;have hfl2:f.length=fr-(aX (es.take j) fr).2:=by rw[<-hf,BJ]
   have hfp:∀p∈f,bF (p:Nat)=true:=λp hpp=>hp p (BV (hf▸hpp));have hdr:es.drop j=x :: es.drop (j+1):=by rw[BZ hlt,hx]
   rw[hA,hdr]at ho;rw[hf]at hL;have hcell:∀i (u:Value),i<4->x.e.cells[i]?=some u->wr.c g (j * 4+i)=some u:=λi u hi hu=>by
    have hidx:(aU (A++x :: es.drop (j+1)))[j * 4+i]?=some u:=by
     have e1:aU (A++x :: es.drop (j+1))=aU A++(x.e.cells++aU (es.drop (j+1))):=by simp[aU]
     have hA4:(aU A).length=j * 4:=by rw[pH,hAl]
     rw[e1,AZ ω,hA4,show j * 4+i-j * 4=i by omega,BK (by have:x.e.cells.length=4:=rfl;omega)];exact hu
    obtain⟨g',e1,_,_,e2⟩:=zD ho hidx;simp only[BB,CD,DC]at e1;rw[e1];exact e2
   have hgx:=hg x hxm;obtain⟨⟨xk,xv,xs,xo⟩,xch⟩:=x;have c0:wr.c g (j * 4)=some (.t xk):=hcell 0 _ δ rfl;have c1:=hcell 1 _ δ rfl;have c2:=hcell 2 _ δ rfl;have c3:=hcell 3 _ δ rfl;have hcE':es<=cE:=by have:=ho.2;rcases this with⟨h1,_⟩|⟨_,cap,cur,h1,_,_,h2,_⟩;simp at h1;simp at h1;omega
   have nE:=aB wr (.cells #[.t xk,.t xv,.i xs,.i xo] 69);obtain⟨q0,q1,q2,q3⟩:=kI nE;have bE:bW wr (wr.alloc (.cells #[.t xk,.t xv,.i xs,.i xo] 69)):=bA _ _;have xpE:=aP (.cells #[.t xk,.t xv,.i xs,.i xo] 69) xp;obtain⟨r0,r1,r2,r3,r4,r5,r6,r7⟩:=bU xpE;have hLE:=hL.fr bE;have hoE:=CG (w:=wr) ho (.cells #[.t xk,.t xv,.i xs,.i xo] 69);have FE:=hF.t (AB bE);have HST:Hid (aX (es.take (j+1)) fr=(A++[pL ⟨⟨xk,xv,xs,xo⟩,xch⟩ f],(aX (es.take j) fr).2++(dZ ⟨⟨xk,xv,xs,xo⟩,xch⟩ f).reverse)):=hst;have HF:Hid (fr.drop (aX (es.take j) fr).2=f):=hf;have HAL:Hid (A=j):=hAl;have same:(⟨⟨xk,xv,xs,xo⟩,xch⟩:En).newB=false->(∃(j_1:Nat) (fa':Option Addr) (fc':Nat) (wv':Value),(Value.int IntKind.i64 ((j:Int)+1))=.i j_1/\j_1<=es/\(aX (es.take j_1) fr).2.length<=fr/\fM (wr.alloc (.cells #[.t xk,.t xv,.i xs,.i xo] 69)) b Sf fa' fc' (fr.drop (aX (es.take j_1) fr).2) wv' (ws++(aX (es.take j_1) fr).2.map enc1)/\(wr.alloc (.cells #[.t xk,.t xv,.i xs,.i xo] 69)).ownsRow 0 69 4 (.q g es cE) es (aU ((aX (es.take j_1) fr).1++es.drop j_1))/\(wr.alloc (.cells #[.t xk,.t xv,.i xs,.i xo] 69)).1[wc.1.size]?=some (.cells #[.i 3,.i 0,.i 0,.i 0,.n,.n,.q g es cE,.e] 80)/\Fr (fpL b wv) w (wr.alloc (.cells #[.t xk,.t xv,.i xs,.i xo] 69))/\∀k,wv'.ownBlock=some k->wv.ownBlock=some k\/w<=k):=by
    intro hnb;have e1:dZ ⟨⟨xk,xv,xs,xo⟩,xch⟩ f=[]:=by rw[dZ,hnb];rfl
    have e2:pL ⟨⟨xk,xv,xs,xo⟩,xch⟩ f=⟨⟨xk,xv,xs,xo⟩,xch⟩:=by rw[pL,hnb];rfl
    have e3:=HST.o;rw[e1,e2,List.reverse_nil,EY]at e3;refine⟨j+1,fa',fc',wv',σ,ω,by rw[e3];exact hrm,?_,?_,xpE,FE,hli⟩
    .rw[e3,HF.o];exact hLE
    .rw[e3,CA];exact hoE
   clear hst hf hAl hcell hx hA hdr hcE;by_cases ho0:xo=0
   .subst ho0
    by_cases hs60:60<xs
    .have hnb:(⟨⟨xk,xv,xs,0⟩,xch⟩:En).newB=true:=by simp[En.newB];omega
     obtain⟨gs1,gs2,gs3,gs4⟩:=oH hgx hnb;have ech:dZ ⟨⟨xk,xv,xs,0⟩,xch⟩ f=iS 2 xv f:=by rw[dZ,hnb];rfl
     obtain⟨ch,hch⟩:=nM (iS 2 xv f);have hlenw:(ws++(aX (es.take j) fr).2.map enc1).length+f<=100000:=by
      rw[jK,AF];omega
     have hV:=Ks b Sf 2 xv fa' fc' f wv' (ws++(aX (es.take j) fr).2.map enc1) (wr.alloc (.cells #[.t xk,.t xv,.i xs,.i 0] 69)).drew (hLE.fr ((AC _ _).drew)) (by simp only at gs2;omega) (by simp only at gs2;omega) hfp hlenw;rw[hch]at hV;have elx:pL ⟨⟨xk,xv,xs,0⟩,xch⟩ f=⟨⟨xk,⟨#[]⟩,xs,(kH ch:Nat)⟩,ch⟩:=by rw[pL,hnb,AU rfl,ech,hch]
     have HST2:Hid (aX (es.take (j+1)) fr=(A++[⟨⟨xk,⟨#[]⟩,xs,(kH ch:Nat)⟩,ch⟩],(aX (es.take j) fr).2++ch.reverse)):=by
      show _=_;rw[HST.o,elx,ech,hch]
     obtain⟨hd,hhd⟩:=nM (kH ch);rw[hhd]at hV HST2;have HFU:Hid (f.length<ch.reverse->fr.length<(aX es fr).2):=λhh=>by have h1:=qP es fr (j+1);rw[HST2.o]at h1;simp only[jK]at h1;omega
     have hs6:=hs60;obtain⟨curE,hgE⟩:=lM hoE;have zE:=(jJ.1 (lM ho).choose_spec).1;have cB:∀{o:Nat}{u:Value},wr.c g o=some u->(wr.alloc (.cells #[.t xk,.t xv,.i xs,.i 0] 69)).cell? (aD g o)=some u:=λh=>by rw[CP (w:=wr) (bE.block g zE)];exact h
     have d1:=cB c1;have d3:=cB c3;have hnp:g≠wc:=ω
     have hpz:=(gL xp);clear same HST hnb ech hch elx hhd cB hs60 gs1 gs2 gs3 gs4;go_wp2;refine cY (S:=(λX=>X.c wc 6=some (.q g es cE)/\X.c wr 1=some (.t xv))) 9 κ ?_;have hHeld:=(show((λX:World=>X.c wc 6=some (.q g es cE)/\X.c wr 1=some (.t xv))) ((wr.alloc (.cells #[.t xk,.t xv,.i xs,.i 0] 69)).drew) from ⟨r6,q1⟩);refine tks [(0,.p wc 6),(1,.q g es cE),(2,.i j),(3,.p b 0),(4,.p wr 1),(5,.t xv)] ψ ?_;iterate 6 (refine tk1 rfl ?_;try simp only[pS])
     refine tke ?_;refine aR (i:=6) κ rfl (λK hK=>?_);go_simp;go_at_call 211
     apply Calls.m hV
     rintro e wt ⟨hF2,hQ⟩;have hF4:=FE.grow ((AE _ _).drew.t hF2) (λk hk=>by rcases hk with hk|hk;exact .inl (.inl hk);exact(hli k hk).imp (λh=>.inr h) id);rcases hQ.symm with⟨hl1,rfl⟩|⟨hl1,rfl,fa2,fc2,wv2,hL2,hli2⟩
     .exact⟨rfl,iT.full hF4 (HFU.o hl1)⟩
     simp only[]
     (have hF3:=(AE _ _).drew.t hF2;have xpT:=hF3.heap xpE (hLE.not xpE δ δ);have nET:=hF3.heap nE (hLE.not nE δ δ);have hng:=hLE.not hgE δ δ;have hoT:=aS hoE (hF3.on (Z:=λk=>k=g) (λk hk=>⟨by subst hk;exact(gL hgE),by subst hk;exact hng⟩)) (λk hk=>by simp[Value.ownBlock]at hk;exact hk.symm);obtain⟨r0,r1,r2,r3,r4,r5,r6,r7⟩:=bU xpT;obtain⟨q0,q1,q2,q3⟩:=kI nET;have d1T:=(hF3.cell (o:=j * 4+1) (gL hgE) hng).t d1;have d3T:=(hF3.cell (o:=j * 4+3) (gL hgE) hng).t d3;have gfr:=aF (hF3.heap hgE hng))
     refine hK.out _ _ (λ_=>⟨r6,q1⟩) ?_;clear hK K;try simp only[pS]
     have hHeld:=(show((λX:World=>X.c wc 6=some (.q g es cE)/\X.cell? (aD wr.1.size 1)=some (.t xv))) wt from ⟨r6,q1⟩);refine tks [(7,.p g (j * 4)),(8,.p g (j * 4+3))] ψ ?_;iterate 2 (refine tk1 rfl ?_;try simp only[pS])
     refine tke ?_;refine aR (i:=9) κ rfl (λK hK=>?_);go_simp;refine hK.out _ _ (λe=>by cases e) ?_;clear hK K;try simp only[pS]
     refine dF κ ?_ _
     all_goals
      obtain⟨wz,hwz⟩:=nM (wt.setCell (aD g (j * 4+3)) (.i hd));rw[hwz];have fz:=hwz▸(AE (Bl.one g) wt).s g (j * 4+3);have xpz:=fz.heap xpT φ;have hAl:=HAL.o;have hlenE:(aU (A++⟨⟨xk,xv,xs,0⟩,xch⟩:: es.drop (j+1))).length=es * 4:=by rw[pH,jK,jB,BJ];omega
      have hoz:=dT hoT (j * 4+3) ω (.i hd);rw[hwz]at hoz;have hoz2:=dT hoz (j * 4+1) (by rw[BQ];omega) .e;have d1z:wz.cell? (aD g (j * 4+1))=some (.t xv):=by rw[<-hwz,DU _ _ _ _ σ];exact d1T
      obtain⟨curz,hgz⟩:=lM hoz;have zfr:=aF hgz;obtain⟨s0,s1,s2,s3,s4,s5,s6,s7⟩:=bU xpz;clear r0 r1 r2 r3 r4 r5 r6 r7 q0 q1 q2 q3 d1T d3T gfr p0 p1 p2 p3 p4 p5 p6 p7 d1 d3 c0 c1 c2 c3;go_wp2;have hput:=qAg A (es.drop (j+1)) ⟨⟨xk,xv,xs,0⟩,xch⟩ ⟨⟨xk,⟨#[]⟩,xs,(hd:Nat)⟩,ch⟩ (hd:Nat) ⟨#[]⟩ rfl;rw[hAl]at hput;rw[hput]at hoz2;have fz2:Fr (Bl.one g) wt (wz.setCell (aD g (j * 4+1)) .e):=fz.s g (j * 4+1);have hngT:=hL2.not (hF3.heap hgE hng) δ δ;refine⟨⟨j+1,fa2,fc2,wv2,σ,ω,by rw[HST2.o,jK];omega,?_,?_,fz2.heap xpT φ,?_,?_⟩,θ⟩
      .rw[HST2.o]
       simp only[jK,BL];rw[<-LS,HF.o,<-CA];exact hL2.beside fz2 (λk hk=>by cases hk;exact hngT) (λk hk=>by simp only[Bl.one]at hk;subst hk;intro hs;have:=(h.apart k hs).1;omega)
      .rw[HST2.o,CA]
       exact hoz2
      .exact hF4.grow fz2 (λk hk=>.inr (by simp only[Bl.one]at hk;omega))
      .intro k hk
       rcases hli2 k hk with h1|h1
       .exact hli k h1
       .have h2:=by simpa using h1
        exact .inr ω
    .have SM:=same (by simp[En.newB];omega)
     have hs6:=hs60;clear same;go_wp2;exact⟨SM,θ⟩
   .have SM:=same (by simp[En.newB,ho0])
    have hob:(xo==0)=false:=by simpa using ho0
    clear same;go_wp2;exact⟨SM,θ⟩
  .obtain rfl:j=es:=ω
   rw[BN]at hL ho;rw[List.drop_length,EY]at ho;obtain⟨les,hles⟩:=nM ((aX es fr).1);have hll:les.length=es.length:=by rw[<-hles];exact sP es fr
   have hE:0<(fr.drop (aX es fr).2).length->(eQ les).small/\(eQ les).encE=0:=λh0=>by
    rw[BJ]at h0;refine⟨Yz les ω (λy hy=>?_),?_⟩
    .rw[<-hles]at hy
     obtain⟨x,hx,f',hf',hfl',rfl,_⟩:=sR (P:=λ_ _=>True) es fr ω y hy;have hgx:=hg x hx;refine⟨by rw[zM];exact hgx.2.1,?_⟩;unfold pL;split
     .exact AG _
     .exact(rP hgx).2
    .rw[<-hles]
     exact Sz (fs:=fs) (n:=.leaf ⟨jI es,⟨#[]⟩⟩ es) ⟨hne,rfl,hr,ht,hg⟩ fr (by simp only[lR,jK,AP];omega) hp (fr.getD (aX es fr).2 0,eQ (aX es fr).1) (by simp[lR])
   rw[hles]at ho;obtain⟨_,_,e1,_,hrow⟩:=cA ho;simp only[AR,CV]at e1;obtain⟨rfl,rfl⟩:=e1;have hgz:g<wr:=by obtain⟨_,h1⟩:=lM ho;exact(gL h1)
   obtain⟨curE,hgE⟩:=lM ho;rw[BN]at hrm;have hPg:=Gq b Sf fa' fc' _ wv' _ (eQ les) none none (some (aD g 0)) 0 0 cE (λk=>k=g) wr hL ⟨.inl rfl,.inl rfl,(by
     have e:(eQ les).ents.flatMap Ent.cells=aU les:=rfl;rw[e];exact hrow.m (λk hk=>by simp[Value.ownBlock]at hk;exact hk.symm))⟩ (λk hk=>by subst hk;exact hgz) (λe=>hL.not hgE δ δ (.inl e.symm)) hE (by
     rw[jK,AF];omega)
   have e1:(eQ les).ents.length=es.length:=by simp[eQ,hll]
   rw[e1]at hPg;have e2:(eQ les).keys.length=0:=rfl;have e3:(eQ les).kids.length=0:=rfl;rw[e2,e3]at hPg;have e4:(fr.drop (aX es fr).2).getD 0 0=fr.getD (aX es fr).2.length 0:=by simp[CI]
   rw[e4]at hPg;obtain⟨pl,hpl⟩:=nM (fr.getD (aX es fr).2.length 0);rw[hpl]at hPg;have HQ:Hid (∀e w',iT b Sf fr wv ws w pl ((aX es fr).2++[(pl,eQ les)]) e w'->iT b Sf fr wv ws w (fr.getD (aX es fr).2 0) ((aX es fr).2++[(fr.getD (aX es fr).2 0,eQ (aX es fr).1)]) e w'):=λe w' h=>by rw[hles,hpl];exact h
   change cL _ #[_,.agg #[.i 3,.i 0,.i 0,.i 0,.n,.n,.q g es cE,.e]] wr _ at hPg;generalize eQ les=pg at hPg HQ;clear e1 e2 e3 e4 hles hll hpl;go_wp2_with (apply Calls.m hPg;rintro e wp ⟨hF2,hQ⟩;rcases hQ.symm with⟨hl2,rfl⟩|⟨hl2,rfl,hX⟩;exact⟨rfl,HQ.o _ _ (iT.seq hF hli hrm ⟨hF2,.inr ⟨hl2,rfl⟩⟩)⟩);go_ret;exact HQ.o _ _ (iT.seq hF hli hrm ⟨hF2,.inl ⟨hl2,rfl,hX⟩⟩)
theorem Yn(b f fs s es)(d:Ok0 fs (.leaf s es))(m S n o fr l e w)(h:fM w b f n o fr l e)(J:jM w S (nd0 (.leaf s es)) m)(r:lW S w)(I:es.length<=1000)(K:∀p∈fr,bF (p:Nat)=true)(L:e.length+fr<=10000):
  cL 174 #[.p b 0,.agg #[.t m.lo,.t m.hi,.i m.place,.s m.ea m.en m.ec,.s m.ka m.kn m.kc]] w (iT b f fr l e w (fr.getD (aX es fr).2 0) ((aX es fr).2++[(fr.getD (aX es fr).2 0,eQ (aX es fr).1)])):=by
 have⟨y,u,O,g,z,i,v,N,x⟩:=m;have⟨_,_,_,_,_,a4,R,V,A,B,C,W,X,D,Y,T,U⟩:=J;obtain rfl:O=0:=A;obtain rfl:z=es:=B;obtain rfl:N=0:=C;obtain⟨a,t,c,P,-⟩:=al1 w (.cells #[.t y,.t u,.i 0,.s g es i,.s v 0 x] 242);have⟨Z,a0,a1,E,a3⟩:=cS P;have j:=qKp b f fs es g i S n o fr l e a (h.fr c) (D.on (vV c r)) (λM H=>jY (r M H) c.size) d.1 d.2.2.1 d.2.2.2.2 d.2.2.2.1 I K L;generalize (aX es fr).2++[(fr.getD (aX es fr).2 0,eQ (aX es fr).1)]=lp at j⊢;generalize fr.getD (aX es fr).2 0=pp at j⊢;go_enter func174,ntmps174;go_wp2_with (apply Calls.m j;intro Q a5 ⟨q,F⟩;rcases F.symm with⟨k,rfl⟩|⟨k,rfl,G⟩;exact⟨rfl,iT.ahead (AB c) ⟨q,.inr ⟨k,rfl⟩⟩⟩);go_ret;exact iT.ahead (AB c) ⟨q,.inl ⟨k,rfl,G⟩⟩
def fQ(ns:List NT)(j:Nat):List ByteArray:=(ns.take j).tail.map (λn=>n.sp.lo)
theorem Yw(ns j)(b:j<ns.length)(c:0<j):fQ ns (j+1)=fQ ns j++[(ns[j]).sp.lo]:=by
 unfold fQ;rw[AJ b,List.tail_append_of_ne_nil (by intro a;have:=BR List.length a;grind),BL];rfl
theorem qFw(ns):fQ ns 1=[]:=by
 unfold fQ;cases ns<;>rfl
theorem qFx(ns j)(a:j<=ns.length):(fQ ns j).length=j-1:=by
 unfold fQ;grind
theorem fM.notOwn {f r}(h:fM w b d f i fr c r)(p:w.ownsRow 0 e z v n xs)(j:e≠238)(l:e≠226):∀k,v.ownBlock=some k->¬fpL b c k:=by
 intro k a;have⟨_,m⟩:=p;rcases m with⟨rfl,_⟩|⟨g,s,t,rfl,_,o,_⟩
 .simp[Value.ownBlock]at a
 .simp[Value.ownBlock]at a;subst a;exact h.not o j l
theorem eN {Y}(b:w.ownsRow 0 e z v n xs)(f:Fr Y w w')(h:∀k,v.ownBlock=some k->¬Y k):w'.ownsRow 0 e z v n xs :=
 aS b (f.on (Z:=λk=>v.ownBlock=some k) (λk a=>⟨aL b a,h k a⟩)) (λk a=>a)
theorem qCn:(prog.info? 3).map (λi=>(i.zero,i.size,i.bytes))=some (some (.i 0),1,8):=κ
theorem aY.box {c}(h:aY w c u):∃b,w.1[c]?=some (.cells b 4 (0,0)):=by
 have⟨_,d⟩:=h;rcases d with⟨a,_⟩|⟨g,f,b,a,i,e,_⟩
 .simp at a
 .simp only[AR,BB,CD,DC,CV]at a;obtain⟨rfl,rfl⟩:=a;exact⟨b,e⟩
def nJ(u:List Bool)(p:Nat):List Nat:=(List.range' 2 (p-2)).filter (λp=>!(u.getD p true))
theorem Zv (b:2<=p):nJ u (p+1)=nJ u p++(if u.getD p true then [] else [p]):=by
 unfold nJ;rw[show p+1-2=(p-2)+1 by omega,List.range'_1_concat,HV,show 2+(p-2)=p by omega];congr 1;cases h:u.getD p true
 .have a:=h;rw[CI]at a;simp[h,a]
 .have a:=h;rw[CI]at a;simp[h,a]
theorem qGo (a:n<=p)(b:p<=n\/p=2):nJ u p=eY n u:=by
 unfold nJ eY;rw[show p-2=n-2 by omega]
theorem qGn:(nJ u p)<=p:=by
 unfold nJ;apply vJ (LK _ _);rw[List.length_range'];omega
theorem qLh(D st o ao ot w)(h:aO w st D)(hn:D.ts.length<=1000000)(hl:(D.fs.life==0)=false)(ho:bO D.fs (rootOf o) o)(hr:D.root=rootOf o)(hao:bO D.fs (rootOf ao) ao)(har:D.aroot=rootOf ao)(hts:∀t∈D.ts,bO D.fs (rootOf (ot t)) (ot t)/\t.root=rootOf (ot t)):
  cL 158 #[.p D.d 0] w λe w'=>∃v,e=.r v/\w'.ownsRow 0 3 1 v (eY D.fs.safe (dI ([o,ao]++D.ts.map ot))) ((eY D.fs.safe (dI ([o,ao]++D.ts.map ot))).map (λn:Nat=>Value.i n))/\bW w w':=by
 have⟨w1,a5,an,ak⟩:=Mb w;have a6:=a5;have b3:=h.file.small;have HK:Hid (∀X,bW w X->X.c D.d 2=some (.p D.β 0)/\X.c D.d 5=some (.i D.root)/\X.c D.d 11=some (.i D.aroot)/\X.c D.d 14=some D.ov/\aO X st D):=by
  intro X hX;have h1:=h.bl hX;have⟨c0,c1,c2,c3,c4,c5,c6,c7,c8,c9,bf,C,bi,be,B⟩:=eJ h1.box;exact⟨c2,c5,C,B,h1⟩
 have HM:Hid (∀X H oo,bW w X->(∀y∈H,bO D.fs (rootOf y) y)->bO D.fs (rootOf oo) oo->aY X w (dI H)->∀l ca cn cc,l=rootOf oo->cL 84 #[.agg #[.p D.β 0,.i ((l:Nat):Int),.s ca cn cc],.q w 4096 4096] X λe w'=>(∃v,e=.r v)/\aY w' w (dI (H++[oo]))/\bW w w'):=by
  intro X H oo hX b1 ap hU l ca cn cc a2;subst a2;rw[Fj];exact(Jn D.β D.sv D.lv D.fs hl _ ca cn cc w oo (dI H) X ap (Xe b3 H b1 oo ap) (vK H) (h.file.bl hX) hU).m λe w' ⟨he,az,hf'⟩=>⟨he,az,hX.t (hf'.below hX.size (λ_=>φ))⟩
 have W:Hid (∀X (l:Nat),bW w X->cL 36 #[.p D.d 0,.i (l:Int)] X λe w'=>e=.r (.agg #[.p D.β 0,.i (l:Int),.n])/\bW w w'/\∀H,aY X w H->aY w' w H):=λX l hX=>(oQ D.d D.β l X (HK X hX).1).m λe w' ⟨he,hb⟩=>⟨he,hX.tm hb,λH hu=>hu.on (Y:=Bl.one w) (vV hb (λk hk=>by simp only[Bl.one]at hk;have:=hu.lt;omega)) rfl⟩;have⟨c2,c5,C,B,_⟩:=HK w1 ak;have hA:=W w1 D.root ak;have a1:Hid _:=hts;have HO:Hid _:=ho;have aq:Hid _:=hao;have HR:Hid _:=hr;have HAR:Hid _:=har;have a7:Hid (aY w1 w (dI [])):=an;have⟨oa,oc,ag,bh,hrow⟩:=cA h.row;have HOV:Hid _:=ag;clear hts ho hao hr har a5 ag;go_enter func158,ntmps158;go_wp2_with (first
  |(go_at_call 36;(with_reducible apply Calls.m hA);rintro e w2 ⟨rfl,b9,a9⟩;have hM:=HM w2 [] o b9 σ HO (a9 _ a7) D.root none 0 0 HR)
  |(go_at_call 84;(with_reducible apply Calls.m hM);rintro e w3 ⟨⟨v3,rfl⟩,hU3,ah⟩;have⟨d2,d5,ay,b6,_⟩:=HK w3 ah;have hB:=W w3 D.aroot ah)
  |(apply Calls.m hB;rintro e w4 ⟨rfl,ax,ab⟩;have hN:=HM w4 [o] ao ax (by intro y hy;rw[AL]at hy;subst hy;exact HO) aq (ab _ hU3) D.aroot none 0 0 HAR)
  |(apply Calls.m hN;rintro e w5 ⟨⟨v5,rfl⟩,hU5,hb5⟩;have⟨e2,e5,e11,e14,_⟩:=HK w5 hb5;rw[HOV.o]at e14))
 have HRow:Hid (aH w (λk=>D.ov.ownBlock=some k) oa (mH D.ts)):=hrow;have HS:Hid (∀k,D.ov.ownBlock=some k->k<w):=λk hk=>aL h.row hk;have HU5:Hid (aY w5 w (dI ([o,ao]++(D.ts.take 0).map ot))):=hU5;clear hA hM hB hN a6 hU3 hU5 hrow h an a9 ab c2 c5 C B d2 d5 ay b6 W a7;go_loopw [31] (λa wr=>∃j:Nat,a=.i j/\j<=D.ts/\bW w wr/\Hid (aY wr w (dI ([o,ao]++(D.ts.take j).map ot)))) (λa _=>D.ts-(intOf a).toNat)
 case atStart=>exact⟨0,rfl,AG _,hb5,HU5⟩
 case round =>
  obtain⟨j,rfl,hj,hb,HI⟩:=hrel;by_cases hlt:j<D.ts
  .have T:(j:Int)<(D.ts.length:Int):=ω
   have⟨t,ht⟩:=nM (D.ts[j]);have a3:=ht▸AA hlt;rcases HRow.on (vV hb HS) with h0|⟨g,ba,rfl,hg,M⟩
   .have:=BR List.length h0
    simp[mH]at this;rw[this]at hlt;simp at hlt
   have k0:wr.c g (ba+j)=some (.p t.b 0):=M j _ (by simp[mH,hlt,ht]);have O:=((HK wr hb).2.2.2.2.each t a3).box;have q2:wr.c t.b 2=some (.p D.β 0):=by simp[World.cell?,O]
   have q3:wr.c t.b 3=some (.i t.root):=by simp[World.cell?,O]
   have q4:wr.c t.b 4=some (.s t.ca t.cs t.cc):=by simp[World.cell?,O]
   have hM:=HM wr ([o,ao]++(D.ts.take j).map ot) (ot t) hb (by
    intro y hy;simp only[jF,jE,AS,AY]at hy;rcases hy with rfl|rfl|⟨x,hx,rfl⟩
    .exact HO
    .exact aq
    .exact(a1 x (DD hx)).1) (a1 t a3).1 HI t.root t.ca t.cs t.cc (a1 t a3).2
   have HE:Hid ([o,ao]++(D.ts.take j).map ot++[ot t]=[o,ao]++(D.ts.take (j+1)).map ot):=by
    show _=_
    rw[AJ hlt,ht,BL,CA];rfl
   rw[HE.o]at hM;clear M ht O e2 e5 e11 e14;go_wp2_with (apply Calls.m hM;rintro e w6 ⟨⟨v6,rfl⟩,au,b4⟩);exact⟨⟨j+1,σ,ω,b4,au⟩,θ⟩
  .obtain rfl:j=D.ts:=ω
   have T:¬(D.ts.length:Int)<(D.ts.length:Int):=ω
   rw[BN]at HI;have⟨U,Q⟩:=nM (dI ([o,ao]++D.ts.map ot));have bb:U.length=4096:=by rw[<-Q];exact vK _
   rw[Q]at HI;have b8:Hid (dI ([o,ao]++D.ts.map ot)=U):=Q;clear Q;clear e2 e5 e11 e14 T;go_wp2;go_loopw [6,7] (λa b wq=>∃p:Nat,b=.i p/\2<=p/\(p<=D.fs.safe\/p=2)/\bW w wq/\Hid (aY wq w U)/\Hid (wq.ownsRow 0 3 1 a (nJ U p) ((nJ U p).map (λn:Nat=>Value.i n))/\nW a w)) (λ_ b _=>D.fs.safe-(intOf b).toNat)
   case atStart=>exact⟨2,rfl,jU _,.inr rfl,hb,HI,AO _ _ _ _,λk hk=>by simp[Value.ownBlock]at hk⟩
   case round =>
    obtain⟨p,rfl,av,b5,F,K,af⟩:=hrel;have⟨z,A⟩:=af.o;have⟨c2,c5,C,B,R⟩:=HK wr F;have a4:=mI D.β D.sv D.lv D.fs wr R.file;obtain⟨aa,ac,rfl⟩:=aG z;by_cases hlt2:p<D.fs.safe
    .have aw:(p:Int)<(D.fs.safe.length:Int):=ω
     have bc:p<4096:=ω
     have bd:(p:Int)<4096:=ω
     have I:=K.cell bc bb;have G:U.getD p true=U[p]'(by omega):=by rw[CI,jQ ω];rfl
     have J:Hid _:=Zv (u:=U) av;have V:(nJ U p).length<=4096:=vJ qGn ω;cases hb':(U[p]'(by omega):Bool)
     .rw[hb']at I G;have HG:Hid _:=G;clear G;have⟨L,hL⟩:=nM (nJ U p);rw[hL]at z V af J A;rw[hL];have a0:Hid (nJ U (p+1)=L++[p]):=by
       show _=_;rw[J.o,HG.o];rfl
      clear J hL c5 C B hlt R;go_wp2_with (first
       |(apply Calls.m a4;rintro e w7 ⟨rfl,al⟩;subst w7)
       |(at_builtin;apply gQ wr rfl (.tmp 56) (.tmp 58) 44 3 _ 1 8 rfl underlying44 qCn rfl δ (.s aa L ac) L (L.map (λn:Nat=>Value.i n)) rfl z [.i (p:Int)] rfl rfl υ ω ω;intro v3 w3 A3;obtain⟨g3,k3,rfl⟩:=A3.shape δ))
      have⟨bg,a8⟩:=K.box;refine⟨⟨p+1,σ,ω,.inl ω,F.t (A3.fr.below F.size (λk hk=>A k hk)),K.on (Y:=Bl.one w) (A3.fr.on (λk hk=>⟨by simp only[Bl.one]at hk;have:=K.lt;omega,by cases hk;exact (aQ z a8 δ)⟩)) rfl,?_,λk hk=>?_⟩,θ⟩
      .rw[a0.o,jK,AP,BL]
       exact A3.row
      .rcases A3.lies k hk with h'|h'
       .exact A k h'
       .exact vJ F.size h'
     .rw[hb']at I G;have HG:Hid _:=G;have a0:Hid (nJ U (p+1)=nJ U p):=by
       show _=_;rw[J.o,HG.o];simp
      clear J HG G c5 C B hlt R;go_wp2_with (apply Calls.m a4;rintro e w7 ⟨rfl,al⟩;subst w7);refine⟨⟨p+1,σ,ω,.inl ω,F,K,?_,A⟩,θ⟩;rw[a0.o];exact z
    .have aw:¬(p:Int)<(D.fs.safe.length:Int):=ω
     have b7:Hid (nJ U p=eY D.fs.safe U):=qGo ω b5;clear c5 C B hlt R;go_wp2_with (apply Calls.m a4;rintro e w7 ⟨rfl,al⟩;subst w7);go_ret;refine⟨.s aa (nJ U p) ac,rfl,?_,F⟩;rw[show dI (o :: ao :: D.ts.map ot)=U from b8.o,<-b7.o];exact z
def Fs.well(fs:Fs):Prop:=fs.wait = -1/\fs.life = -1
theorem Fs.well_ok{fs:Fs}(h:fs.well):fs.chOk=true/\fs.ch=fs:=by
 have⟨a,b⟩:=h;have c:fs.chOk=true:=by unfold Fs.chOk;rw[a,b];rfl
 refine⟨c,?_⟩;unfold Fs.ch;rw[AU c,a,b];cases fs;grind
def JO:=@Fs.well_ok
theorem Fs.well_alive{fs:Fs}(h:fs.well):(fs.life==0)=false:=by rw[h.2];rfl
def KM:=@Fs.well_alive
theorem qFa {B z n k}(h:w.ownsRow B e z v n xs)(a:v.ownBlock=some k):∃b,cW w k b e:=by
 have⟨_,d⟩:=h;rcases d with⟨c,_⟩|⟨i,g,b,c,_,f,_⟩
 .rw[c]at a;simp[Value.ownBlock]at a
 .rw[c]at a;simp only[Value.ownBlock,BB]at a;grind
theorem aO.txFile {e}(h:aO w e D){t}(b:eX w D.β t):∀k,fpT t k->¬fpF D.β D.sv D.lv k:=by
 rintro k (rfl|a|a)
 .exact fS h.file b.box δ δ δ
 .have⟨g,d⟩:=qFa b.row a;exact fS h.file d δ δ δ
 .have⟨i,f,c⟩:=b.tk.block a;exact qGu h.file c
theorem aO.refile {i g e}(h:aO w i D)(j:aA w' D.β D.sv g e)(f:Fr (fpF D.β D.sv D.lv) w w'):aO w' i {D with lv:=g,fs:=e}:=
 ⟨f.heap h.box h.noFile,j,eN h.row f (λb a k=>h.fileRow b k a),λd c=>(h.each d c).on (f.on (λb a=>⟨(h.each d c).lies b a,h.txFile (h.each d c) b a⟩)),h.apart⟩
theorem aH.wr {S:Bl}{a:Option Addr}{l:List (Nat×ByteArray)}{j:Nat}(h:aH w S a (l.flatMap dY))(k:j<l):∃b c,a=some (aD b c)/\S b/\w.c b (c+j * 2)=some (.i (l[j]).1)/\w.c b (c+j * 2+1)=some (.t (l[j]).2):=by
 obtain⟨d,f⟩:=vI k;rcases h with h|⟨b,c,g,i,e⟩
 .rw[h]at d;simp at d
 .exact⟨b,c,g,i,e _ _ d,e _ _ f⟩
def mA(l:List (Nat×Pg)):List (Nat×ByteArray):=l.map λy=>(y.1,y.2.encS)
def cG(P:Program)(md:Region.Mode)(ops:Array Oper)(Q:Exit->Act->World->Prop)(S:World->Prop):List (Nat×Tmp×Value)->Nat->Array Bool->Act->World->Prop
 |[],n,L,a,w=>wpAnyH P md ops Q S n L a w
 |(i,d,v):: l,n,L,a,w=>∃oi,ops[i]?=some oi/\oi.dst=some d/\(Region.noSelect ops&&Region.free md ops L i&&(Region.ready md ops L).contains i)=true/\(∀c a w,Q (.panic c) (a.put (some d) v) w->Q (.panic c) a w)/\YieldsIf P ops S oi v a/\cG P md ops Q S l n (L.setIfInBounds i true) (a.put (some d) v) w
theorem cG.take{P:Program}{md:Region.Mode}{ops:Array Oper}{Q:Exit->Act->World->Prop}{S:World->Prop}:∀(l:List (Nat×Tmp×Value)) {n k:Nat}{L:Array Bool}{a:Act}{w:World},k=n+l->S w->cG P md ops Q S l n L a w->wpAnyH P md ops Q S k L a w
 |[],n,k,L,a,w,hk,hS,h=>by subst hk;exact h
 |(i,d,v):: l,n,k,L,a,w,hk,hS,⟨oi,h1,hd,h2,hQ,h3,h4⟩=>by
  subst hk;simp only[AM]at h2;rw[<-hd]at hQ h4;exact wpAnyH_take h1 h2.1.1 h2.1.2 h2.2 hQ h3 hS (cG.take l rfl hS h4)
theorem He(v a:Int):(bL v a).small:=by
 refine⟨by simp[bL],by simp[bL],by simp[bL],by simp[bL],?_,?_,AG _⟩
 .simp[bL,eU,aK]
 .simp[bL,nI,aK]
theorem wH1 {P:Program}{md:Region.Mode}{ops:Array Oper}{Q:Exit->Act->World->Prop}{S:World->Prop}{L:Array Bool}{a:Act}{o:Oper}(d:Region.ready md ops L=[i])(j:ops[i]?=some o)(h:∀K':Act->World->Prop,Go.Shut (∀a w,S w->(S w->wpAnyH P md ops Q S n (L.setIfInBounds i true) a w)->K' a w)->if Region.wanted o (yielded ops a.tmps)=true then Oper.wp P o a w K' Q else K' (a.put o.dst undef) w):wpAnyH P md ops Q S (n+1) L a w :=
 wpAnyH_ready (rs:=[i]) d σ (AllReadyH.cons j h AllReadyH.nil)
def Fs.dy(fs:Fs):Prop:=-1<=fs.wait/\fs.wait<=9223372036854775807∧-1<=fs.life/\fs.life<=9223372036854775807
theorem Fs.dy_ch{fs:Fs}(h:fs.dy):fs.ch.dy:=by
 obtain⟨a,b,c,d⟩:=h;unfold Fs.dy Fs.ch;grind
theorem Fs.well_dy{fs:Fs}(h:fs.well):fs.dy:=by
 unfold Fs.dy;rw[h.1,h.2];decide
theorem Fs.fits_ch{fs:Fs}(h:fs.fits):fs.ch.fits:=by unfold Fs.fits;rw[DX,DR];exact h
theorem Fs.fits_put {fs:Fs}(h:fs.fits)(a:p<fs.safe)(d:ByteArray):(fs.put p d).fits:=by
 intro x g;simp only[Fs.put,AN,AL]at g;rcases g with g|rfl
 .exact h x g
 .exact a
def Fs.wrL:Fs->List (Nat×ByteArray)->Bool×Fs
 |fs,[]=>(true,fs)
 |fs,x :: l=>if fs.chOk then (fs.ch.put x.1 x.2).wrL l else (false,fs.ch)
def Fs.wrS(fs:Fs):Fs:=if fs.chOk then fs.ch.synced else fs.ch
def Fs.wrP(fs:Fs)(m:Nat)(d:ByteArray):Fs:=if fs.chOk then fs.ch.put m d else fs.ch
def Fs.wrE(fs:Fs)(m:Nat)(d:ByteArray):Bool×Fs :=
 if fs.chOk then (if fs.wrS.chOk then ((fs.wrS.wrP m d).chOk,(fs.wrS.wrP m d).wrS) else (false,fs.wrS.wrP m d)) else (false,fs.wrS)
def Fs.wrA(fs:Fs)(l:List (Nat×ByteArray))(m:Nat)(d:ByteArray):Bool×Fs:=if (fs.wrL l).1 then (fs.wrL l).2.wrE m d else fs.wrL l
theorem Fs.wrS_dy{fs:Fs}(h:fs.dy):fs.wrS.dy:=by unfold Fs.wrS;split;exact Fs.dy_ch h;exact Fs.dy_ch h
theorem Fs.wrP_dy{fs:Fs}(h:fs.dy)(m:Nat)(d:ByteArray):(fs.wrP m d).dy:=by unfold Fs.wrP;split;exact Fs.dy_ch h;exact Fs.dy_ch h
theorem Fs.wrS_fits{fs:Fs}(h:fs.fits):fs.wrS.fits:=by
 unfold Fs.wrS;split
 .intro x g;simp[Fs.synced]at g
 .exact Fs.fits_ch h
theorem Fs.wrS_len(fs:Fs):fs.wrS.safe.length=fs.safe:=by
 unfold Fs.wrS;split
 .show(laid _ _).length=_;rw[dM,DR]
 .rw[DR]
theorem Fs.wrS_late(fs:Fs):fs.wrS.late.length<=fs.late:=by
 unfold Fs.wrS;split
 .simp[Fs.synced]
 .rw[DX];exact jU _
theorem Fs.wrP_fits{fs:Fs}(h:fs.fits){m:Nat}(a:m<fs.safe)(d:ByteArray):(fs.wrP m d).fits:=by
 unfold Fs.wrP;split
 .exact Fs.fits_put (Fs.fits_ch h) (by rw[DR];exact a) d
 .exact Fs.fits_ch h
abbrev mC(m:MV):Array Value:=#[.i 1,.i m.ver,.i m.root,.i 0,.s m.ka 0 m.kc,.s m.ia 0 m.ic,.s m.ea 0 m.ec,.e]
def WrF(D:Db)(B:Value)(X:World)(f:Fs)(x:World):Prop:=∃u,aA x D.β D.sv u f/\Fr (fpF D.β D.sv B) X x/\aI X (fpF D.β D.sv B) (fpF D.β D.sv u)/\∀(k:Nat) (c:Array Value) (t:TypeId),cW X k c t->t≠63->t≠9->t≠104->cW x k c t
theorem qQa(D:Db)(bf:Int)(l:List (Nat×Pg))(m:MV)(be:Nat)(al:Option Addr)(b1:Nat)(S:Bl)(w:World)(h:aO w bf D)(cz:D.fs.dy)(bw:D.fs.late=[])(ct:aH w S al ((mA l).flatMap dY))(cu:∀k,S k->k<w/\¬fpF D.β D.sv D.lv k)(ek:l.length<=b1)(el:l.length<=4096)(cp:∀y∈l,y.2.encE=0)(cy:∀y∈l,y.1<D.fs.safe)(cx:(bL m.ver m.root).encE=0)(e0:(bL m.ver m.root).small)(T:2<=D.fs.safe.length)(R:Bool×Fs)(bq:D.fs.wrA (mA l) (m.ver % 2) (bL m.ver m.root).encS=R):
  cL 130 #[.p D.d 0,.agg #[.i (be:Int),.s al l b1],.agg (mC m)] w λe w'=>e=.r (.bool R.1)/\∃u,aO w' bf {D with lv:=u,fs:=R.2}/\Fr (fpF D.β D.sv D.lv) w w'/\aI w (fpF D.β D.sv D.lv) (fpF D.β D.sv u):=by
 obtain⟨Q,b7,ca,c5,bg,-⟩:=al2 w (.cells #[.i (be:Int),.s al l b1] 193) (.cells (mC m) 80)
 have e3:=(gL bg);obtain⟨ed,ee⟩:=cM c5;obtain⟨e5,e6,e7,e8,e9,ea,eb,ec⟩:=bU bg;have bo:=uX (bL m.ver m.root) m.ka m.ia m.ea m.kc m.ic m.ec (λ_=>False) Q ⟨.inl rfl,.inl rfl,.inl rfl⟩ (λ_ U=>U.elim) e0 cx;simp only[bL,jN,NG]at bo;obtain⟨P,ba⟩:=nM ((bL m.ver m.root).encS);have d9:Hid ((bL m.ver m.root).encS=P):=ba;have cq:cL 117 #[.agg (mC m)] Q λe w'=>e=.r (.t P)/\bW Q w':=by
  rw[<-ba];exact bo
 clear bo;go_enter func130,ntmps130;go_wp2_with ((with_reducible refine Calls.m cq ?_);rintro e c3 ⟨rfl,ac⟩;have cb:=ca.tm ac;have d2:=(ac.block _ ω).t c5;obtain⟨ef,eg⟩:=cM d2);have d3:=(ac.block _ e3).t bg;have d6:Hid (∀X,Fr (fpF D.β D.sv D.lv) w X->X.1[D.d]?=some (dbO bf D)/\aH X S al ((mA l).flatMap dY)):=λX j=>⟨j.heap h.box h.noFile,ct.on (j.on cu)⟩;have db:Hid (aA c3 D.β D.sv D.lv D.fs/\Fr (fpF D.β D.sv D.lv) w c3/\aI w (fpF D.β D.sv D.lv) (fpF D.β D.sv D.lv)/\c3.1[w.1.size+1]?=some (.cells (mC m) 80)):=by
  refine⟨?_,AB cb,CS _ _,d3⟩;exact h.file.bl cb
 have b2:Hid (aO w bf D):=h;have ci:Hid (D.fs.dy/\D.fs.safe.length=D.fs.safe/\D.fs.late.length=0/\D.fs.fits/\D.fs.wrL (mA l)=D.fs.wrL ((mA l).drop 0)):=⟨cz,rfl,by rw[bw];rfl,λx hx=>by rw[bw]at hx;simp at hx,rfl⟩;have d7:Hid _:=cp;have ce:Hid _:=cy;rw[ba]at bq;have cg:Hid (D.fs.wrA (mA l) (m.ver % 2) P=R):=bq;clear h ct cu cp cy cz bw ba bq b7 c5 bg ed ee e5 e6 e7 e8 e9 ea eb ec cq d2 d3 ef eg;go_loopw [15] (λa c4=>∃(C:Nat) (a4:Value) (v:Fs),a=.i C/\C<=l.length/\Hid (v.dy/\v.safe.length=D.fs.safe/\v.late=C/\v.fits/\D.fs.wrL (mA l)=v.wrL ((mA l).drop C))/\Hid (aA c4 D.β D.sv a4 v/\Fr (fpF D.β D.sv D.lv) w c4/\aI w (fpF D.β D.sv D.lv) (fpF D.β D.sv a4)/\c4.1[w.1.size+1]?=some (.cells (mC m) 80))) (λa _=>l-(intOf a).toNat)
 case atStart=>exact⟨0,D.lv,D.fs,rfl,AG _,ci.o,db.o⟩
 case round =>
  obtain⟨C,a4,v,rfl,ej,b3,d8⟩:=hrel;clear ci;obtain⟨b6,H,I,ak⟩:=d8.o;obtain⟨ad,c0⟩:=d6.o wr H;by_cases hlt:C<l
  .have dy:(C:Int)<(l.length:Int):=ω
   obtain⟨y,bc⟩:=nM (l[C]);have c1:=bc▸AA hlt;obtain⟨en,eo,e2,em,d0,c2⟩:=c0.wr (j:=C) (by simp[mA];exact hlt);simp only[mA,EF,bc]at d0 c2;subst e2;obtain⟨Y,d4⟩:=y;simp only at d0 c2;obtain⟨d,b8⟩:=nM (d4.encS);rw[b8]at c2;have du:=b8▸lU d4 (d7.o _ c1);obtain⟨N,a9,aq,ah,ai⟩:=b3.o;obtain⟨b,U⟩:=nM (v.chOk);obtain⟨z,aj⟩:=nM (v.wrP Y d);have bt:(mA l).drop C=(Y,d):: (mA l).drop (C+1):=by
    rw[BZ (by simp[mA];exact hlt)];simp[mA,bc,b8]
   have dc:Hid (b=true->z.dy/\z.safe.length=D.fs.safe/\z.late=C+1/\z.fits/\D.fs.wrL (mA l)=z.wrL ((mA l).drop (C+1))):=λe=>by
    rw[e]at U;have bm:z=v.ch.put Y d:=by rw[<-aj,Fs.wrP,U,AU rfl]
    refine⟨aj▸Fs.wrP_dy N Y d,?_,?_,aj▸Fs.wrP_fits ah (by rw[a9];exact ce.o _ c1) d,?_⟩
    .rw[bm];show v.ch.safe.length=_;rw[DR,a9]
    .rw[bm];show(v.ch.late++[_]).length=_;rw[DX,jK,aq];rfl
    .rw[ai,bt,Fs.wrL,U,AU rfl,bm]
   have da:Hid (b=false->D.fs.wrA (mA l) (m.ver % 2) P=(false,z)):=λe=>by
    rw[e]at U;have:D.fs.wrL (mA l)=(false,z):=by rw[ai,bt,Fs.wrL,<-aj,Fs.wrP,U];rfl
    rw[Fs.wrA,this];rfl
   have dd:Hid (∀X,bW wr X->cL 116 #[.p D.β 0,.i (Y:Int),.t d] X λe w'=>e=.r (.bool b)/\WrF D a4 X z w'):=by
    intro X j;have cr:=b6.bl j;refine(Am D.β D.sv a4 v Y d X cr N.1 N.2.1 N.2.2.1 N.2.2.2 du (a9▸ce.o _ c1) ω).m ?_;rintro e w' ⟨ax,u,ar,T,au⟩;exact⟨U▸ax,u,aj▸ar,T,au,λk cs t a2 c f g=>T.heap a2 (fS cr a2 c f g)⟩
   obtain⟨dg,dh,dm,dn,dp,dq,dr,ds,c8,c9,aw,di,dj,dk,dl⟩:=eJ ad;obtain⟨a0,cv⟩:=nM (wr.alloc (.cells #[.i (Y:Int),.t d] 226));have a6:=cv▸(bA _ _);have d5:=cv▸aB wr _;have cm:=a6.kp ad;have de:=a6.kp ak;obtain⟨c6,c7⟩:=cM d5;have i:a0.c D.d 2=some (.p D.β 0):=by simp[World.cell?,cm]
   clear dg dh dm dn dp dq dr ds c8 c9 aw di dj dk dl b8 bc c0 N a9 aq ah ai U aj bt b3;cases b
   all_goals go_wp2
   all_goals go_region_held3 (λX=>X.c D.d 2=some (.p D.β 0)/\X.c wr 0=some (.i (Y:Int))/\X.c wr 1=some (.t d))
    ((first|(with_reducible exact⟨i,c6,c7⟩)|(simp[i,c6,c7])))
    (first
     |((with_reducible refine Calls.m (dd.o _ ?_) ?_);(first|exact a6.drew|exact a6);rintro e a5 ⟨rfl,W,O,a3,a1,E⟩;have G:=E _ _ _ cm δ δ δ;have F:=E _ _ _ de δ δ δ;have ei:=E _ _ _ d5 δ δ δ;obtain⟨c6,c7⟩:=cM ei;have i:a5.c D.d 2=some (.p D.β 0):=(by simp[World.cell?,G])))
   all_goals go_wp2
   all_goals
    have L:=by first|exact(AB a6.drew).t a3|exact(AB a6).t a3
    have M:=by
     have ep:=H.size;have eq:=a6.size;first|exact I.t (b:=a0.drew) (by show _<=a0.1.size;omega) a1|exact I.t (b:=a0) ω a1
    first
     |exact⟨⟨C+1,W,z,σ,ω,dc.o σ,O,H.grow L I,M,F⟩,θ⟩
     |(go_ret;obtain rfl:=cg.o.symm.t (da.o σ);exact⟨rfl,W,b2.o.refile O (H.grow L I),H.grow L I,M⟩)
  .obtain rfl:C=l.length:=ω;have dy:¬(l.length:Int)<(l.length:Int):=ω
   obtain⟨N,a9,aq,ah,ai⟩:=b3.o;obtain⟨a7,br⟩:∃b,v.chOk=b:=⟨_,rfl⟩;obtain⟨J,aa⟩:∃z,v.wrS=z:=⟨_,rfl⟩;obtain⟨ae,ac⟩:∃b,J.chOk=b:=⟨_,rfl⟩;obtain⟨Z,av⟩:∃z,J.wrP (m.ver % 2) P=z:=⟨_,rfl⟩;obtain⟨af,bs⟩:∃b,Z.chOk=b:=⟨_,rfl⟩;obtain⟨bh,bp⟩:∃z,Z.wrS=z:=⟨_,rfl⟩;have bi:Hid (R=if a7 then (if ae then (af,bh) else (false,Z)) else (false,J)):=by
    have e:D.fs.wrL (mA l)=(true,v):=by rw[ai,List.drop_of_length_le (by simp[mA])];rfl
    show R=_;rw[<-cg.o,Fs.wrA,e];show v.wrE _ _=_;rw[Fs.wrE,aa,av,bp,br,ac,bs]
   have bx:m.ver % 2<J.safe:=by rw[<-aa,Fs.wrS_len,a9];omega
   have ag:=aa▸Fs.wrS_dy N;have cl:=av▸Fs.wrP_dy ag _ _;have cn:=aa▸Fs.wrS_fits ah;have co:=av▸Fs.wrP_fits cn bx _;have d1:J.late.length<1000000:=by have:=Fs.wrS_late v;rw[aa,aq]at this;omega
   have bl:Hid (∀X B a8 b bn,a8.chOk=b->a8.wrS=bn->aA X D.β D.sv B a8->a8.dy->a8.fits->cL 82 #[.p D.β 0] X λe w'=>e=.r (.bool b)/\WrF D B X bn w'):=by
    rintro X B a8 b bn rfl rfl j bb dw;exact(yJ D.β D.sv B a8 X j bb.1 bb.2.1 bb.2.2.1 bb.2.2.2 dw).m λe w' ⟨ax,u,ar,T,au⟩=>⟨ax,u,ar,T,au,λk cs t a2 c f g=>T.heap a2 (fS j a2 c f g)⟩
   have ck:Hid (∀X B,aA X D.β D.sv B J->cL 116 #[.p D.β 0,.i ((m.ver:Int) % 2),.t P] X λe w'=>e=.r (.bool ae)/\WrF D B X Z w'):=by
    intro X B j;have dz:(((m.ver % 2:Nat)):Int)=(m.ver:Int) % 2:=σ;rw[<-dz];exact(Am D.β D.sv B J (m.ver % 2) P X j ag.1 ag.2.1 ag.2.2.1 ag.2.2.2 (d9.o▸lU _ cx) bx d1).m λe w' ⟨ax,u,ar,T,au⟩=>⟨ac▸ax,u,av▸ar,T,au,λk cs t a2 c f g=>T.heap a2 (fS j a2 c f g)⟩
   have cf:Hid (∀X,cL 159 #[.agg (mC m)] X λe w'=>e=.r (.i ((m.ver:Int) % 2))/\bW X w'):=by
    intro X;have:=Cq m X;rw[show(((m.ver % 2:Nat)):Int)=(m.ver:Int) % 2 by simp]at this;exact this
   have bj:=bl.o wr.drew a4 v a7 J br aa (b6.on (vV (AC _ wr).drew b6.lies)) N ah;have cj:Hid (∀X B,aA X D.β D.sv B Z->cL 82 #[.p D.β 0] X λe w'=>e=.r (.bool af)/\WrF D B X bh w'):=λX B j=>bl.o X B Z af bh bs bp j cl co;obtain⟨o,c,f,g,p,q,r,s⟩:=bU ak;have i:wr.c D.d 2=some (.p D.β 0):=by simp[World.cell?,ad]
   go_wp2;refine wp_region_held_drew (S:=(λX=>X.c D.d 2=some (.p D.β 0)/\X.c (w+1) 0=some (.i 1)/\X.c (w+1) 1=some (.i m.ver)/\X.c (w+1) 2=some (.i m.root)/\X.c (w+1) 3=some (.i 0)/\X.c (w+1) 4=some (.s m.ka 0 m.kc)/\X.c (w+1) 5=some (.s m.ia 0 m.ic)/\X.c (w+1) 6=some (.s m.ea 0 m.ec)/\X.c (w+1) 7=some .e)) κ ⟨i,o,c,f,g,p,q,r,s⟩ (λab=>?_);change wpAnyH _ _ _ _ _ 23 #[false,false,false,false,false,false,false,false,false,false,false,false,false,false,false,false,false,false,false,false,false,false,false] _ _;refine cG.take [(0,30,.p D.d 0),(1,31,.p D.d 0),(2,32,.p D.d 2),(3,33,.p D.β 0)] (n:=19) κ ψ ?_;iterate 4 (refine⟨_,rfl,rfl,κ,λ_ _ _ h=>h,?_,?_⟩;first|exact τ|exact .inr ⟨by rfl,rfl⟩;simp only[pS])
   rw[cG];refine wH1 (i:=4) κ rfl λK A=>?_;go_simp;apply Calls.m bj;rintro e a5 ⟨rfl,W,O,a3,a1,E⟩;have G:=E _ _ _ ad δ δ δ;have F:=E _ _ _ ak δ δ δ;obtain⟨o,c,f,g,p,q,r,s⟩:=bU F;have i:a5.c D.d 2=some (.p D.β 0):=(by simp[World.cell?,G]);refine A.out _ _ ⟨i,o,c,f,g,p,q,r,s⟩ (λab=>?_);clear A K;try simp only[pS]
   have L:=H.grow ((AE _ wr).drew.t a3) I;have M:=I.t (b:=wr.drew) H.size a1;cases a7
   .refine cG.take [(5,35,.bool false),(6,36,undef),(7,37,undef),(8,38,undef),(9,39,undef),(10,40,undef),(11,41,undef),(12,42,undef),(13,43,undef),(14,44,.bool false),(15,45,.bool false),(16,46,undef),(17,47,undef),(18,48,undef),(19,49,undef),(20,50,undef),(21,51,.bool false)] (n:=1) κ ψ ?_;iterate 17 (refine⟨_,rfl,rfl,κ,λ_ _ _ h=>h,?_,?_⟩;first|exact τ|exact .inr ⟨by rfl,rfl⟩;simp only[pS])
    rw[cG];refine wH1 (i:=22) κ rfl λK A=>?_;go_simp;refine A.out _ _ ⟨i,o,c,f,g,p,q,r,s⟩ (λab=>?_);clear A K;try simp only[pS]
    refine wpAnyH_done κ ?_ _;go_wp2;obtain rfl:=bi.o;go_ret;exact⟨rfl,W,b2.o.refile O L,L,M⟩
   refine cG.take [(5,35,.bool true),(6,36,.p D.d 0),(7,37,.p D.d 0),(8,38,.p D.d 2),(9,39,.p D.β 0),(10,40,.agg (mC m)),(12,42,.t P)] (n:=11) κ ψ ?_;iterate 7 (refine⟨_,rfl,rfl,κ,λ_ _ _ h=>h,?_,?_⟩;first|exact τ|exact .inr ⟨by rfl,rfl⟩;simp only[pS])
   rw[cG];refine wH1 (i:=11) κ rfl λK A=>?_;go_simp;apply Calls.m (cf.o _);rintro e az ⟨rfl,V⟩;have ap:=V.kp G;have ao:=V.kp F;obtain⟨o,c,f,g,p,q,r,s⟩:=bU ao;have i:az.c D.d 2=some (.p D.β 0):=(by simp[World.cell?,ap]);have bu:=O.bl V;have bk:=ck.o az W bu;refine A.out _ _ ⟨i,o,c,f,g,p,q,r,s⟩ (λab=>?_);try simp only[pS]
   refine wH1 (i:=13) κ rfl λK A=>?_;go_simp;apply Calls.m bk;rintro e b0 ⟨rfl,bd,b9,bz,bv,ay⟩;have b5:=ay _ _ _ ap δ δ δ;have b4:=ay _ _ _ ao δ δ δ;obtain⟨o,c,f,g,p,q,r,s⟩:=bU b4;have i:b0.c D.d 2=some (.p D.β 0):=(by simp[World.cell?,b5]);have ch:=cj.o b0 bd b9;refine A.out _ _ ⟨i,o,c,f,g,p,q,r,s⟩ (λab=>?_);clear A K;try simp only[pS]
   have am:=L.t (AB V);have an:=am.grow bz M;have cd:=M.t am.size bv;cases ae
   .refine cG.take [(14,44,.bool false),(15,45,.bool false),(16,46,undef),(17,47,undef),(18,48,undef),(19,49,undef),(20,50,undef),(21,51,.bool false)] (n:=1) κ ψ ?_;iterate 8 (refine⟨_,rfl,rfl,κ,λ_ _ _ h=>h,?_,?_⟩;first|exact τ|exact .inr ⟨by rfl,rfl⟩;simp only[pS])
    rw[cG];refine wH1 (i:=22) κ rfl λK A=>?_;go_simp;refine A.out _ _ ⟨i,o,c,f,g,p,q,r,s⟩ (λab=>?_);clear A K;try simp only[pS]
    refine wpAnyH_done κ ?_ _;go_wp2;obtain rfl:=bi.o;go_ret;exact⟨rfl,bd,b2.o.refile b9 an,an,cd⟩
   refine cG.take [(14,44,.bool true),(15,45,.bool true),(16,46,.p D.d 0),(17,47,.p D.d 0),(18,48,.p D.d 2),(19,49,.p D.β 0)] (n:=3) κ ψ ?_;iterate 6 (refine⟨_,rfl,rfl,κ,λ_ _ _ h=>h,?_,?_⟩;first|exact τ|exact .inr ⟨by rfl,rfl⟩;simp only[pS])
   rw[cG];refine wH1 (i:=20) κ rfl λK A=>?_;go_simp;apply Calls.m ch;rintro e eh ⟨rfl,e4,dv,e1,dx,cw⟩;have dt:=cw _ _ _ b5 δ δ δ;have df:=cw _ _ _ b4 δ δ δ;obtain⟨o,c,f,g,p,q,r,s⟩:=bU df;have i:eh.c D.d 2=some (.p D.β 0):=(by simp[World.cell?,dt]);refine A.out _ _ ⟨i,o,c,f,g,p,q,r,s⟩ (λab=>?_);clear A K;try simp only[pS]
   refine cG.take [(21,51,.bool af)] (n:=1) κ ψ ?_;iterate 1 (refine⟨_,rfl,rfl,κ,λ_ _ _ h=>h,?_,?_⟩;first|exact τ|exact .inr ⟨by rfl,rfl⟩;simp only[pS])
   rw[cG];refine wH1 (i:=22) κ rfl λK A=>?_;go_simp;refine A.out _ _ ⟨i,o,c,f,g,p,q,r,s⟩ (λab=>?_);clear A K;try simp only[pS]
   have cc:=an.grow e1 cd;cases af;all_goals refine wpAnyH_done κ ?_ _;go_wp2;obtain rfl:=bi.o;go_ret;exact⟨rfl,e4,b2.o.refile dv cc,cc,cd.t an.size dx⟩
theorem Fs.ch_failed(fs:Fs):fs.ch.failed=if fs.chOk then fs.failed else wrap64 (fs.failed+1):=by
 unfold Fs.ch;split<;>rfl
theorem Fs.wrS_failed(fs:Fs):fs.wrS.failed=if fs.chOk then fs.failed else wrap64 (fs.failed+1):=by
 rw[<-Fs.ch_failed];unfold Fs.wrS;split<;>rfl
theorem Fs.wrP_failed(fs:Fs)(m:Nat)(d:ByteArray):(fs.wrP m d).failed=if fs.chOk then fs.failed else wrap64 (fs.failed+1):=by
 rw[<-Fs.ch_failed];unfold Fs.wrP;split<;>rfl
theorem Qk:∀(L:List (Nat×ByteArray)) {F:Fs},F.well->(F.wrL L).1=true/\(F.wrL L).2.well
 |[],_,h=>⟨rfl,h⟩
 |x :: L,F,h=>by
  unfold Fs.wrL;rw[(Fs.well_ok h).1,(Fs.well_ok h).2,AU rfl];exact Qk L (F:=F.put x.1 x.2) h
theorem qBg:∀(L:List (Nat×ByteArray)) {F a:Fs}{b:Bool},F.dy->F.wrL L=(b,a)->a.dy/\a.safe=F.safe/\a.failed=(if b then F.failed else wrap64 (F.failed+1))/\∃k,a.late=F.late++L.take k/\(b=true->L<=k)
 |[],F,a,b,hd,h=>by
  obtain⟨rfl,rfl⟩:=GE h;exact⟨hd,rfl,rfl,0,σ,λ_=>jU _⟩
 |x :: L,F,a,b,hd,h=>by
  have c:=Fs.ch_failed F;unfold Fs.wrL at h;split at h
  .next hk =>
   have⟨d,e,f,k,g,i⟩:=qBg L (F:=F.ch.put x.1 x.2) (Fs.dy_ch hd) h;rw[AU hk]at c;refine⟨d,e.t (DR F),by rw[f];show(if _ then F.ch.failed else wrap64 (F.ch.failed+1))=_;rw[c],k+1,?_,λj=>by have:=i j;rw[jB];omega⟩;rw[g];show(F.ch.late++[x])++L.take k=_;rw[DX];simp
  .next hk =>
   obtain⟨rfl,rfl⟩:=GE h;exact⟨Fs.dy_ch hd,DR F,by rw[c,AQ hk];rfl,0,by rw[DX];simp,λh=>by simp at h⟩
structure WrR (fs:Fs) (l:List (Nat×Pg)) (m:Nat) (mt:Pg) (b:Bool) (fs':Fs):Prop where
 dy:fs'.dy
 failed:fs'.failed=if b then fs.failed else wrap64 (fs.failed+1)
 ok:b=true->fs'.safe=(fs.made l m mt).safe/\fs'.late=[]
 cut:b=false->Cut fs l m mt fs'
 well:fs.well->b=true
theorem qNd {fs v:Fs}{m:Nat}{mt:Pg}{b:Bool}(J:fs.late=[])(O:fs.dy)(h:fs.wrA (mA l) m mt.encS=(b,v)):WrR fs l m mt b v:=by
 have I:∀n,∀x∈(mA l).take n,∃q∈l,x=(q.1,q.2.encS):=λn x T=>by
  obtain⟨q,P,rfl⟩:=AY.1 (DD T);exact⟨q,P,rfl⟩
 have k:fs.well->b=true:=λw=>by
  have⟨Q,o⟩:=Qk (mA l) w;unfold Fs.wrA at h;rw[Q,AU rfl]at h;unfold Fs.wrE at h;have p:(fs.wrL (mA l)).2.wrS.well:=by unfold Fs.wrS;rw[(Fs.well_ok o).1,(Fs.well_ok o).2];exact o
  have S:((fs.wrL (mA l)).2.wrS.wrP m mt.encS).well:=by unfold Fs.wrP;rw[(Fs.well_ok p).1,(Fs.well_ok p).2];exact p
  rw[(Fs.well_ok o).1,(Fs.well_ok p).1,(Fs.well_ok S).1]at h;exact(GE h).1.symm
 unfold Fs.wrA at h;have⟨⟨c,a⟩,H⟩:∃R,fs.wrL (mA l)=R:=⟨_,rfl⟩;rw[H]at h;have⟨G,z,g,n,i,M⟩:=qBg _ O H;rw[J,jE]at i;cases c
 .obtain⟨rfl,rfl⟩:=GE h;exact⟨G,g,λh=>by simp at h,λ_=>.inl ⟨z,i▸I n⟩,k⟩
 .rw[CN (M rfl)]at i;replace h:a.wrE m mt.encS=(b,v):=h;replace g:a.failed=fs.failed:=g;unfold Fs.wrE at h;have j:=Fs.wrS_failed a;have f:=Fs.wrP_failed a.wrS m mt.encS;have u:=Fs.wrS_failed (a.wrS.wrP m mt.encS);have s:=Fs.wrS_dy G;have t:=Fs.wrP_dy s m mt.encS;cases b1:a.chOk
  .rw[b1]at h j;obtain⟨rfl,rfl⟩:=GE h;refine⟨s,by rw[j,g],λh=>by simp at h,λ_=>.inl ?_,k⟩;rw[Fs.wrS,b1];refine⟨(DR a).t z,?_⟩;show ∀x∈a.ch.late,_;rw[DX,i];intro x T;exact I l x (by rw[CN (by simp[mA])];exact T)
  .rw[b1]at h j;have E:a.wrS=a.ch.synced:=by rw[Fs.wrS,b1,AU rfl]
   have B:a.wrS.safe=(fs.puts l).synced.safe:=by
    rw[E];show laid a.ch.safe a.ch.late=laid fs.safe (fs.late++_);rw[DR,DX,z,i,J];rfl
   have C:a.wrS.late=[]:=by rw[E];rfl
   have y:a.wrS.failed=fs.failed:=by rw[j,<-g];rfl
   have⟨d,N⟩:=nM (a.wrS);rw[N]at h B C s t f u y;cases b2:d.chOk
   .rw[b2]at h f;obtain⟨rfl,rfl⟩:=GE h;refine⟨t,by rw[f,y],λh=>by simp at h,λ_=>.inr ?_,k⟩;rw[Fs.wrP,b2];exact⟨(DR d).t B,.inl ((DX d).t C)⟩
   .rw[b2]at h f;have F:d.wrP m mt.encS=d.ch.put m mt.encS:=by rw[Fs.wrP,b2,AU rfl]
    have⟨e,A⟩:=nM (d.wrP m mt.encS);have K:e.safe=(fs.puts l).synced.safe:=by rw[<-A,F];exact(DR d).t B
    have L:e.late=[(m,mt.encS)]:=by rw[<-A,F];show d.ch.late++_=_;rw[DX,C];rfl
    have D:=Fs.wrS_dy t;rw[A]at h f u D;obtain⟨rfl,rfl⟩:=GE h;refine⟨D,by rw[u,f,y];rfl,λr=>?_,λr=>.inr ?_,k⟩
    .rw[Fs.wrS,r,AU rfl]
     refine⟨?_,rfl⟩;show laid e.ch.safe e.ch.late=laid _ _;rw[DR,DX,K,L];rfl
    .rw[Fs.wrS,r];exact⟨(DR e).t K,.inr ((DX e).t L)⟩
theorem pI {X:World}{a:Int}(h:X.1[D.d]?=some (dbO a D)):X.c D.d 2=some (.p D.β 0)/\X.c D.d 3=some (.i 1)/\X.c D.d 4=some (.i D.ver)/\X.c D.d 5=some (.i D.root)/\X.c D.d 6=some (.i 0)/\X.c D.d 7=some (.s D.ka 0 D.kc)/\X.c D.d 8=some (.s D.ia 0 D.ic)/\X.c D.d 9=some (.s D.ea 0 D.ec)/\X.c D.d 10=some .e:=by simp[World.cell?,h]
def Fs.fgZ(fs:Fs)(p:Nat)(d:ByteArray):Int:=if fs.chOk&&(fs.wrP p d).chOk&&!((fs.wrP p d).wrS.life==0) then 0 else 9
def Fs.fg(fs:Fs)(p:Nat)(d:ByteArray):Fs:=if fs.chOk then (fs.wrP p d).wrS else fs.wrP p d
theorem Zy(D:Db)(j:Int)(p:Nat)(w:World)(h:aO w j D)(u:D.fs.dy)(a1:D.fs.late=[])(af:p<D.fs.safe)(U:(bL D.ver D.root).encE=0):
  cL 86 #[.p D.d 0,.i (p:Nat)] w λe w'=>e=.r (.i (D.fs.fgZ p (bL D.ver D.root).encS))/\∃f ab,(D.fs.fgZ p (bL D.ver D.root).encS=0->ab=D.root)/\aO w' j {D with lv:=f,fs:=D.fs.fg p (bL D.ver D.root).encS,aroot:=ab}/\Fr (λk=>k=D.d\/fpF D.β D.sv D.lv k) w w'/\aI w (fpF D.β D.sv D.lv) (fpF D.β D.sv f):=by
 have⟨c,M⟩:=nM ((bL D.ver D.root).encS);have ag:=M▸lU _ U;have ai:Hid (∀X,cL 117 #[.agg #[.i 1,.i D.ver,.i D.root,.i 0,.s D.ka 0 D.kc,.s D.ia 0 D.ic,.s D.ea 0 D.ec,.e]] X λe w'=>e=.r (.t c)/\bW X w'):=λX=>by
  have:=uX (bL D.ver D.root) D.ka D.ia D.ea D.kc D.ic D.ec (λ_=>False) X ⟨.inl rfl,.inl rfl,.inl rfl⟩ (λ_ J=>J.elim) (He _ _) U;simp only[bL,jN,NG]at this;rw[<-M];exact this
 rw[M];have a8:Hid (∀X,bW w X->cL 116 #[.p D.β 0,.i (p:Int),.t c] X λe w'=>e=.r (.bool D.fs.chOk)/\∃f,aA w' D.β D.sv f (D.fs.wrP p c)/\Fr (fpF D.β D.sv D.lv) X w'/\aI X (fpF D.β D.sv D.lv) (fpF D.β D.sv f)/\w'.1[D.d]?=some (dbO j D)):=λX a =>
  have T:=h.bl a;(Am D.β D.sv D.lv D.fs p c X T.file u.1 u.2.1 u.2.2.1 u.2.2.2 ag af (by rw[a1];decide)).m λe w' ⟨a0,f,C,l,R⟩=>⟨a0,f,C,l,R,l.heap T.box T.noFile⟩
 have B:=Fs.wrP_dy u p c;have a7:Hid (∀X d,aA X D.β D.sv d (D.fs.wrP p c)->X.1[D.d]?=some (dbO j D)->cL 82 #[.p D.β 0] X λe w'=>e=.r (.bool (D.fs.wrP p c).chOk)/\∃f,aA w' D.β D.sv f (D.fs.wrP p c).wrS/\Fr (fpF D.β D.sv d) X w'/\aI X (fpF D.β D.sv d) (fpF D.β D.sv f)/\w'.1[D.d]?=some (dbO j D)):=λX d a J =>
  (yJ D.β D.sv d _ X a B.1 B.2.1 B.2.2.1 B.2.2.2 (Fs.wrP_fits (λx hx=>by rw[a1]at hx;simp at hx) af c)).m λe w' ⟨a0,f,C,l,R⟩=>⟨a0,f,C,l,R,l.heap J (fS a J δ δ δ)⟩
 have a5:Hid (∀X d,aA X D.β D.sv d (D.fs.wrP p c).wrS->cL 49 #[.p D.β 0] X λe w'=>e=.r (.bool ((D.fs.wrP p c).wrS.life==0))/\w'=X):=λX d a=>fH D.β D.sv d _ X a;have H:=h.box;have y:Hid (D.fs.fgZ p c=if D.fs.chOk&&(D.fs.wrP p c).chOk&&!((D.fs.wrP p c).wrS.life==0) then 0 else 9):=rfl;have A:Hid (D.fs.fg p c=if D.fs.chOk then (D.fs.wrP p c).wrS else D.fs.wrP p c):=rfl;have⟨ba,Z⟩:∃z,D.fs.fgZ p c=z:=⟨_,rfl⟩;have⟨o,V⟩:=nM (D.fs.fg p c);have⟨al,t⟩:∃b,D.fs.chOk=b:=⟨_,rfl⟩;have⟨a3,s⟩:∃o,D.fs.wrP p c=o:=⟨_,rfl⟩;have⟨am,W⟩:∃b,a3.chOk=b:=⟨_,rfl⟩;have⟨N,m⟩:∃o,a3.wrS=o:=⟨_,rfl⟩;have⟨ac,Y⟩:∃b,(N.life==0)=b:=⟨_,rfl⟩;rw[Z,s,m,t,W,Y]at y;rw[V,s,m,t]at A;rw[Z,V];rw[t,s]at a8;rw[s,m,W]at a7;rw[s,m,Y]at a5;have⟨b4,aw,ax,ay,az,b0,b1,b2,b3⟩:=pI H;have ak:bW w w.drew:=(AC _ _).drew;have G:Hid (∀X d O,aA X D.β D.sv d O->Fr (fpF D.β D.sv D.lv) w X->aO X j {D with lv:=d,fs:=O}):=λX d O C l=>h.refile C l;clear h u a1 U M ag Z V t s W m Y B;go_enter func86,ntmps86;go_wp2;refine wp_region_held_drew (S:=(λX=>X.c D.d 2=some (.p D.β 0)/\X.c D.d 3=some (.i 1)/\X.c D.d 4=some (.i D.ver)/\X.c D.d 5=some (.i D.root)/\X.c D.d 6=some (.i 0)/\X.c D.d 7=some (.s D.ka 0 D.kc)/\X.c D.d 8=some (.s D.ia 0 D.ic)/\X.c D.d 9=some (.s D.ea 0 D.ec)/\X.c D.d 10=some .e)) κ (pI H) (λI=>?_);change wpAnyH _ _ _ _ _ 27 (.replicate 27 false) _ _;apply cG.take [(0,5,.p D.d 0),(1,6,.p D.d 0),(2,7,.p D.d 2),(3,8,.p D.β 0),(4,9,.i (p:Int)),(5,10,.p D.d 0),(6,11,.p D.d 0),(7,12,.p D.d 3),(8,13,.agg #[.i 1,.i D.ver,.i D.root,.i 0,.s D.ka 0 D.kc,.s D.ia 0 D.ic,.s D.ea 0 D.ec,.e])] (n:=18) κ ψ;iterate 9 (refine⟨_,rfl,rfl,κ,λ_ _ _ h=>h,τ,?_⟩;simp only[pS])
 rw[cG];refine wH1 (i:=9) κ rfl λK g=>?_;go_simp;apply Calls.m (ai _);rintro e a9 ⟨rfl,t⟩;have E:=ak.t t;refine g _ _ (pI (E.kp H)) (λI=>?_);clear g K;try simp only[pS]
 refine wH1 (i:=10) κ rfl λK g=>?_;go_simp;apply Calls.m (a8.o a9 E);rintro e aa ⟨rfl,a2,ae,m,aq,ad⟩;refine g _ _ (pI ad) (λI=>?_);clear g K;try simp only[pS]
 have F:=(AB E).t m;have P:=(CS w _).t E.size aq;cases al
 .apply cG.take [(11,16,.bool true),(12,17,.bool true),(13,18,undef),(14,19,undef),(15,20,undef),(16,21,undef),(17,22,undef),(18,23,undef),(19,24,.bool true),(20,25,.bool true),(21,26,undef),(22,27,undef),(23,28,undef),(24,29,undef),(25,30,undef),(26,31,.bool true)] (n:=0) κ ψ;iterate 16 (refine⟨_,rfl,rfl,κ,λ_ _ _ h=>h,?_,?_⟩;first|exact τ|exact .inr ⟨by rfl,rfl⟩;simp only[pS])
  rw[cG];refine wpAnyH_done κ ?_ _;go_wp2;go_ret;obtain rfl:=y.o;obtain rfl:=A.o;exact⟨rfl,a2,D.aroot,nofun,G _ _ _ ae F,F.m (λk i=>.inl (.inr i)),P⟩
 .apply cG.take [(11,16,.bool false),(12,17,.bool false),(13,18,.p D.d 0),(14,19,.p D.d 0),(15,20,.p D.d 2),(16,21,.p D.β 0)] (n:=10) κ ψ;iterate 6 (refine⟨_,rfl,rfl,κ,λ_ _ _ h=>h,τ,?_⟩;simp only[pS])
  rw[cG];refine wH1 (i:=17) κ rfl λK g=>?_;go_simp;apply Calls.m (a7.o aa a2 ae ad);rintro e X3 ⟨rfl,v,L,ap,ar,r⟩;refine g _ _ (pI r) (λI=>?_);clear g K;try simp only[pS]
  have q:=F.grow ap P;have Q:=P.t F.size ar;cases am
  .apply cG.take [(18,23,.bool true),(19,24,.bool true),(20,25,.bool true),(21,26,undef),(22,27,undef),(23,28,undef),(24,29,undef),(25,30,undef),(26,31,.bool true)] (n:=0) κ ψ;iterate 9 (refine⟨_,rfl,rfl,κ,λ_ _ _ h=>h,?_,?_⟩;first|exact τ|exact .inr ⟨by rfl,rfl⟩;simp only[pS])
   rw[cG];refine wpAnyH_done κ ?_ _;go_wp2;go_ret;obtain rfl:=y.o;obtain rfl:=A.o;exact⟨rfl,v,D.aroot,nofun,G _ _ _ L q,q.m (λk i=>.inl (.inr i)),Q⟩
  .apply cG.take [(18,23,.bool false),(19,24,.bool false),(20,25,.bool false),(21,26,.p D.d 0),(22,27,.p D.d 0),(23,28,.p D.d 2),(24,29,.p D.β 0)] (n:=2) κ ψ;iterate 7 (refine⟨_,rfl,rfl,κ,λ_ _ _ h=>h,τ,?_⟩;simp only[pS])
   rw[cG];refine wH1 (i:=25) κ rfl λK g=>?_;go_simp;apply Calls.m (a5.o X3 v L);rintro e aj ⟨rfl,b8⟩;subst aj;refine g _ _ (pI r) (λI=>?_);clear g K;try simp only[pS]
   apply cG.take [(26,31,.bool ac)] (n:=0) κ ψ;iterate 1 (refine⟨_,rfl,rfl,κ,λ_ _ _ h=>h,τ,?_⟩;simp only[pS])
   rw[cG];refine wpAnyH_done κ ?_ _;cases ac
   .have b7:=aF r;have a4:=aC r 11 (.i (D.root:Nat));have a6:Fr (Bl.one D.d) X3 (X3.setCell (aD D.d 11) (.i (D.root:Nat))):=(AE (Bl.one D.d) X3).setCell (p:=(aD D.d 11)) (.inl rfl) _;have ah:Hid (aO (X3.setCell (aD D.d 11) (.i (D.root:Nat))) j {D with lv:=v,fs:=N,aroot:=D.root}):=(G _ _ _ L q).rebox (D':={D with lv:=v,fs:=N,aroot:=D.root}) a6 rfl rfl rfl rfl rfl rfl rfl (by simpa using a4);have⟨b4,aw,ax,ay,az,b0,b1,b2,b3⟩:=pI r;have⟨b9,b6⟩:∃x,X3.c D.d 11=some x:=⟨.i D.aroot,by simp[World.cell?,r]⟩;clear a4;go_wp2;go_ret;obtain rfl:=y.o;obtain rfl:=A.o;exact⟨rfl,v,D.root,λ_=>rfl,ah,(q.m (λk i=>.inl (.inr i))).t (a6.m (λk i=>.inl (.inl i))),Q⟩
   .go_wp2;go_ret;obtain rfl:=y.o;obtain rfl:=A.o;exact⟨rfl,v,D.aroot,nofun,G _ _ _ L q,q.m (λk i=>.inl (.inr i)),Q⟩
abbrev Wn(p:Nat):MG:=⟨p,false,0,0,0,none,none,none,0,0,0⟩
theorem yA{s}(h:¬(s.size=256/\(dG s.data.toList).encE=0/\(dG s.data.toList).encS=s))(w:World):
  cL 143 #[.t s] w λe w'=>e=.r (.tuple #[.agg #[.i 0,.i 0,.i 0,.i 0,.n,.n,.n,.e],.i 2])/\bW w w' :=
 (yB s w).m λe w' ⟨d,b⟩=>b.elim (λa=>absurd ⟨a.1,a.2.1,a.2.2.1⟩ h) (λc=>⟨c.2,d⟩)
theorem Yt(β:Nat)(sv lv:Value)(fs:Fs)(L:(fs.life==0)=false)(p:Nat)(w:World)(K:aA w β sv lv fs)(N:p<fs.safe)(o:qI (fs.at p)):
  cL 112 #[.p β 0,.i p] w λe w'=>e=.r (.agg (Wn p).cells)/\bW w w':=by
 obtain⟨b,F⟩:=nM (w.alloc meta0);have m:=F▸(bA _ _);have W:=F▸aB w _;have a2:=K.bl m;have i:=lH β sv lv fs p b a2;have Q:fs.readS p=fs.at p:=by unfold Fs.readS;simp[N,L]
 have O:(decide (p<fs.safe)&&!(fs.life==0))=true:=by simp[N,L]
 rw[Q,O]at i;clear Q O;obtain⟨a4,hi,S,T,U⟩:=FL Mo;obtain⟨f,M,q,h⟩:=KH (P:=prog) b 0 108 5 a4 (.int .u8 0) 1 underlying108 hi S T .i64 .i64 256 ω (by rw[U];omega) (by unfold maxLen;omega) (AG _);rw[xR]at q;have I:Buf f 0 (.q b 256 256) (List.replicate 256 0):=by
  unfold Buf;rw[CT];exact q
 have J:=Buf.string I;have t:bW b f:=⟨h.os,h.tape,h.output,h.size,λV n=>h.block V n σ⟩;have a9:(Instr.makeSlice 108 (.i 256) (.i 256)).run prog b=.ok (.q b 256 256) f:=M;obtain⟨l,r⟩:=nM (eA 256);have a8:(convert 108 9 (.q b 256 256)).run prog f=.ok (.t l) f:=by rw[<-r];exact J
 have k:=t.kp W;obtain⟨u,x,y,z,A,B,C,D,c8,c9⟩:=nL k;have X:=m.tm t;clear I q h J M hi S T U;have a3:((fs.at p).toList==l.toList)=false:=by rw[<-r];exact zL o.1
 obtain⟨s,R⟩:=nM (fs.at p);rw[R]at i o a3;clear r R;have E:=yA o.2 f;have a5:=(gL k);go_enter func112,ntmps112;go_wp2_with (first
  |(apply Calls.m i;rintro e a6 ⟨rfl,aa⟩;subst a6)
  |(apply Calls.m E;rintro e c ⟨rfl,H⟩;clear i E;obtain⟨a,G⟩:=nM (c.alloc (.cells #[.i 0,.i 0,.i 0,.i 0,.n,.n,.n,.e] 80));have d:=G▸aB c _;obtain⟨ab,ac,ad,ae,af,ag,ah,ai⟩:=bU d;have aj:=aF d;have al:a.setCell (aD c 0) (.i 0)=a:=cH d rfl;have am:a.setCell (aD c 1) (.i 0)=a:=cH d rfl;have an:a.setCell (aD c 2) (.i 0)=a:=cH d rfl;have ao:a.setCell (aD c 3) (.i 0)=a:=cH d rfl;have ap:a.setCell (aD c 4) .n=a:=cH d rfl;have aq:a.setCell (aD c 5) .n=a:=cH d rfl;have ar:a.setCell (aD c 6) .n=a:=cH d rfl;have au:a.setCell (aD c 7) .e=a:=cH d rfl;have g:=H.t (G▸(AC _ _).alloc H.size _);have j:=(g.block _ a5).t k;clear u x y z A B C D c8 c9;obtain⟨u,x,y,z,A,B,C,D,c8,c9⟩:=nL j;have ak:=aF j;have Y:Hid _:=g;have Z:Hid _:=j;clear g j d))
 have a7:=vR Z.o (.i p) (.bool false) (.i 0) (.i 0) (.i 0) (.i 0) .n .n .n .e;have a1:=yP a w (.i p) (.bool false) (.i 0) (.i 0) (.i 0) (.i 0) .n .n .n .e;have g:=X.t (Y.o.m ω);refine BH (v:=.agg (Wn p).cells) ?_ rfl ⟨rfl,g.t (a1.below (η g.size) (λ_=>φ))⟩;exact ER (p:=4) rfl _ _ w _ _ _ _ rfl a7 underlying136 rfl κ
theorem Lr(m:MV)(p:Nat)(b:Bool)(w:World):
  cL 113 #[.agg (if b then Wn p else m.g).cells,.agg (if b then m.g else Wn p).cells] w λe w'=>e=.r (.bool b)/\bW w w':=by
 have g:∀a c:MG,((a=m.g/\c=Wn p/\b=false)\/(a=Wn p/\c=m.g/\b=true))->cL 113 #[.agg a.cells,.agg c.cells] w λe w'=>e=.r (.bool b)/\bW w w':=by
  intro a c k;have⟨d,f⟩:=nM ((w.alloc a.obj).alloc c.obj);have j:=f▸(bA _ _).alloc σ _;have i:=f▸aP _ (aB w _);have h:d.1[w.1.size+1]?=some c.obj:=by
   rw[<-f];have:=aB (w.alloc a.obj) c.obj;simpa using this
  have⟨l,n,o,q,r,s,t,u,H,I⟩:=nL i;have⟨x,y,z,A,B,C,D,E,F,G⟩:=nL h;rcases k with⟨rfl,rfl,rfl⟩|⟨rfl,rfl,rfl⟩
  all_goals
   go_enter func113,ntmps113;go_wp2;refine BH (v:=.bool _) ?_ rfl ⟨rfl,j⟩;simp[results,results113,go_sem]
 cases b
 .exact g _ _ (.inl ⟨rfl,rfl,rfl⟩)
 .exact g _ _ (.inr ⟨rfl,rfl,rfl⟩)
theorem Ys{fs:Fs}{q v o:Nat}(x:q<2)(n:bT fs q v o)(k:qI (fs.at (1-q)))(r:1<fs.safe.length)(β:Nat)(sv lv:Value)(j:(fs.life==0)=false)(w:World)(f:aA w β sv lv fs):
  cL 83 #[.p β 0] w λe w'=>∃(m:MV) (g:MG),e=.r (.tuple #[.agg m.cells,.agg g.cells])/\bW w w'/\m.ver=v/\m.root=o/\g=Wn (1-q):=by
 have l:∀b,b<2->qI (fs.at b)->∀X,bW w X->cL 112 #[.p β 0,.i (b:Nat)] X λe w'=>∃m:MG,e=.r (.agg m.cells)/\m=Wn b/\bW X w':=λb u c X s =>
  (Yt β sv lv fs j b X (f.bl s) ω c).m λe w' ⟨t,c⟩=>⟨_,t,rfl,c⟩
 rcases(by omega:q=0\/q=1) with rfl|rfl
 .refine(qM β w _ _ false (zJ (p:=0) j f ω n) (l 1 ω k) ?_).m ?_
  .rintro _ _ ⟨a,rfl,_⟩ rfl X;exact Lr a 1 false X
  .rintro e w' ⟨m,g,rfl,c,⟨d,_⟩|⟨d,⟨q,rfl,p,h,i⟩,rfl⟩⟩
   .cases d
   .exact⟨q,_,rfl,c,h,i,rfl⟩
 .refine(qM β w _ _ true (l 0 ω k) (zJ (p:=1) j f r n) ?_).m ?_
  .rintro _ _ rfl ⟨a,rfl,_⟩ X;exact Lr a 0 true X
  .rintro e w' ⟨m,g,rfl,c,⟨d,⟨q,rfl,p,h,i⟩,rfl⟩|⟨d,_⟩⟩
   .exact⟨q,_,rfl,c,h,i,rfl⟩
   .cases d
open Go.MuLone
abbrev qRu(z:Int):List PanicEntry:=[{v:=.iface 172 (.agg #[.int .i64 z]),recovered:=true}]
theorem Pw(b z w)(f:cW w b #[.i 0] 48):
  CallsD prog 110 #[.p b 0] (.panicking (eS z)) w λe h w'=>e=.r (.tuple #[])/\h=.panicking (qRu z)/\w'=(w.alloc (.cells #[.i z] 172)).setCell (aD b 0) (.i z):=by
 obtain⟨a,c,-,i,-⟩:=al1 w (.cells #[.i z] 172);have d:=c▸aP _ f;have j:a.c w 0=some (.i z):=by simp[World.cell?,i]
 have k:a.c b 0=some (.i 0):=by simp[World.cell?,d]
 have n:=aF d;have o:∀X,(Instr.typeAssert (.iface 172 (.agg #[.i z])) 20 172 true).run prog X=.ok (.tuple #[.agg #[.i z],.bool true]) X:=λX=>by kernel_rfl
 refine callsD_of_wpS func110 rfl λm l g=>?_;apply wpS_seq;apply wpS_region;simp[wpOpsS,go_sem,recoverD,g,ntmps110,Exit.thenS];apply wpS_of_wp;simp only[jR,jO,jP,jT,jE,jF,jV,jZ,jX];go_wp2;rw[c];simp[bodyPostS,results,results110]
theorem Dy(g:Nat)(first d)(m:∀args w,(callFunc g args).run prog w=.ok (.enter g args) w)(z w)(R:World->Prop)(h:cL g (first++d) (w.alloc (.cells #[.i 0] 48)) λe w'=>e=.panicked (eS z)/\cW w' w.1.size #[.i 0] 48/\R w'):
  cL 81 #[.func (.func g) first d] w λe w'=>e=.r (.i z)/\∃W,R W/\w'=(W.alloc (.cells #[.i z] 172)).setCell (aD w 0) (.i z):=by
 have n:∀(b:Fn) (first a:Array Value) (w:World),(Instr.makeFunc b first a).run prog w=.ok (.func b first a) w:=λ_ _ _ _=>rfl;go_enter_defers func81,ntmps81;go_wp2_with (fail);apply h.m;rintro e W ⟨rfl,c,i⟩;apply JV (f:=110) (args:=#[.p w.1.size 0]) σ (by simp[go_sem]);apply(Pw w z W c).m;rintro e o p ⟨rfl,rfl,rfl⟩;have l:(W.alloc (.cells #[.i z] 172)).1[w.1.size]?=some (.cells #[.i 0] 48):=aP _ c;have j:(W.alloc (.cells #[.i z] 172)).c w 0=some (.i 0):=by simp[World.cell?,l]
 have k:((W.alloc (.cells #[.i z] 172)).setCell (aD w 0) (.i z)).c w 0=some (.i z):=World.cell?_setCell_same _ _ _ j;simp only[Leaves,settle];refine⟨.i z,?_,rfl,W,i,rfl⟩;simp[results,results81,go_sem,k]
theorem Bt(d)(g:Nat)(first c)(k:∀args w,(callFunc g args).run prog w=.ok (.enter g args) w)(z w)(R:World->Prop)(cs)(b:cW w d cs 83)(m:cs[0]?=some (.int .i32 0))(h:cL g (first++c) ((w.setCell (aD d 0) (.int .i32 1)).alloc (.cells #[.i 0] 48)) λe w'=>e=.panicked (eS z)/\cW w' w #[.i 0] 48/\(∃a,cW w' d a 83/\a[0]?=some (.int .i32 1))/\R w'):
  cL 32 #[.p d 0,.func (.func g) first c] w λe w'=>e=.r (.i z)/\∃W,R W/\w'=((W.alloc (.cells #[.i z] 172)).setCell (aD w 0) (.i z)).setCell (aD d 0) (.int .i32 0):=by
 have j:w.c d 0=some (.int .i32 0):=by simp[World.cell?,b,m]
 have l:w.frozen? (aD d 0)=false:=by simp[World.frozen?,b]
 have r:=(gL b);go_enter_defers func32,ntmps32;go_wp2_with (first
  |(go_at_call 34;apply(lock_free wO (aD d 0) _ j l).m;rintro e w' ⟨rfl,rfl⟩)
  |(apply (Dy g first c k z (w.setCell (aD d 0) (.int .i32 1)) (λw'=>(∃a,cW w' d a 83/\a[0]?=some (.int .i32 1))/\R w') (by simpa using h)).m;rintro e w' ⟨rfl,W,⟨⟨a,q,n⟩,p⟩,rfl⟩))
 have i:(W.alloc (.cells #[.i z] 172)).1[d]?=some (.cells a 83):=aP _ q;apply JV (f:=35) (args:=#[.p d 0]) σ (by simp[go_sem]);refine(unlock_deferred wO (aD d 0) .returning _ ?_ ?_).m ?_
 .rw[DU _ _ _ _ χ];simp[World.cell?,i,n]
 .rw[World.frozen?_setCell];simp[World.frozen?,i]
 rintro e s t ⟨rfl,rfl,rfl⟩;exact⟨_,NF rfl _ _ _,rfl,W,p,rfl⟩
variable {fs:Fs} {o t:Option (Nat×T)}
theorem Qx(β : Nat)(sv lv : Value)(fs d : Fs)(b : Nat)(s : Spoilt fs d b)(root : Nat)(g : Option Addr)(i h : Nat)(a : Nat)(o : Option (Nat × T))(u : List Bool)(w : World)(l : bO fs root o)(m : vE u o)(x : u.length = 4096)(k : aA w β sv lv d)(j : aY w a u)(t : b ∈ bI o)(v : ¬on u b)(f c : Nat)(n : w.1[f]? = some (.cells #[.p β 0, .i root, .s g i h] 90))(p : w.1[c]? = some (.cells #[.s (some (aD a 0)) 4096 4096] 139)):
    Calls prog 115 #[.p f 0, .p c 0] w λe w' => e = .panicked (eS 10) /\ Fr (Bl.one a) w w' := by
  have q := Ww β sv lv fs d b s root g i h a o u w l m x k j t v;obtain⟨y, z, A⟩:= eM n;have B : w.c c 0 = some (.s (some (aD a 0)) 4096 4096):= by simp[World.cell?, p]
  clear k j l m n p;go_enter func115, ntmps115;go_wp2_with (go_at_call 84; apply Calls.m q; rintro e C ⟨rfl, r⟩);exact⟨rfl, rfl, r⟩
theorem Xm(β : Nat)(sv lv : Value)(fs m : Fs)(j : Nat)(B : Spoilt fs m j)(root : Nat)(f : Option Addr)(h g : Nat)(b : Nat)(o : Option (Nat × T))(u : List Bool)(w : World)(v : bO fs root o)(x : vE u o)(H : u.length = 4096)(q : aA w β sv lv m)(s : aY w b u)(D : j ∈ bI o)(F : ¬on u j)(M : b < w):
    Calls prog 85 #[.agg #[.p β 0, .i root, .s f h g], .s (some (aD b 0)) 4096 4096] w λe w' => e = .r (.bool false) /\ Fr (Bl.one b) w w' := by
  obtain⟨a, n⟩: ∃a, (w.alloc (.cells #[.p β 0, .i root, .s f h g] 90)).alloc (.cells #[.s (some (aD b 0)) 4096 4096] 139) = a := ⟨_, rfl⟩;have i  := n ▸ (bA _ _).alloc σ _;have I := n ▸ aP _ (aB w _);have y : a.1[w.1.size + 1]? = some (.cells #[.s (some (aD b 0)) 4096 4096] 139):= by
    rw[<-n]; have := aB (w.alloc (.cells #[.p β 0, .i root, .s f h g] 90)) (.cells #[.s (some (aD b 0)) 4096 4096] 139); simpa using this
  have L  := (gL y);obtain⟨c, d⟩: ∃c, a.alloc (.cells #[.i 0] 48) = c := ⟨_, rfl⟩;have k  := d ▸ i.alloc i.size _;have l := d ▸ aB a _;have r := Qx β sv lv fs m j B root f h g b o u c v x H (q.bl k) (s.on (Y := Bl.one b) (vV k (λ_=>φ)) rfl) D F w (w + 1) (d ▸ aP _ I) (d ▸ aP _ y);have z := Dy 115 #[] #[.p w 0, .p (w + 1) 0] (λ_ _ => rfl) 10 a (λw' => Fr (Bl.one b) c w') (by
    rw[d];exact r.m λe w' ⟨C, t⟩ => ⟨C, t.heap l (λe => by simp only[Bl.one]at e; have := i.size; omega), t⟩)
  have J : Hid (a.1.size < c):= (gL l);clear r q s v x l d;go_enter func85, ntmps85;go_wp2_with (go_at_call 81; apply Calls.m z; rintro e P ⟨rfl, K, A, N⟩);go_ret;have G := i.size;refine⟨rfl, ?_⟩;exact(((AB k).t A).alloc _).setCell (p := (aD a 0)) (.inr G) _
theorem qBz{p : Nat}: ¬on (List.replicate 4096 false) p := λh => by
  unfold on at h;rw[DY]at h;split at h <;> simp at h
theorem Fz {b : Nat}{o ao : Option (Nat × T)}(h : bO fs b o)(c : bO fs b ao): o = ao := by
  cases o with
  |none => cases ao with
    |none => rfl
    |some y => obtain⟨a, _⟩:= c; have : b = 0 := h; omega
  |some x => cases ao with
    |none => obtain⟨a, _⟩:= h; have : b = 0 := c; omega
    |some y =>
      obtain⟨_, f, i⟩:= h;obtain⟨_, g, j⟩:= c;obtain⟨d, e⟩:= wY i j (f.t g.symm);obtain⟨k, l⟩:= x;obtain⟨m, n⟩:= y;simp only at d e;subst d e;rfl
theorem Ll: ∀{h : Nat}{t : T}{s : Sp}, aZ fs h t s -> ∀q ∈ T.pages h t, ∃g, fs.has q g
  |0, .leaf p es, s, ht, q, a => by
    obtain⟨g, b, _, _, _, _, f⟩:= ht
    simp only[T.pages, AS, AV]at a
    rcases a with rfl | ⟨x, hx, a⟩
    . grind
    . obtain⟨c, d, _⟩:= tB (f x hx) q a
      grind
  |0, .branch .., _, ht, _, _ => ht.elim
  |h + 1, .leaf .., _, ht, _, _ => ht.elim
  |h + 1, .branch p ks kids, s, ht, q, a => by
    obtain⟨g, b, _, _, _, _, _, e⟩:= ht
    simp only[T.pages, AS, AV]at a
    rcases a with rfl | ⟨x, hx, a⟩
    . grind
    . obtain⟨j, i⟩:= lL (s := s) (ks := ks) hx
      exact Ll (e _ i) q a
theorem Gw {c : Nat}{x : Option (Nat × T)}(h : bO fs c x){q : Nat}(a : q ∈ bI x): ∃g, fs.has q g := by
  cases x with
  |none => simp[bI]at a
  |some y => obtain⟨_, _, b⟩:= h; exact Ll b q a
theorem Tr.good (h:Tr [] fs o){p:Nat}(e:p∈bI o)(b:qH (fs.at p)):False:=by
 obtain⟨g,_,a,c,d,_⟩:=Gw h.rooted e;exact b ⟨a,c,d⟩
theorem qDu {o ao:Option (Nat×T)}(f:Tr [] fs o)(b:Tr [] fs ao)(d:(fs.life==0)=false){β:Nat}{sv:Value}(g:Value)(X:World)(a:Nat)(n:aA X β sv g fs)(p:aY X a (marks (List.replicate 4096 false) (bI o))):cL 85 #[.agg #[.p β 0,.i (rootOf ao:Nat),.n],.q a 4096 4096] X λe w'=>e=.r (.bool true)/\Fr (Bl.one a) X w' :=
 (Xn β sv g fs d (rootOf ao) none 0 0 a ao _ X b.rooted (uK b.rooted f.rooted (by rw[CT];exact n.small) (pA _ _)) (by rw[fJ,CT]) n p p.lt).m λe w' ⟨n,_,c⟩=>⟨n,c⟩
theorem Pf (r:qE fs.safe t)(j:fs.late=[])(p:(fs.life==0)=false):∃b e,b∈bI t/\Spoilt e fs b/\Tr [] e t/\e.safe.length=fs.safe/\∀o,Tr [] fs o->Tr [] e o/\b ∉ bI o:=by
 obtain⟨b,c,u,l,k,s⟩:=r
 have f:∀a,fs.at a=fs.safe.getD a ⟨#[]⟩:=λa=>by unfold Fs.at;rw[j];rfl
 have n:∀a,a≠b->fs.at a=({fs with safe:=fs.safe.set b c}:Fs).at a:=λa i=>by
  rw[f];show _=Fs.at _ a;unfold Fs.at;rw[j];show _=(fs.safe.set b c).getD a _;rw[yM _ _ _ _ l,AQ i]
 refine⟨b,{fs with safe:=fs.safe.set b c},u,⟨⟨by show fs.safe.length=(fs.safe.set b c);rw[BQ],p,n⟩,ζ,ζ⟩,s.stays (λa _ g d=>⟨d.1,?_⟩),BQ,λo m=>?_⟩
 .have:=d.2;rw[qD]at this;show yE (Fs.at _ a) g;unfold Fs.at;rw[j];exact this
 .have hn:b ∉ bI o:=λh=>m.good h ζ
  exact⟨m.stays (λa i g d=>⟨by show a<(fs.safe.set b c);rw[BQ];exact d.1,by rw[<-n a (λq=>hn (q▸i))];exact d.2⟩),hn⟩
theorem wC {safe:List ByteArray}(c:qE safe t)(f:Tr [] (bare safe) o)(e:rootOf t=rootOf o):False:=by
 obtain⟨j,i,g,_,d,_,h⟩:=Pf (fs:=bare safe) c rfl rfl
 obtain⟨a,b⟩:=h o f
 exact b (Fz (by rw[<-e];exact d.rooted) a.rooted▸g)
theorem Qw (q:Tr [] fs o)(j:qE fs.safe t)(l:fs.late=[])(c:(fs.life==0)=false){β:Nat}{sv:Value}(g:Value)(X:World)(a:Nat)(n:aA X β sv g fs)(p:aY X a (marks (List.replicate 4096 false) (bI o))):cL 85 #[.agg #[.p β 0,.i (rootOf t:Nat),.n],.q a 4096 4096] X λe w'=>e=.r (.bool false)/\Fr (Bl.one a) X w':=by
 obtain⟨u,d,s,k,b,m,h⟩:=Pf j l c
 obtain⟨f,i⟩:=h o q
 exact Xm β sv g d fs u k (rootOf t) none 0 0 a t _ X b.rooted (uK b.rooted f.rooted (by rw[CT,m];exact n.small) (pA _ _)) (by rw[fJ,CT]) n p s (λr=>(rC.1 r).elim qBz (λh=>i h.1)) p.lt
theorem qFq {q v v' d f:Nat}(b:q=v % 2)(g:bT fs q v d)(l:bT fs (1-q) v' f)(n:v'+1=v)(i:1<fs.safe.length)(β:Nat)(sv lv:Value)(k:(fs.life==0)=false)(w:World)(j:aA w β sv lv fs):
  cL 83 #[.p β 0] w λe w'=>∃m a:MV,e=.r (.tuple #[.agg m.cells,.agg a.cells])/\bW w w'/\m.ver=v/\m.root=d/\a.root=f/\a.p=1-q:=by
 rcases EG v with h|h
 .rw[h]at b;subst b;apply(iJ β sv lv fs k v d v' f w j i g l).m;grind
 .rw[h]at b;subst b;apply(iJ β sv lv fs k v' f v d w j i l g).m;grind
