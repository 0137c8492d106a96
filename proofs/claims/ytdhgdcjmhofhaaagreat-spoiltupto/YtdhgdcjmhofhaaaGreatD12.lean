import Derived.Test.YtdhgdcjmhofhaaaGreatD11
import Derived.Deep.CutBlock
import Derived.Deep.RegionLaw
set_option linter.all false
set_option maxRecDepth 100000
set_option maxHeartbeats 8000000
namespace Go.Proofs.YtdhgdcjmhofhaaaGreat.Pages
open Go.RowKit Tryz
variable {a:Nat} {b c l:List UInt8} {n:Int} {s:ByteArray}
abbrev qRk(ve:Value):Obj:=.cells #[.int .i64 3,.int .i64 0,.int .i64 0,.int .i64 0,.slice none 0 0,.slice none 0 0,ve,.string ⟨#[]⟩] 80
theorem Rd.drew {w ρ g c}(h:Rd w ρ g c b a):Rd w.drew ρ g c b a:=⟨h.box,h.bytes,h.ne,h.lt,h.le,h.len,h.cap⟩
theorem Ee{ops:Array Oper}{o:Oper}{a:Act}{K:Act->World->Prop}{Q:Exit->Act->World->Prop}{F:Prop}(w)(i:o.guard=none)(b x)(m:o.op=.call {callee:=.builtin .append,args:=#[b,x],argTypes:=#[67,67]})(B es v)(p:a.eval b=v)(d:gN w B v es)(f:B<=w)(k)(r:a.eval x=.q w 1 1)(D:es.length+1<=4294967296)(h:∀v' w',gN w' B v' (es++[k])->Below B w w'->K (a.put o.dst v') w'):
    if Region.wanted o (yielded ops a.tmps)=true then Oper.wp prog o a (w.alloc (.cells #[.t k.key,.t k.val,.i k.size,.i k.over] 69)) K Q else F:=by
  have q:Region.wanted o (yielded ops a.tmps)=true:=by simp[Region.wanted,i]
  rw[AU q];have⟨y,j,s,t,u⟩:=info_parts qCo;apply wp_append_own _ b x 67 m B 69 y (.agg #[.e,.e,.i 0,.i 0]) 4 48 underlying67 j s t u rfl δ v es (es.flatMap Ent.cells) p (d.alloc _) (aD w 0) 1 1 k.cells r rfl (Zx _ _ _ _ _ _) (by intro E c;simp[Ent.cells]at c;rcases c with rfl|rfl|rfl|rfl<;>rfl) (by unfold maxLen;omega) ω χ;intro A C n g _;refine h A C ?_ (((AC B w).alloc f _).grown g χ (λz l=>(EQ (w:=w) d z l).1));unfold gN;rw[BS,CC];have e : [k].flatMap Ent.cells=k.cells:=σ;rw[e];exact n
theorem qEp(s w)(hs:s.size=256)(hk:(s.data.toList.getD 0 0).toNat=3)(p)(hp:p=bD s.data.toList 0 1)(m)(hm:m=(s.data.toList.getD p 0).toNat)(P)(hP:P=bD s.data.toList p 1):
    cL 166 #[.t s] w λe w'=>∃ ve,e=.r (.agg #[.i 3,.i 0,.i 0,.i 0,.n,.n,ve,.e]) ∧
      gN w' w ve (gD s.data.toList P m)∧bW w w':=by
  have⟨c,v,hcv,hvs,hrd,hzz,hbb⟩:=qY s w hs;have⟨l,hbs⟩:∃ l,l=s.data.toList:=⟨_,rfl⟩;rw [← hbs] at hrd hk hm hp hP ⊢;have hN:=lN _ _ _ _ _ _ hrd;rw [hk,← hp] at hN;have hM:=λw2 (h2:Rd w2 (w+1+1) (w+1) c l p)=>lN _ _ _ _ _ _ h2;rw [← hm,← hP] at hM;have hmt:m<256:=by rw [hm];exact(l.getD p 0).toNat_lt
  clear hs hp hk hbs hm hP;go_enter func166,ntmps166;go_upto_region 4 with(apply hN.m;rintro e w1 ⟨rfl,hr1,ho1⟩);have hE1:=aB w1 (mD 3);have hγ:=DT hr1.lt';have hγg:=DT hr1.lt;have hγz:w.1.size<w1:=by have:=hr1.lt;omega
  have hγ':=hr1.lt';have hM1:=hM _ (hr1.alloc (mD 3));have ho0:=(eD.refl (w+1+1) w1).alloc (mD 3);clear hM hN hcv;go_wp2_with (apply hM1.m;rintro e w2 ⟨rfl,hr2,ho2⟩;have hE2:=ho2.keep hγ hE1;have hO2:=ho0.t ho2);go_loopw [29] (λi wr=>∃ (j:Nat) (ve:Value),j≤m∧i=.i j∧wr.1[w1.1.size]?=some (qRk ve)∧gN wr (w1+1) ve (gD l P j)∧Rd wr (w+1+1) (w+1) c l (nF l P j)∧eD (w+1+1) w1 wr) (λi _=>m-(intOf i).toNat)
  case atStart=>exact⟨0,.n,AG _,rfl,hE2,gN.nil _ _,hr2,hO2⟩
  case round =>
    clear hr2 hE2 hO2 ho2 hM1 ho0 hE1;obtain⟨j,ve,hj,rfl,hE,hes,hr,ho⟩:=hrel;obtain⟨ea,ec,rfl⟩:=hes.slice;have⟨c0,c1,c2,c3,c4,c5,c6,c7⟩:=bU hE;by_cases hlt:j<m
    . have hX:=λu (hu:Rd u (w+1+1) (w+1) c l (nF l P j))=>qAe _ _ _ _ _ _ hu
      have hen:=qAc l P j;have hlen:(gD l P j).length=j:=by simp [gD]
      have hpos:Eg l (nF l P j)=nF l P (j+1):=rfl;rw [hpos] at hX;have⟨E,hEE⟩:∃ E,E=tM l (nF l P j):=⟨_,rfl⟩;rw [← hEE] at hX hen;have HK:Hid _:=hen;clear hen hEE hpos;have lk:(gD l P j).length+1≤4294967296:=ω;have hsz:=(CK.1 hE).1;clear hlen;go_wp2_with (fail);go_region_law (first|(go_simp;go_at_call 179;apply(hX _ (by first|exact hr|exact hr.drew|exact hr.drew.drew|exact hr.drew.drew.drew)).m;rintro e w3 ⟨rfl,hr3,ho3⟩;have ho3':eD (w+1+1) wr w3:=⟨ho3.os,ho3.tape,ho3.output,ho3.size,ho3.block⟩;have hE3:=ho3'.keep hγ hE;have⟨d0,d1,d2,d3,d4,d5,d6,d7⟩:=bU hE3;have hf3:=aF hE3;have hq6:=(bU (eZ (x:=.cells #[.t E.key,.t E.val,.i E.size,.i E.over] 69) hE3)).2.2.2.2.2.2.1;have hes3:=hes.only ho3' ω;have hs3:=CF hsz ho3'.size)|(apply Ee w3 rfl (.tmp 32) (.tmp 34) rfl (w1+1) (gD l P j) (.s ea (gD l P j) ec) (by simp [Act.eval,Act.put]) hes3 hs3 E (by simp [Act.eval,Act.put]) lk;intro v4 w4 hes4 hb4;obtain⟨ea4,ec4,rfl⟩:=hes4.slice;have hE4:=(hb4.block w1 (DJ _)).t hE3;have⟨g0,g1,g2,g3,g4,g5,g6,g7⟩:=bU hE4;have hf4:=aF hE4));all_goals go_wp2
      all_goals go_roundw
      all_goals first
        | (exact(by simp [intOf];omega))
        | (refine⟨j+1,.s ea4 (gD l P j++[E]).length ec4,ω,ν,?_,by rw [HK.o];exact hes4.set (DJ _) 6 _,(hr3.below hb4 ω ω).set hγ hγg 6 _,((ho.t ho3').below hb4 (DM _)).set (CB _) 6 _⟩;have h5:=aC hE4 6 (.s ea4 (gD l P j++[E]).length ec4);simpa using h5)
        | (repeat apply Exists.intro
           exact⟨⟨j+1,.s ea4 (gD l P j++[E]).length ec4,ω,ν,aC hE4 6 (.s ea4 (gD l P j++[E]).length ec4),by rw [HK.o];exact hes4.set (DJ _) 6 _,(hr3.below hb4 ω ω).set hγ hγg 6 _,((ho.t ho3').below hb4 (DM _)).set (CB _) 6 _⟩,rfl⟩)
    . obtain rfl:j=m:=ω
      have hZ:=ho.keep ω (ho1.keep ω hzz);have⟨z0,z1,z2,z3,z4,z5,z6,z7⟩:=bU hZ;have hf3:=aF hZ;have⟨y0,y1,y2,y3,y4,y5,y6,y7⟩:=bU (yN hZ (.i 3) (.i 0) (.i 0) (.i 0) .n .n (.s ea (gD l P j) ec) .e);have hlz:w.1.size<w1+1:=ω;go_wp2;refine BH (v:=.agg #[.i 3,.i 0,.i 0,.i 0,.n,.n,.s ea (gD l P j) ec,.e]) ?_ rfl ⟨_,rfl,(((((((((hes.set hlz 0 (.i 3)).set hlz 1 (.i 0)).set hlz 2 (.i 0)).set hlz 3 (.i 0)).set hlz 4 .n).set hlz 5 .n).set hlz 6 (.s ea (gD l P j) ec)).set hlz 7 .e).m (B':=w) ω),qC (pJ hbb (ho1.t ho) ω (by rw [fV];omega)) (β:=w.1.size) (CB _) (.i 3) (.i 0) (.i 0) (.i 0) .n .n (.s ea (gD l P j) ec) .e⟩;simp [results,results166,go_sem,y0,y1,y2,y3,y4,y5,y6,y7]
structure Pg where
 kind:Int
 ver:Int
 root:Int
 next:Int
 keys:List ByteArray
 kids:List Int
 ents:List Ent
 data:ByteArray
def kJ(bs:List UInt8)(k:Nat):Pg :=
 if k=1 then ⟨1,wrap64 (iR bs (bD bs 0 1) 8),(iR bs (bD bs (bD bs 0 1) 8) 2:Nat),0,[],[],[],⟨#[]⟩⟩
 else if k=2 then ⟨2,0,0,0,lS bs (bD bs (bD bs (bD bs 0 1) 1) (2 * ((bs.getD (bD bs 0 1) 0).toNat+1))) (bs.getD (bD bs 0 1) 0).toNat,mE bs (bD bs (bD bs 0 1) 1) ((bs.getD (bD bs 0 1) 0).toNat+1),[],⟨#[]⟩⟩
 else if k=3 then ⟨3,0,0,0,[],[],gD bs (bD bs (bD bs 0 1) 1) (bs.getD (bD bs 0 1) 0).toNat,⟨#[]⟩⟩
 else if k=4 then ⟨4,0,0,(iR bs (bD bs 0 1) 2:Nat),[],[],[],⟨(oO bs (bD bs (bD bs 0 1) 2)).toArray⟩⟩
 else ⟨(k:Nat),0,0,0,[],[],[],⟨#[]⟩⟩
def dG(bs:List UInt8):Pg:=kJ bs (bs.getD 0 0).toNat
def qHp(w:World)(B:Nat)(g:Pg)(v:Value):Prop :=
 ∃vk vi ve,v=.agg #[.int .i64 g.kind,.int .i64 g.ver,.int .i64 g.root,.int .i64 g.next,vk,vi,ve,.string g.data]/\Keys w B vk g.keys/\Ints w B vi g.kids/\gN w B ve g.ents
theorem lH(s w)(f:s.size=256):
  cL 166 #[.t s] w λe w'=>∃v,e=.r v/\qHp w' w (dG s.data.toList) v/\bW w w':=by
 have⟨c,d⟩:∃c,(s.data.toList.getD 0 0).toNat=c:=⟨_,rfl⟩;unfold dG;rw[d];by_cases h1:c=1
 .subst h1;rw[show kJ s.data.toList 1=_ from AU rfl];exact(qEo s w f d).m λg w' ⟨b,a⟩=>⟨_,b,⟨_,_,_,rfl,Keys.nil _ _,Ints.nil _ _,gN.nil _ _⟩,a⟩
 by_cases h2:c=2
 .subst h2;rw[show kJ s.data.toList 2=_ from (AQ ω).t (AU rfl)];exact(Rp s w f d _ rfl _ rfl _ rfl).m λg w' ⟨m,l,b,j,i,a⟩=>⟨_,b,⟨_,_,_,rfl,j,i,gN.nil _ _⟩,a⟩
 by_cases h3:c=3
 .subst h3;rw[show kJ s.data.toList 3=_ from (AQ ω).t ((AQ ω).t (AU rfl))];exact(qEp s w f d _ rfl _ rfl _ rfl).m λg w' ⟨k,b,h,a⟩=>⟨_,b,⟨_,_,_,rfl,Keys.nil _ _,Ints.nil _ _,h⟩,a⟩
 by_cases h4:c=4
 .subst h4;rw[show kJ s.data.toList 4=_ from (AQ ω).t ((AQ ω).t ((AQ ω).t (AU rfl)))];exact(qEm s w f d).m λg w' ⟨b,a⟩=>⟨_,b,⟨_,_,_,rfl,Keys.nil _ _,Ints.nil _ _,gN.nil _ _⟩,a⟩
 rw[show kJ s.data.toList c=_ from (AQ h1).t ((AQ h2).t ((AQ h3).t (AQ h4)))];exact(qEn s w f c d h1 h2 h3 h4).m λg w' ⟨b,a⟩=>⟨_,b,⟨_,_,_,rfl,Keys.nil _ _,Ints.nil _ _,gN.nil _ _⟩,a⟩
theorem nQ{w:World}{B:Nat}{e:TypeId}{z:Nat}{v:Value}{n:Nat}{xs:List Value}(h:w.ownsRow B e z v n xs):∃a c,v=.s a n c/\fI w w a xs:=by
 have⟨j,d⟩:=id h;rcases d with⟨rfl,rfl⟩|⟨g,o,p,rfl,_⟩
 .exact⟨none,0,rfl,.inl (AH ω)⟩
 .refine⟨_,_,rfl,.inr ⟨g,0,rfl,((EQ (w:=w) h) g rfl).2,λb m l=>?_⟩⟩;have:=(λg i=>DH (w:=w) h (g:=g) i) g rfl b m l;have e:((aD g 0):Addr).add b=(aD g (0+b)):=by unfold Addr.add;split<;>simp_all
  grind
theorem vA(s w)(m:s.size≠256):
  cL 143 #[.t s] w λe w'=>e=.r (.tuple #[.agg #[.i 0,.i 0,.i 0,.i 0,.n,.n,.n,.e],.i 2])/\bW w w':=by
 have k:((s.size:Int) != 256)=true:=χ
 have l:((s.size:Int)==256)=false:=χ
 go_enter func143,ntmps143;have⟨b,c,d,f,g,h,i,j⟩:=bU (aB w iN);go_wp2;refine BH (v:=.tuple #[.agg #[.i 0,.i 0,.i 0,.i 0,.n,.n,.n,.e],.i 2]) ?_ rfl ⟨rfl,(AC _ w).alloc (CB _) _⟩;simp[results,results143,go_sem,b,c,d,f,g,h,i,j]
def Pg.encS(g:Pg):ByteArray:=Pages.encS g.kind g.ver g.root g.next g.keys g.kids g.ents g.data
def Pg.encE(g:Pg):Int:=Pages.cV g.kind g.ver g.root g.next g.keys g.kids g.ents g.data
def Pg.small(g:Pg):Prop:=Small g.keys g.kids g.ents g.data
theorem zL{a b:ByteArray}(h:a≠b):(a.toList==b.toList)=false:=by
 apply ME.2;intro d;have c:=by simpa using d
 rw[ByteArray.toList_eq,ByteArray.toList_eq]at c;exact h (FZ (Array.toList_inj.1 c))
theorem Mc{a b:ByteArray}(h:a=b):(a.toList==b.toList)=true:=by rw[h];simp
abbrev oZ(G:Pg)(ka ia ea:Option Addr)(kc ic ec:Nat):Obj:=.cells #[.int .i64 G.kind,.int .i64 G.ver,.int .i64 G.root,.int .i64 G.next,.slice ka G.keys.length kc,.slice ia G.kids.length ic,.slice ea G.ents.length ec,.string G.data] 80
theorem yA(s w)(u:s.size=256)(r:(dG s.data.toList).small)(o:(dG s.data.toList).encE≠0):
  cL 143 #[.t s] w λe w'=>e=.r (.tuple #[.agg #[.i 0,.i 0,.i 0,.i 0,.s none 0 0,.s none 0 0,.s none 0 0,.e],.i 2])/\bW w w':=by
 have a1:((s.size:Int) != 256)=false:=χ
 have l:=lH s (w.alloc iN) u;have t:=aB w iN;have G:=fV w iN;have F:bW w (w.alloc iN):=(AC _ w).alloc (CB _) _;obtain⟨a,p⟩:∃a,a=dG s.data.toList:=⟨_,rfl⟩;rw[<-p]at l r o;rw[G]at l;clear u p;go_enter func143,ntmps143;go_upto_region 4 with(go_at_call 166;refine l.m ?_;rintro e b ⟨v,rfl,⟨a7,a6,a5,rfl,C,B,A⟩,m⟩;obtain⟨h,i,rfl,J⟩:=nQ C;obtain⟨f,g,rfl,I⟩:=nQ B;obtain⟨c,d,rfl,H⟩:=nQ A);have k:bW b (b.alloc (oZ a h f c i g d)):=(AC _ b).alloc (CB _) _;have a4:=fV b (oZ a h f c i g d);have D:=aB b (oZ a h f c i g d);have q:=eZ (x:=oZ a h f c i g d) ((m.block w σ).t t);have a3:=(CK.1 ((m.block w σ).t t)).1;generalize hw2:b.alloc (oZ a h f c i g d)=w2 at *;have z:=sZ a.kind a.ver a.root a.next h f c i g d a.data a.keys a.kids a.ents w2 ((J.below k).m ω) ((I.below k).m ω) ((H.below k).m ω) r;obtain⟨S,T,U,V,W,X,Y,Z⟩:=bU D;have a0:(Pages.cV a.kind a.ver a.root a.next a.keys a.kids a.ents a.data != 0)=true:=by simpa[Pg.encE] using o
 generalize Pages.cV a.kind a.ver a.root a.next a.keys a.kids a.ents a.data=EE at *;generalize Pages.encS a.kind a.ver a.root a.next a.keys a.kids a.ents a.data=SS at *;have y:=(F.t (m.m ω)).t (k.m ω);go_wp2_with (go_at_call 146;refine z.m ?_;rintro e a8 ⟨rfl,n⟩;have j:=(n.block w ω).t q;obtain⟨a9,aa,ab,ac,ad,ae,af,ag⟩:=bU j;have a2:=aF j);have j:=(n.block w ω).t q;have E:=yN j (.i 0) (.i 0) (.i 0) (.i 0) (.s none 0 0) (.s none 0 0) (.s none 0 0) .e;obtain⟨K,L,M,N,O,P,Q,R⟩:=bU E;refine BH (v:=.tuple #[.agg #[.i 0,.i 0,.i 0,.i 0,.s none 0 0,.s none 0 0,.s none 0 0,.e],.i 2]) ?_ rfl ⟨rfl,qC (y.t (n.m ω)) (β:=w) (CB _) (.i 0) (.i 0) (.i 0) (.i 0) (.s none 0 0) (.s none 0 0) (.s none 0 0) .e⟩;simp[results,results143,go_sem,K,L,M,N,O,P,Q,R]
theorem Pp(s w)(y:s.size=256)(t:(dG s.data.toList).small)(o:(dG s.data.toList).encE=0)(r:(dG s.data.toList).encS≠s):
  cL 143 #[.t s] w λe w'=>e=.r (.tuple #[.agg #[.i 0,.i 0,.i 0,.i 0,.s none 0 0,.s none 0 0,.s none 0 0,.e],.i 2])/\bW w w':=by
 have a3:((s.size:Int) != 256)=false:=χ
 have l:=lH s (w.alloc iN) y;have u:=aB w iN;have I:=fV w iN;have H:bW w (w.alloc iN):=(AC _ w).alloc (CB _) _;obtain⟨a,p⟩:∃a,a=dG s.data.toList:=⟨_,rfl⟩;rw[<-p]at l t o r;rw[I]at l;clear y p;go_enter func143,ntmps143;go_upto_region 4 with(go_at_call 166;refine l.m ?_;rintro e b ⟨v,rfl,⟨a9,a8,a7,rfl,E,D,C⟩,m⟩;obtain⟨h,i,rfl,L⟩:=nQ E;obtain⟨f,g,rfl,K⟩:=nQ D;obtain⟨c,d,rfl,J⟩:=nQ C);have k:bW b (b.alloc (oZ a h f c i g d)):=(AC _ b).alloc (CB _) _;have a6:=fV b (oZ a h f c i g d);have F:=aB b (oZ a h f c i g d);have q:=eZ (x:=oZ a h f c i g d) ((m.block w σ).t u);have a5:=(CK.1 ((m.block w σ).t u)).1;generalize hw2:b.alloc (oZ a h f c i g d)=w2 at *;clear hw2;have B:=sZ a.kind a.ver a.root a.next h f c i g d a.data a.keys a.kids a.ents w2 ((L.below k).m ω) ((K.below k).m ω) ((J.below k).m ω) t;obtain⟨U,V,W,X,Y,Z,a0,a1⟩:=bU F;have z:Pages.cV a.kind a.ver a.root a.next a.keys a.kids a.ents a.data=0:=o;have a2:((Pages.encS a.kind a.ver a.root a.next a.keys a.kids a.ents a.data).toList==s.toList)=false:=zL r;generalize Pages.cV a.kind a.ver a.root a.next a.keys a.kids a.ents a.data=EE at *;generalize Pages.encS a.kind a.ver a.root a.next a.keys a.kids a.ents a.data=SS at *;subst z;have A:=(H.t (m.m ω)).t (k.m ω);go_wp2_with (go_at_call 146;refine B.m ?_;rintro e aa ⟨rfl,n⟩;have j:=(n.block w ω).t q;obtain⟨ab,ac,ad,ae,af,ag,ah,ai⟩:=bU j;have a4:=aF j);have j:=(n.block w ω).t q;have G:=yN j (.i 0) (.i 0) (.i 0) (.i 0) (.s none 0 0) (.s none 0 0) (.s none 0 0) .e;obtain⟨M,N,O,P,Q,R,S,T⟩:=bU G;refine BH (v:=.tuple #[.agg #[.i 0,.i 0,.i 0,.i 0,.s none 0 0,.s none 0 0,.s none 0 0,.e],.i 2]) ?_ rfl ⟨rfl,qC (A.t (n.m ω)) (β:=w) (CB _) (.i 0) (.i 0) (.i 0) (.i 0) (.s none 0 0) (.s none 0 0) (.s none 0 0) .e⟩;simp[results,results143,go_sem,M,N,O,P,Q,R,S,T]
theorem Vg(s w)(F:s.size=256)(D:(dG s.data.toList).small)(r:(dG s.data.toList).encE=0)(B:(dG s.data.toList).encS=s):
  cL 143 #[.t s] w λe w'=>∃v,e=.r (.tuple #[v,.i 0])/\qHp w' w (dG s.data.toList) v/\bW w w':=by
 have aj:((s.size:Int) != 256)=false:=χ
 have p:=lH s (w.alloc iN) F;have E:=aB w iN;have Q:=fV w iN;have P:bW w (w.alloc iN):=(AC _ w).alloc (CB _) _;obtain⟨a,u⟩:∃a,a=dG s.data.toList:=⟨_,rfl⟩;rw[<-u]at p D r B⊢;rw[Q]at p;clear F u;go_enter func143,ntmps143;go_upto_region 4 with(go_at_call 166;refine p.m ?_;rintro e i ⟨v,rfl,⟨ap,ao,an,rfl,z,y,t⟩,q⟩;obtain⟨g,h,rfl,T⟩:=nQ z;obtain⟨d,f,rfl,S⟩:=nQ y;obtain⟨b,c,rfl,R⟩:=nQ t);have k:bW i (i.alloc (oZ a g d b h f c)):=(AC _ i).alloc (CB _) _;have am:=fV i (oZ a g d b h f c);have C:=aB i (oZ a g d b h f c);have A:=eZ (x:=oZ a g d b h f c) ((q.block w σ).t E);have al:=(CK.1 ((q.block w σ).t E)).1;generalize hw2:i.alloc (oZ a g d b h f c)=w2 at *;clear hw2;have K:=sZ a.kind a.ver a.root a.next g d b h f c a.data a.keys a.kids a.ents w2 ((T.below k).m ω) ((S.below k).m ω) ((R.below k).m ω) D;obtain⟨a2,a3,a4,a5,a6,a7,a8,a9⟩:=bU C;have G:Pages.cV a.kind a.ver a.root a.next a.keys a.kids a.ents a.data=0:=r;have ai:((Pages.encS a.kind a.ver a.root a.next a.keys a.kids a.ents a.data).toList==s.toList)=true:=Mc B;generalize Pages.cV a.kind a.ver a.root a.next a.keys a.kids a.ents a.data=EE at *;generalize Pages.encS a.kind a.ver a.root a.next a.keys a.kids a.ents a.data=SS at *;subst G;have I:=(P.t (q.m ω)).t (k.m ω);go_wp2_with (go_at_call 146;refine K.m ?_;rintro e n ⟨rfl,l⟩;have m:=(l.block w ω).t A;obtain⟨aq,ar,au,av,aw,ax,ay,az⟩:=bU m;have ak:=aF m;have N:=(l.block i ω).t C;obtain⟨aa,ab,ac,ad,ae,af,ag,ah⟩:=bU N);have m:=(l.block w ω).t A;have O:=yN m (.i a.kind) (.i a.ver) (.i a.root) (.i a.next) (.s g a.keys h) (.s d a.kids f) (.s b a.ents c) (.t a.data);obtain⟨U,V,W,X,Y,Z,a0,a1⟩:=bU O;have j:w.1.size<w+1:=DJ _;have o:=k.t (l.m ω);have M:=z.below o;have L:=uH y (eD.of_below (ρ:=0) o |> λH=>H) ω;have J:=t.only (eD.of_below (ρ:=0) o) ω;refine BH (v:=.tuple #[.agg #[.i a.kind,.i a.ver,.i a.root,.i a.next,.s g a.keys h,.s d a.kids f,.s b a.ents c,.t a.data],.i 0]) ?_ rfl ⟨_,rfl,⟨_,_,_,rfl,uJ (zA M j (.i a.kind) (.i a.ver) (.i a.root) (.i a.next) (.s g a.keys h) (.s d a.kids f) (.s b a.ents c) (.t a.data)) ω,uJ (zA L j (.i a.kind) (.i a.ver) (.i a.root) (.i a.next) (.s g a.keys h) (.s d a.kids f) (.s b a.ents c) (.t a.data)) ω,((((((((J.set j 0 _).set j 1 _).set j 2 _).set j 3 _).set j 4 _).set j 5 _).set j 6 _).set j 7 _).m ω⟩,qC (I.t (l.m ω)) (β:=w) (CB _) (.i a.kind) (.i a.ver) (.i a.root) (.i a.next) (.s g a.keys h) (.s d a.kids f) (.s b a.ents c) (.t a.data)⟩;simp[results,results143,go_sem,U,V,W,X,Y,Z,a0,a1]
theorem pY{a:Type}(f:a->List UInt8)(c):∀(l:List a),(∀x∈l,(f x).length<=c)->(l.flatMap f).length<=l.length * c
 |[],_=>by simp
 |x :: l,h=>by
  have e:=h x σ;have g:=pY f c l (λd b=>h d (by simp[b]));rw[AK,CC,FD,MF];omega
theorem Mm(b a n):(lS b a n)=n:=by simp[lS]
theorem Ml(b a n):(mE b a n)=n:=by simp[mE]
theorem My(b a n):(gD b a n)=n:=by simp[gD]
theorem yH(b a):(oO b a).length<=255:=by
 have:=(b.getD a 0).toNat_lt;unfold oO;grind
theorem nU(k n):(beB k n)=k:=aK k n
theorem zI(l:List UInt8):(⟨l.toArray⟩:ByteArray).size=l:=by rfl
theorem Fu {c:Nat}(h:s<=c):(eF s)<=c+1:=by
 unfold eF;simp_all
theorem qOt(b a):(tM b a).key.size<=255/\(tM b a).val.size<=255:=by
 unfold tM;split
 .exact⟨by rw[zI];exact yH _ _,by rw[zI];exact yH _ _⟩
 .exact⟨by rw[zI];exact yH _ _,AG _⟩
theorem qMq{e:Ent}(h:e.key.size<=255/\e.val.size<=255):e.bytes.length<=600:=by
 have a:=Fu h.1;have b:=Fu h.2;unfold Ent.bytes mY;rw[CC];split
 .grind
 .rw[CC,CC,nU,nU];simp;omega
theorem uC(a):(dG a).small:=by
 have o:=(a.getD (bD a 0 1) 0).toNat_lt;have g:∀d:ByteArray,d.size<=255->Small [] [] [] d:=λd n=>⟨σ,σ,σ,σ,by simp[eU,nU],by simp[nI,nU],ω⟩;unfold dG kJ;split
 .exact g _ (AG _)
 split
 .have h:(lS a (bD a (bD a (bD a 0 1) 1) (2 * ((a.getD (bD a 0 1) 0).toNat+1))) (a.getD (bD a 0 1) 0).toNat).length<=255:=by rw[Mm];omega
  have l:(mE a (bD a (bD a 0 1) 1) ((a.getD (bD a 0 1) 0).toNat+1)).length<=256:=by rw[Ml];omega
  refine⟨CF h ω,CF l ω,σ,σ,?_,by simp[nI,nU],AG _⟩;unfold eU;have j:=pY (beB 2) 2 (mE a (bD a (bD a 0 1) 1) ((a.getD (bD a 0 1) 0).toNat+1)) (λi _=>by rw[nU];omega);have m:=pY eF 256 (lS a (bD a (bD a (bD a 0 1) 1) (2 * ((a.getD (bD a 0 1) 0).toNat+1))) (a.getD (bD a 0 1) 0).toNat) (λi c=>by
   simp only[lS,AY]at c;obtain⟨k,_,rfl⟩:=c;exact Fu (by rw[zI];exact yH _ _))
  rw[CC,CC,nU];grind
 split
 .have h:(gD a (bD a (bD a 0 1) 1) (a.getD (bD a 0 1) 0).toNat).length<=255:=by rw[My];omega
  have f:∀b∈gD a (bD a (bD a 0 1) 1) (a.getD (bD a 0 1) 0).toNat,b.key.size<=255/\b.val.size<=255:=λi c=>by
   simp only[gD,AY]at c;obtain⟨k,_,rfl⟩:=c;exact qOt _ _
  refine⟨σ,σ,CF h ω,λb e=>⟨CF (f b e).1 ω,CF (f b e).2 ω⟩,by simp[eU,nU],?_,AG _⟩;unfold nI;have j:=pY Ent.bytes 600 _ (λb e=>qMq (f b e));rw[CC,nU];grind
 split
 .exact g _ (by rw[zI];exact yH _ _)
 .exact g _ (AG _)
theorem yB(s w):
    cL 143 #[.t s] w λe w'=>bW w w' /\
      ((s.size=256/\(dG s.data.toList).encE=0/\(dG s.data.toList).encS=s/\∃v,e=.r (.tuple #[v,.i 0])/\qHp w' w (dG s.data.toList) v) \/
       (¬(s.size=256/\(dG s.data.toList).encE=0/\(dG s.data.toList).encS=s)/\e=.r (.tuple #[.agg #[.i 0,.i 0,.i 0,.i 0,.n,.n,.n,.e],.i 2]))):=by
  by_cases hs:s.size=256
  . by_cases hE:(dG s.data.toList).encE=0
    . by_cases hO:(dG s.data.toList).encS=s
      . exact(Vg s w hs (uC _) hE hO).m λe w' ⟨v,b,d,a⟩=>⟨a,.inl ⟨hs,hE,hO,v,b,d⟩⟩
      . exact(Pp s w hs (uC _) hE hO).m λe w' ⟨b,a⟩=>⟨a,.inr ⟨λc=>hO c.2.2,b⟩⟩
    . exact(yA s w hs (uC _) hE).m λe w' ⟨b,a⟩=>⟨a,.inr ⟨λc=>hE c.2.1,b⟩⟩
  . exact(vA s w hs).m λe w' ⟨b,a⟩=>⟨a,.inr ⟨λc=>hs c.1,b⟩⟩
def Has(bs:List UInt8)(a:Nat)(l:List UInt8):Prop:=∃p r,bs=p++(l++r)/\p.length=a
theorem Has.le (h:Has b a l):a+l<=b:=by
 obtain⟨p,r,rfl,rfl⟩:=h;simp
theorem Has.left {l m}(h:Has b a (l++m)):Has b a l:=by
 obtain⟨p,r,rfl,rfl⟩:=h;exact⟨p,m++r,σ,rfl⟩
theorem Has.right {l m:List UInt8}(h:Has b a (l++m)):Has b (a+l) m:=by
 obtain⟨p,r,rfl,rfl⟩:=h;exact⟨p++l,r,σ,σ⟩
theorem Has.pos (h:Has b a l){k:Nat}(c:k<=l):bD b a k=a+k:=by
 have:=h.le;unfold bD;omega
theorem Has.getD (h:Has b a l){k:Nat}(c:k<l):b.getD (a+k) 0=l[k]:=by
 obtain⟨p,r,rfl,rfl⟩:=h;grind
theorem Has.head {b}(h:Has c a (b :: l)):c.getD a 0=b:=by
 have:=h.getD (k:=0) σ;grind
theorem Has.tail {b}(h:Has c a (b :: l)):Has c (a+1) l :=
 Has.right (l:=[b]) h
theorem Has.slice (h:Has b a l):(b.drop a).take l=l:=by
 obtain⟨p,r,rfl,rfl⟩:=h;simp
theorem byte_of(m)(a:0<=m)(b:m<256):((UInt8.ofNat m.toNat).toNat:Int)=m:=by
 rw[DV ζ];omega
theorem qDc(n m):((UInt8.ofNat ((n / 2 ^ m % 256).toNat)).toNat:Int)=n / 2 ^ m % 256:=byte_of _ ω ω
theorem qCa (h:Has b a (beB 1 n))(d:0<=n)(e:n<256):((b.getD a 0).toNat:Int)=n:=by
 rw[h.head,qDc];grind
theorem zH (h:Has b a (beB 2 n))(e:0<=n)(f:n<65536):(iR b a 2:Int)=n:=by
 simp only[iR,EC,h.head,h.tail.head,EO,EA];rw[Int.natCast_add,Int.natCast_mul,qDc,qDc];omega
theorem qFi {k}(h:Has k a (beB 8 n))(l:0<=n)(m:n<9223372036854775808):(iR k a 8:Int)=n:=by
 have b:=h.head;have c:=h.tail.head;have d:=h.tail.tail.head;have e:=h.tail.tail.tail.head;have f:=h.tail.tail.tail.tail.head;have g:=h.tail.tail.tail.tail.tail.head;have i:=h.tail.tail.tail.tail.tail.tail.head;have j:=h.tail.tail.tail.tail.tail.tail.tail.head;simp only[GL]at b c d e f g i j;simp only[Nat.reduceAdd]at b c d e f g i j;simp only[iR,EC,b,c,d,e,f,g,i,j,EO,EA];simp only[Int.natCast_add,Int.natCast_mul,qDc];omega
theorem Wo(s):(⟨s.data.toList.toArray⟩:ByteArray)=s:=by rfl
theorem Ns (h:Has c a (eF s))(j:s.size<256):(⟨(oO c a).toArray⟩:ByteArray)=s/\(oO c a)=s.size/\iP c a=a+(eF s):=by
 have d:(c.getD a 0).toNat=s:=by
  rw[Has.head (l:=s.data.toList) h,DV ω]
 have i:bD c a 1=a+1:=h.pos (by simp[eF]);have f:Has c (a+1) s.data.toList:=Has.tail (b:=UInt8.ofNat s.size) h;have g:=Dp s;have e:oO c a=s.data.toList:=by
  unfold oO;rw[i,d,<-g];exact f.slice
 refine⟨by rw[e,Wo],by rw[e,g],?_⟩;have:=f.le;unfold iP;rw[i,d];simp only[eF,CC,FD,LF];omega
theorem Ac (h:s.toList.isEmpty=true):s=⟨#[]⟩:=by
 rw[ByteArray.toList_eq]at h;rw[<-Wo s,List.isEmpty_iff.1 h]
theorem qQt {d:List UInt8}{e:Ent}(h:Has d a e.bytes)(r:e.key.size<=24)(i:qS e.val e.size e.over=true):tM d a=e/\Eg d a=a+e.bytes:=by
 have⟨c,v,n,o⟩:=e;simp only[Ent.bytes,mY]at h r i⊢;have⟨p,B,q⟩:=Ns h.left ω;have f:=h.right;by_cases ho:(o==0)=true
 .rw[AU ho]at f⊢;have g:=f.head;have j:bD d (a+(eF c)) 1=a+(eF c)+1:=f.pos σ;obtain rfl:o=0:=ζ
  simp[qS,pW]at i;have⟨y,z,A⟩:=Ns (Has.tail (b:=0) f) ω;unfold tM Eg;rw[q,AU g,AU g,j,p,y,z,A];refine⟨?_,χ⟩;rw[i.2]
 .rw[AQ ho]at f⊢;have g:¬d.getD (a+(eF c)) 0=0:=by rw[Has.head (b:=1) (l:=beB 2 n++beB 2 o) ζ];decide
  have j:bD d (a+(eF c)) 1=a+(eF c)+1:=f.pos σ;have s:o≠0:=ζ
  simp only[qS,s,bF,DZ,AM,BO,CU,false_and,false_or]at i;have k:Has d (a+(eF c)+1) (beB 2 n++beB 2 o):=Has.tail (b:=1) ζ;have t:bD d (a+(eF c)+1) 2=a+(eF c)+1+2:=k.pos (by simp[aK]);have m:=k.right;rw[aK]at m;have u:bD d (a+(eF c)+1+2) 2=a+(eF c)+1+2+2:=m.pos (by simp[aK]);unfold tM Eg;rw[q,AQ g,AQ g,j,t,u,p,zH k.left ω ω,zH m ω ω];refine⟨?_,by simp[aK];omega⟩;rw[Ac i.1.1.2]
theorem Zj(b a n):lS b a (n+1)=(⟨(oO b a).toArray⟩:ByteArray):: lS b (iP b a) n:=by
 have d:∀c,mM b a (c+1)=mM b (iP b a) c:=λc=>by
  induction c with
  |zero=>rfl
  |succ c ih=>rw[mM,ih,<-mM]
 simp only[lS,KY,BE,GO];refine BR (List.cons _) (EI λc _=>?_);grind
theorem Zh(b a n):mE b a (n+1)=(iR b (bD b a 0) 2:Int):: mE b (bD b a 2) n:=by
 simp only[mE,KY,BE,GO];refine BR (List.cons _) (EI λc _=>?_);simp only[Function.comp,Nat.succ_eq_add_one,Lj];rw[show 2 * (c+1)=2+2 * c by omega]
theorem qAd(b a n):gD b a (n+1)=tM b a :: gD b (Eg b a) n:=by
 have d:∀c,nF b a (c+1)=nF b (Eg b a) c:=λc=>by
  induction c with
  |zero=>rfl
  |succ c ih=>rw[nF,ih,<-nF]
 simp only[gD,KY,BE,GO];refine BR (List.cons _) (EI λc _=>?_);grind
theorem qCl:∀{b:List ByteArray}{a:Nat},Has c a (b.flatMap eF)->(∀k∈b,k.size<256)->lS c a b=b
 |[],_,_,_=>rfl
 |k :: l,a,h,hs=>by
  rw[AK]at h;have⟨e,i,f⟩:=Ns h.left (hs k σ);rw[FD,Zj,e,f,qCl h.right (λg d=>hs g (by simp[d]))]
theorem qCk:∀{c:List Int}{a:Nat},Has b a (c.flatMap (beB 2))->(∀k∈c,0<=k/\k<65536)->mE b a c=c
 |[],_,_,_=>rfl
 |k :: l,a,h,hs=>by
  rw[AK]at h;have e:bD b a 0=a:=h.pos (AG _);have f:bD b a 2=a+2:=h.pos (by simp[aK]);have d:=h.right;rw[aK]at d;rw[FD,Zh,e,zH h.left (hs k σ).1 (hs k σ).2,f,qCk d (λj g=>hs j (by simp[g]))]
theorem qCw:∀{b:List Ent}{a:Nat},Has c a (b.flatMap Ent.bytes)->(∀e∈b,e.key.size<=24/\qS e.val e.size e.over=true)->gD c a b=b
 |[],_,_,_=>rfl
 |e :: l,a,h,hs=>by
  rw[AK]at h;have⟨f,g⟩:=qQt h.left (hs e σ).1 (hs e σ).2;rw[FD,qAd,f,g,qCw h.right (λi d=>hs i (by simp[d]))]
theorem Ik:∀(a:List Int),(a.flatMap (beB 2)).length=2 * a
 |[]=>rfl
 |k :: l=>by rw[AK,CC,aK,Ik l,FD];omega
theorem Ga:∀{b:List ByteArray}{l:ByteArray},gE l b=true->∀k∈b,k.size<=24
 |[],_,_=>by simp
 |k :: r,l,h=>by
  simp only[gE,iG,AM,BO]at h;intro c a;rcases AS.1 a with rfl|a
  .exact h.1.2
  .exact Ga h.2 c a
theorem Sq:∀{b:List Ent}{l:ByteArray},gJ l b=true->∀e∈b,e.key.size<=24/\qS e.val e.size e.over=true
 |[],_,_=>by simp
 |k :: r,l,h=>by
  simp only[gJ,iG,AM,BO]at h;intro c a;rcases AS.1 a with rfl|a
  .grind
  .exact Sq h.2 c a
theorem sN{a:Type}{l:List a}(h:((l.length:Int)==0)=true):l=[]:=AH ζ
theorem Pi{a:Type}(f:a->List UInt8):∀(l:List a),(∀x∈l,1<=(f x).length)->l.length<=(l.flatMap f)
 |[],_=>by simp
 |x :: l,h=>by
  have d:=h x σ;have e:=Pi f l (λc b=>h c (by simp[b]));grind
theorem Kw(s):1<=(eF s).length:=by simp[eF]
theorem qHj(e:Ent):1<=e.bytes.length:=by
 have:=Kw e.key;simp only[Ent.bytes,mY,CC];omega
theorem rY (a:0<=n)(b:n<9223372036854775808):wrap64 n=n:=by unfold wrap64;omega
theorem Xw(g)(D:g.ver<9223372036854775808)(A:g.encE=0):dG g.encS.data.toList=g:=by
 have⟨j,y,r,next,c,x,i,u⟩:=g;simp only[Pg.encE,Pg.encS,Pages.cV,Pages.encS]at A D⊢;split at A
 case isFalse=>simp at A
 case isTrue hT =>
 rw[AU hT];simp only[AM,BO]at hT;have⟨b,t⟩:=hT;have a:Has (kN (fieldsB j y r next c x i u)) 0 (fieldsB j y r next c x i u):=
  ⟨[],_,by rw[kN,iQ,CA];rfl,rfl⟩
 have I:((⟨(kN (fieldsB j y r next c x i u)).toArray⟩:ByteArray)).data.toList=kN (fieldsB j y r next c x i u):=σ;rw[I];clear I;generalize kN (fieldsB j y r next c x i u)=bs at a⊢;unfold dG;unfold dV at b;by_cases h1:j=1
 .subst h1;rw[AU rfl]at b;simp only[fW,mK,lO,Ly,AM,BO,DZ,bF]at b;have⟨⟨⟨⟨n,o⟩,p⟩,q,h⟩,w,d⟩:=b;rw[fieldsB,AU rfl]at a;have e:bs.getD 0 0=1:=a.left.left.head;have k:bD bs 0 1=1:=a.pos (by simp[aK]);have m:=a.left.right;rw[aK]at m;have l:bD bs 1 8=9:=m.pos (by simp[aK]);have v:=a.right;rw[CC,aK,aK]at v;have K:0<=r/\r<65536:=by
   grind
  rw[e,show kJ bs (1:UInt8).toNat=_ from AU rfl,k,l,zH v K.1 K.2];rw[qFi m w D,rY w D,sN n,sN o,sN p,Ac h,CU.1 q]
 by_cases h2:j=2
 .subst h2;rw[AQ h1,AU rfl]at b;simp only[lP,mK,lO,iH,AM,BO]at b;have⟨⟨⟨⟨n,o⟩,p⟩,q,h⟩,⟨⟨w,d⟩,P⟩,Q⟩:=b;rw[fieldsB,AQ h1,AU rfl]at a t;have N:c.length<256:=by
   have:=Pi eF c (λG _=>Kw G);rw[eU]at t;grind
  have e:bs.getD 0 0=2:=a.left.head;have k:bD bs 0 1=1:=a.pos (by simp[aK]);have f:=a.right;rw[aK,eU]at f;have B:=qCa f.left.left ω ω;have C:(bs.getD 1 0).toNat=c:=ζ
  have l:bD bs 1 1=2:=f.pos (by simp[aK]);have s:=f.left.right;rw[aK]at s;have O:bD bs 2 (2 * (c+1))=2+2 * (c+1):=s.pos (by rw[Ik,d];omega);have H:=f.right;rw[CC,aK,Ik,d]at H;rw[e,show kJ bs (2:UInt8).toNat=_ from (AQ δ).t (AU rfl),k,C,l,O,<-d,qCk s (λE e=>by have:=JM.1 P E e;simp[bF]at this;omega),d];rw[show 2+2 * (c.length+1)=0+1+(1+2 * (c+1)) by omega,qCl H (λE e=>by have:=Ga Q E e;omega)];rw[CU.1 n,CU.1 o,sN p,CU.1 q,Ac h]
 by_cases h3:j=3
 .subst h3;rw[AQ h1,AQ h2,AU rfl]at b;simp only[lP,fW,lO,AM,BO]at b;have⟨⟨⟨⟨n,o⟩,p,F⟩,q,h⟩,w,d⟩:=b;rw[fieldsB,AQ h1,AQ h2,AU rfl]at a t;have N:i.length<256:=by
   have:=Pi Ent.bytes i (λG _=>qHj G);rw[nI]at t;grind
  have e:bs.getD 0 0=3:=a.left.head;have k:bD bs 0 1=1:=a.pos (by simp[aK]);have f:=a.right;rw[aK,nI]at f;have B:=qCa f.left ω ω;have C:(bs.getD 1 0).toNat=i:=ζ
  have l:bD bs 1 1=2:=f.pos (by simp[aK]);have s:=f.right;rw[aK]at s;rw[e,show kJ bs (3:UInt8).toNat=_ from (AQ δ).t ((AQ δ).t (AU rfl)),k,C,l];rw[show 2=0+1+1 from rfl,qCw s (Sq d)];rw[CU.1 n,CU.1 o,sN p,sN F,CU.1 q,Ac h]
 by_cases h4:j=4
 .subst h4;rw[AQ h1,AQ h2,AQ h3,AU rfl]at b;simp only[lP,fW,mK,Gv,AM,BO,DZ,bF]at b;have⟨⟨⟨⟨n,o⟩,p,F⟩,q⟩,h,w,d⟩:=b;rw[fieldsB,AQ h1,AQ h2,AQ h3]at a;have e:bs.getD 0 0=4:=a.left.left.head;have k:bD bs 0 1=1:=a.pos (by simp[aK]);have m:=a.left.right;rw[aK]at m;have l:bD bs 1 2=3:=m.pos (by simp[aK]);have v:=a.right;rw[CC,aK,aK]at v;have J:0<=next/\next<65536:=by
   grind
  have⟨R,S,T⟩:=Ns v ω;rw[e,show kJ bs (4:UInt8).toNat=_ from (AQ δ).t ((AQ δ).t ((AQ δ).t (AU rfl))),k,l,zH m J.1 J.2];rw[show 3=0+(1+2) from rfl,R,CU.1 n,CU.1 o,sN p,sN F,sN q]
 grind
def Whole(s : List UInt8): Prop := ∃P : List UInt8, P.length = 252 /\ s = P ++ beB 4 (Crc.crc P : Nat)
theorem Pz{a b : Nat}(q : a < 4294967296)(r : b < 4294967296)(h : beB 4 (a : Int) = beB 4 (b : Int)): a = b := by
  simp only[beB, GJ, DC, MC, Int.pow_zero, Nat.mul_one, Nat.reduceMul, Int.reducePow]at h;obtain⟨g, i, j, k⟩:= h;have f : ∀x c : Int, UInt8.ofNat ((x % 256).toNat) = UInt8.ofNat ((c % 256).toNat) -> x % 256 = c % 256 := λx c d => by
    have e := byte_of (x % 256) ω ω;have l := byte_of (c % 256) ω ω;rw[d]at e;omega
  have m := f _ _ g;have n := f _ _ i;have o := f _ _ j;have p := f _ _ k;omega
theorem Kr{s : List UInt8}(h : Whole s): s.length = 256 := by
  obtain⟨P, a, rfl⟩:= h; rw[CC, aK, a]
theorem pR{s : List UInt8}(h : Whole s): s.drop 252 = beB 4 (Crc.crc (s.take 252): Nat):= by
  obtain⟨P, a, rfl⟩:= h;rw[List.take_left' a, List.drop_left' a]
theorem Qr{s : List UInt8}(g : Whole s)(k : Nat)(e : k < s)(v : UInt8)(h : v ≠ s[k]): ¬Whole (s.set k v):= by
  intro ht;have d := pR g;have b := pR ht;have n := Kr g
  by_cases hlt : k < 252
  . have c : (s.set k v).drop 252 = s.drop 252 := by rw[List.drop_set_of_lt hlt]
    rw[c, d]at b;have a := Pz (Crc.Bz _) (Crc.Bz _) b;have f : k < (s.take 252) := by rw[AX]; omega
    have i : (s.set k v).take 252 = (s.take 252).set k v := List.take_set;rw[i, JA, AU f]at a;have j : s.take 252 = (s.take 252).take k ++ s[k]:: (s.take 252).drop (k + 1):= by
      have m : (s.take 252)[k] = s[k]:= MH;rw[<-m, <-BZ f, BU]
    rw[show Crc.crc (s.take 252) = Crc.crc ((s.take 252).take k ++ s[k]:: (s.take 252).drop (k + 1)) from BR _ j]at a;exact h (Crc.qAk _ _ _ _ a).symm
  . have c : (s.set k v).take 252 = s.take 252 := List.take_set_of_le ω
    rw[c, <-d]at b;have a  := by
      have := BR (λl => l[k - 252]?) b;simp only[DE]at this;rwa[show 252 + (k - 252) = k by omega]at this
    rw[JC e, FX e]at a;exact h (GY a)
theorem Zu{fs : List UInt8}(h : fs.length <= 252): Whole (kN fs):= ⟨iQ fs, by simp[iQ]; omega, rfl⟩
theorem Na(g : Pg)(a : g.encE = 0): Whole g.encS.data.toList := by
  simp only[Pg.encE, Pg.encS, Pages.cV, Pages.encS]at a⊢;split at a
  case isFalse => simp at a
  case isTrue hT =>
  rw[AU hT];simp only[AM, BO]at hT;exact Zu hT.2
theorem Qe{P:Program}(w base t r e i z size bytes)(F:P.underlying t=some (.slice e))(hi:P.info? e=some i)(S:i.zero=some z)(a5:i.size=size)(X:i.bytes=bytes)(ad:z.cells.size=size)(ab:0<size)(v n xs)(E:w.ownsRow base e size v n xs)(a m c)(d:List Value)(q:d=m * size)(D:∀j u,d[j]?=some u->w.cell? (a.add j)=some u)(U:∀u∈d,u.oneCell'=true)(a8:0<m)(V:n+m<=maxLen)(M:(n+m) * bytes<=140737488355328)(v' w')(b:(Builtin.append_ #[t,t] r #[v,.s (some a) m c]).run P w=.ok v' w')(x f s H)(K:w.ownsRow x e size s f H)(a4:s.ownBlock≠v.ownBlock\/f<=n):w'.ownsRow x e size s f H:=by
 subst a5;subst X;have aa:n+m<=9223372036854775807:=by simp only[maxLen]at V;omega
 have J:∀o,w'=w.drew.alloc o->w'.ownsRow x e i.size s f H:=λo k=>by
  rw[k];exact CG (w:=w.drew) (World.ownsRow.drew K) o
 rcases E.2 with⟨rfl,rfl⟩|⟨g,y,A,rfl,a6,C,a9,a7,Z,ac⟩
 .have l:=run_append_nil (P:=P) w t r e i z F hi S a m c d q D ω ω ζ
  grind
 .by_cases hroom:n+m<=y
  .have a0:n * i.size+d<=A.size:=by rw[q,Z,<-Nat.add_mul];exact JP _ hroom
   rw[run_append_room (P:=P) w t r e i F hi g n y A C a m c d q D U hroom a0]at b;simp only[LP]at b;rw[<-b.2];obtain⟨G,⟨rfl,T⟩|⟨h,I,B,rfl,L,p,Q,N,O,R⟩⟩:=id K
   .exact⟨G,.inl ⟨rfl,T⟩⟩
   .by_cases hgg:h=g
    .subst hgg;have W:f<=n:=by
      rcases a4 with k|k
      .exact absurd rfl k
      .exact k
     have Y:B=A:=ζ
     subst Y;refine⟨G,.inr ⟨h,I,_,rfl,L,setRow_heap w h B _ e _ C,Q,N,ζ,?_⟩⟩
     .have a1:f * i.size<=n * i.size:=JP _ W;grind
    .exact⟨G,.inr ⟨h,I,B,rfl,L,by rw[setRow_other w g h _ hgg];exact p,Q,N,O,R⟩⟩
  .have l:=run_append_grow (P:=P) w t r e i z F hi S (aD g 0) n y xs E.1 (E.cells (g:=g) rfl) a m c d q D ω ω (KG ω M);grind
def nH(n:Nat):ByteArray:=⟨#[126,UInt8.ofNat n,UInt8.ofNat (n / 256)]⟩
theorem qHd(u:World)(a b):
  (convert 108 9 (.q u 3 3)).run prog (u.alloc (.cells #[.int .u8 126,.int .u8 (a.toNat:Int),.int .u8 (b.toNat:Int)] 5))=.ok (.t ⟨#[126,a,b]⟩) (u.alloc (.cells #[.int .u8 126,.int .u8 (a.toNat:Int),.int .u8 (b.toNat:Int)] 5)):=by
 have e:=run_convert_bytes_back (P:=prog) (u.alloc (.cells #[.int .u8 126,.int .u8 (a.toNat:Int),.int .u8 (b.toNat:Int)] 5)) 108 9 5 (aD u 0) 3 [126,a,b] underlying108 underlying5 underlying9 (λc f=>by
  have d:((aD u 0):Addr).add c=(aD u c):=by unfold Addr.add;split<;>simp_all
  rw[d];simp only[World.cell?,aB u (.cells #[.int .u8 126,.int .u8 (a.toNat:Int),.int .u8 (b.toNat:Int)] 5)];have:c=0\/c=1\/c=2:=ζ
  rcases this with rfl|rfl|rfl<;>rfl)
 exact e
