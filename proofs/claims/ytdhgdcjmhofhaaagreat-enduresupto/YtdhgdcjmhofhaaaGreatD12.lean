import Derived.Test.YtdhgdcjmhofhaaaGreatD11
import Derived.Deep.CutBlock
import Derived.Deep.RegionLaw
set_option linter.all false
set_option maxRecDepth 100000
set_option maxHeartbeats 8000000
namespace Go.Proofs.YtdhgdcjmhofhaaaGreat.Pages
open Go.RowKit
variable {a:Nat} {b c l:List UInt8} {n:Int} {s:ByteArray}
abbrev qMi(ve:Value):Obj:=.cells #[.int .i64 3,.int .i64 0,.int .i64 0,.int .i64 0,.slice none 0 0,.slice none 0 0,ve,.string ⟨#[]⟩] 80
def Rd.drew {w ρ g c}(h:Rd w ρ g c b a):Rd w.drew ρ g c b a:=⟨h.box,h.bytes,h.ne,h.lt,h.le,h.len,h.cap⟩
def Cd{ops o a K Q F}(w)(i:o.guard=none)(b x)(m:o.op=.call {callee:=.builtin .append,args:=#[b,x],argTypes:=#[67,67]})(B es v)(p:a.eval b=v)(d:fY w B v es)(f:B<=w.heap.size)(k)(r:a.eval x=.q w.heap.size 1 1)(D:es.length+1<=4294967296)(h:∀v' w',fY w' B v' (es++[k])->Below B w w'->K (a.put o.dst v') w'):
    if Region.wanted o (yielded ops a.tmps)=true then Oper.wp Tryz.prog o a (w.alloc (.cells #[.t k.key,.t k.val,.i k.size,.i k.over] 69)) K Q else F:=by
  have q:Region.wanted o (yielded ops a.tmps)=true:=by simp[Region.wanted,i]
  rw[AU q];have⟨y,j,s,t,u⟩:=info_parts Za;apply wp_append_own _ b x 67 m B 69 y (.agg #[.e,.e,.i 0,.i 0]) 4 48 Tryz.underlying67 j s t u rfl (by decide) v es.length (es.flatMap Ent.cells) p (d.alloc _) (aD w.heap.size 0) 1 1 k.cells r rfl (Wj _ _ _ _ _ _) (by intro E c;simp[Ent.cells]at c;rcases c with rfl|rfl|rfl|rfl<;>rfl) (by unfold maxLen;omega) (by omega) (by simp;omega);intro A C n g _;refine h A C ?_ (((AC B w).alloc f _).grown g (by simp;omega) (λz l=>(EK (w:=w) d z l).1));unfold fY;rw[BV,CG];have e : [k].flatMap Ent.cells=k.cells:=by simp
  rw[e];exact n
def qAr(s w)(hs:s.size=256)(hk:(s.data.toList.getD 0 0).toNat=3)(p)(hp:p=aZ s.data.toList 0 1)(m)(hm:m=(s.data.toList.getD p 0).toNat)(P)(hP:P=aZ s.data.toList p 1):
    cL 166 #[.t s] w λe w'=>∃ ve,e=.r (.agg #[.i 3,.i 0,.i 0,.i 0,.n,.n,ve,.e]) ∧
      fY w' w.heap.size ve (fN s.data.toList P m)∧bW w w':=by
  have⟨c,v,hcv,hvs,hrd,hzz,hbb⟩:=qF s w hs;have⟨bs,hbs⟩:∃ bs,bs=s.data.toList:=⟨_,rfl⟩;rw [← hbs] at hrd hk hm hp hP ⊢;have hN:=lB _ _ _ _ _ _ hrd;rw [hk,← hp] at hN;have hM:=λw2 (h2:Rd w2 (w.heap.size+1+1) (w.heap.size+1) c bs p)=>lB _ _ _ _ _ _ h2;rw [← hm,← hP] at hM;have hmt:m<256:=by rw [hm];exact(bs.getD p 0).toNat_lt
  clear hs hp hk hbs hm hP;go_enter Tryz.func166,Tryz.ntmps166;go_upto_region 4 with(go_at_call 177;apply hN.m;rintro e w1 ⟨rfl,hr1,ho1⟩);have hE1:=aC w1 (kY 3);have hz1:=fJ w1 (kY 3);have hγ:w1.heap.size≠w.heap.size+1+1:=DL hr1.lt';have hγg:w1.heap.size≠w.heap.size+1:=DL hr1.lt;have hγz:w.heap.size<w1.heap.size:=by have:=hr1.lt;omega
  have hγ':w.heap.size+1+1<w1.heap.size:=hr1.lt';have hM1:=hM _ (hr1.alloc (kY 3));have ho0:=(eA.refl (w.heap.size+1+1) w1).alloc (kY 3);clear hM hN hcv;go_wp2_with (go_at_call 177;apply hM1.m;rintro e w2 ⟨rfl,hr2,ho2⟩;have hE2:=ho2.keep hγ hE1;have hO2:=ho0.t ho2);go_loopw [29] (λi wr=>∃ (j:Nat) (ve:Value),j≤m∧i=.i j∧wr.heap[w1.heap.size]?=some (qMi ve)∧fY wr (w1.heap.size+1) ve (fN bs P j)∧Rd wr (w.heap.size+1+1) (w.heap.size+1) c bs (mR bs P j)∧eA (w.heap.size+1+1) w1 wr) (λi _=>m-(intOf i).toNat)
  case atStart=>exact⟨0,.n,AG _,rfl,hE2,fY.nil _ _,hr2,hO2⟩
  case round =>
    clear hr2 hE2 hO2 ho2 hM1 ho0 hE1;obtain⟨j,ve,hj,rfl,hE,hes,hr,ho⟩:=hrel;obtain⟨ea,ec,rfl⟩:=hes.slice;have⟨c0,c1,c2,c3,c4,c5,c6,c7⟩:=bO hE;have hf1:=aA hE;by_cases hlt:j<m
    . have hX:=λu (hu:Rd u (w.heap.size+1+1) (w.heap.size+1) c bs (mR bs P j))=>Wq _ _ _ _ _ _ hu
      have hen:=Wo bs P j;have hlen:(fN bs P j).length=j:=by simp [fN]
      have hpos:Cg bs (mR bs P j)=mR bs P (j+1):=rfl;rw [hpos] at hX;have⟨E,hEE⟩:∃ E,E=sF bs (mR bs P j):=⟨_,rfl⟩;rw [← hEE] at hX hen;have HK:Hid (fN bs P (j+1)=fN bs P j++[E]):=hen;clear hen hEE hpos;have lk:(fN bs P j).length+1≤4294967296:=by omega
      have hsz:w1.heap.size+1≤wr.heap.size:=(CP.1 hE).1;clear hlen;go_wp2_with (fail);go_region_law (first|(go_simp;go_at_call 179;apply(hX _ (by first|exact hr|exact hr.drew|exact hr.drew.drew|exact hr.drew.drew.drew)).m;rintro e w3 ⟨rfl,hr3,ho3⟩;have ho3':eA (w.heap.size+1+1) wr w3:=⟨ho3.os,ho3.tape,ho3.output,ho3.size,ho3.block⟩;have hE3:=ho3'.keep hγ hE;have⟨d0,d1,d2,d3,d4,d5,d6,d7⟩:=bO hE3;have hf3:=aA hE3;have hq6:=(bO (eV (x:=.cells #[.t E.key,.t E.val,.i E.size,.i E.over] 69) hE3)).2.2.2.2.2.2.1;have hes3:=hes.only ho3' (by omega);have hs3:=CF hsz ho3'.size)|(apply Cd w3 rfl (.tmp 32) (.tmp 34) rfl (w1.heap.size+1) (fN bs P j) (.s ea (fN bs P j).length ec) (by simp [Act.eval,Act.put]) hes3 hs3 E (by simp [Act.eval,Act.put]) lk;intro v4 w4 hes4 hb4;obtain⟨ea4,ec4,rfl⟩:=hes4.slice;have hE4:=(hb4.block w1.heap.size (DH _)).t hE3;have⟨g0,g1,g2,g3,g4,g5,g6,g7⟩:=bO hE4;have hf4:=aA hE4))
      all_goals go_wp2
      all_goals go_roundw
      all_goals first
        | (exact(by simp [intOf];omega))
        | (refine⟨j+1,.s ea4 (fN bs P j++[E]).length ec4,by omega,by go_num,?_,by rw [HK.o];exact hes4.set (DH _) 6 _,(hr3.below hb4 (by omega) (by omega)).set hγ hγg 6 _,((ho.t ho3').below hb4 (DO _)).set (BZ _) 6 _⟩;have h5:=aB hE4 6 (.s ea4 (fN bs P j++[E]).length ec4);simpa using h5)
        | (repeat apply Exists.intro
           exact⟨⟨j+1,.s ea4 (fN bs P j++[E]).length ec4,by omega,by go_num,aB hE4 6 (.s ea4 (fN bs P j++[E]).length ec4),by rw [HK.o];exact hes4.set (DH _) 6 _,(hr3.below hb4 (by omega) (by omega)).set hγ hγg 6 _,((ho.t ho3').below hb4 (DO _)).set (BZ _) 6 _⟩,rfl⟩)
    . obtain rfl:j=m:=by omega
      have hZ:=ho.keep (by omega) (ho1.keep (by omega) hzz);have⟨z0,z1,z2,z3,z4,z5,z6,z7⟩:=bO hZ;have hf3:=aA hZ;have⟨y0,y1,y2,y3,y4,y5,y6,y7⟩:=bO (wL hZ (.i 3) (.i 0) (.i 0) (.i 0) .n .n (.s ea (fN bs P j).length ec) .e);have hlz:w.heap.size<w1.heap.size+1:=by omega
      go_wp2;refine BI (v:=.agg #[.i 3,.i 0,.i 0,.i 0,.n,.n,.s ea (fN bs P j).length ec,.e]) ?_ rfl ⟨_,rfl,(((((((((hes.set hlz 0 (.i 3)).set hlz 1 (.i 0)).set hlz 2 (.i 0)).set hlz 3 (.i 0)).set hlz 4 .n).set hlz 5 .n).set hlz 6 (.s ea (fN bs P j).length ec)).set hlz 7 .e).m (B':=w.heap.size) (by omega)),pK (oV hbb (ho1.t ho) (by omega) (by rw [fJ];omega)) (β:=w.heap.size) (BZ _) (.i 3) (.i 0) (.i 0) (.i 0) .n .n (.s ea (fN bs P j).length ec) .e⟩;simp [results,Tryz.results166,go_sem,y0,y1,y2,y3,y4,y5,y6,y7]
structure Pg where
 kind:Int
 ver:Int
 root:Int
 next:Int
 keys:List ByteArray
 kids:List Int
 ents:List Ent
 data:ByteArray
def mI(bs:List UInt8)(k:Nat):Pg :=
 if k=1 then ⟨1,wrap64 (iI bs (aZ bs 0 1) 8),(iI bs (aZ bs (aZ bs 0 1) 8) 2:Nat),0,[],[],[],⟨#[]⟩⟩
 else if k=2 then ⟨2,0,0,0,jS bs (aZ bs (aZ bs (aZ bs 0 1) 1) (2 * ((bs.getD (aZ bs 0 1) 0).toNat+1))) (bs.getD (aZ bs 0 1) 0).toNat,kD bs (aZ bs (aZ bs 0 1) 1) ((bs.getD (aZ bs 0 1) 0).toNat+1),[],⟨#[]⟩⟩
 else if k=3 then ⟨3,0,0,0,[],[],fN bs (aZ bs (aZ bs 0 1) 1) (bs.getD (aZ bs 0 1) 0).toNat,⟨#[]⟩⟩
 else if k=4 then ⟨4,0,0,(iI bs (aZ bs 0 1) 2:Nat),[],[],[],⟨(nZ bs (aZ bs (aZ bs 0 1) 2)).toArray⟩⟩
 else ⟨(k:Nat),0,0,0,[],[],[],⟨#[]⟩⟩
def dN(bs:List UInt8):Pg:=mI bs (bs.getD 0 0).toNat
def qDk(w:World)(B:Nat)(g:Pg)(v:Value):Prop :=
 ∃vk vi ve,v=.agg #[.int .i64 g.kind,.int .i64 g.ver,.int .i64 g.root,.int .i64 g.next,vk,vi,ve,.string g.data]/\Keys w B vk g.keys/\Ints w B vi g.kids/\fY w B ve g.ents
def mH(s w)(f:s.size=256):
  cL 166 #[.t s] w λe w'=>∃v,e=.r v/\qDk w' w.heap.size (dN s.data.toList) v/\bW w w':=by
 have⟨c,d⟩:∃c,(s.data.toList.getD 0 0).toNat=c:=⟨_,rfl⟩;unfold dN;rw[d];by_cases h1:c=1
 .subst h1
  rw[show mI s.data.toList 1=_ from AU rfl];exact(qAq s w f d).m λg w' ⟨b,a⟩=>⟨_,b,⟨_,_,_,rfl,Keys.nil _ _,Ints.nil _ _,fY.nil _ _⟩,a⟩
 by_cases h2:c=2
 .subst h2
  rw[show mI s.data.toList 2=_ from (AR (by omega)).t (AU rfl)];exact(Oc s w f d _ rfl _ rfl _ rfl).m λg w' ⟨m,l,b,j,i,a⟩=>⟨_,b,⟨_,_,_,rfl,j,i,fY.nil _ _⟩,a⟩
 by_cases h3:c=3
 .subst h3
  rw[show mI s.data.toList 3=_ from (AR (by omega)).t ((AR (by omega)).t (AU rfl))];exact(qAr s w f d _ rfl _ rfl _ rfl).m λg w' ⟨k,b,h,a⟩=>⟨_,b,⟨_,_,_,rfl,Keys.nil _ _,Ints.nil _ _,h⟩,a⟩
 by_cases h4:c=4
 .subst h4
  rw[show mI s.data.toList 4=_ from (AR (by omega)).t ((AR (by omega)).t ((AR (by omega)).t (AU rfl)))];exact(qAo s w f d).m λg w' ⟨b,a⟩=>⟨_,b,⟨_,_,_,rfl,Keys.nil _ _,Ints.nil _ _,fY.nil _ _⟩,a⟩
 rw[show mI s.data.toList c=_ from (AR h1).t ((AR h2).t ((AR h3).t (AR h4)))];exact(qAp s w f c d h1 h2 h3 h4).m λg w' ⟨b,a⟩=>⟨_,b,⟨_,_,_,rfl,Keys.nil _ _,Ints.nil _ _,fY.nil _ _⟩,a⟩
def mZ{w B e z v n xs}(h:w.ownsRow B e z v n xs):∃a c,v=.s a n c/\fB w w.heap.size a xs:=by
 have⟨j,d⟩:=id h;rcases d with⟨rfl,rfl⟩|⟨g,o,p,rfl,_⟩
 .exact⟨none,0,rfl,.inl (AH (by omega))⟩
 .refine⟨_,_,rfl,.inr ⟨g,0,rfl,((EK (w:=w) h) g rfl).2,λb m l=>?_⟩⟩
  have:=(λg i=>DG (w:=w) h (g:=g) i) g rfl b m l;have e:((aD g 0):Addr).add b=(aD g (0+b)):=by unfold Addr.add;split<;>simp_all
  grind
def Bp(s w)(m:s.size≠256):
  cL 143 #[.t s] w λe w'=>e=.r (.tuple #[.agg #[.i 0,.i 0,.i 0,.i 0,.n,.n,.n,.e],.i 2])/\bW w w':=by
 have k:((s.size:Int) != 256)=true:=by simp;omega
 have l:((s.size:Int)==256)=false:=by simp;omega
 go_enter Tryz.func143,Tryz.ntmps143;have⟨b,c,d,f,g,h,i,j⟩:=bO (aC w gT);go_wp2;refine BI (v:=.tuple #[.agg #[.i 0,.i 0,.i 0,.i 0,.n,.n,.n,.e],.i 2]) ?_ rfl ⟨rfl,(AC _ w).alloc (BZ _) _⟩;simp[results,Tryz.results143,go_sem,b,c,d,f,g,h,i,j]
def Pg.encS(g:Pg):ByteArray:=Pages.encS g.kind g.ver g.root g.next g.keys g.kids g.ents g.data
def Pg.encE(g:Pg):Int:=Pages.dL g.kind g.ver g.root g.next g.keys g.kids g.ents g.data
def Pg.small(g:Pg):Prop:=Small g.keys g.kids g.ents g.data
def xM{a b:ByteArray}(h:a≠b):(a.toList==b.toList)=false:=by
 apply LJ.2;intro d;have c:a.toList=b.toList:=by simpa using d
 rw[ByteArray.toList_eq,ByteArray.toList_eq]at c;exact h (FO (Array.toList_inj.1 c))
def Jp{a b:ByteArray}(h:a=b):(a.toList==b.toList)=true:=by rw[h];simp
abbrev oL(G:Pg)(ka ia ea:Option Addr)(kc ic ec:Nat):Obj:=.cells #[.int .i64 G.kind,.int .i64 G.ver,.int .i64 G.root,.int .i64 G.next,.slice ka G.keys.length kc,.slice ia G.kids.length ic,.slice ea G.ents.length ec,.string G.data] 80
def wB(s w)(u:s.size=256)(r:(dN s.data.toList).small)(o:(dN s.data.toList).encE≠0):
  cL 143 #[.t s] w λe w'=>e=.r (.tuple #[.agg #[.i 0,.i 0,.i 0,.i 0,.s none 0 0,.s none 0 0,.s none 0 0,.e],.i 2])/\bW w w':=by
 have a1:((s.size:Int) != 256)=false:=by simp;omega
 have l:=mH s (w.alloc gT) u;have t:=aC w gT;have G:=fJ w gT;have F:bW w (w.alloc gT):=(AC _ w).alloc (BZ _) _;obtain⟨a,p⟩:∃a,a=dN s.data.toList:=⟨_,rfl⟩;rw[<-p]at l r o;rw[G]at l;clear u p;go_enter Tryz.func143,Tryz.ntmps143;go_upto_region 4 with(go_at_call 166;refine l.m ?_;rintro e b ⟨v,rfl,⟨a7,a6,a5,rfl,C,B,A⟩,m⟩;obtain⟨h,i,rfl,J⟩:=mZ C;obtain⟨f,g,rfl,I⟩:=mZ B;obtain⟨c,d,rfl,H⟩:=mZ A);have k:bW b (b.alloc (oL a h f c i g d)):=(AC _ b).alloc (BZ _) _;have a4:=fJ b (oL a h f c i g d);have D:=aC b (oL a h f c i g d);have q:=eV (x:=oL a h f c i g d) ((m.block w.heap.size (by simp)).t t);have a3:=(CP.1 ((m.block w.heap.size (by simp)).t t)).1;generalize hw2:b.alloc (oL a h f c i g d)=w2 at *;have z:=rW a.kind a.ver a.root a.next h f c i g d a.data a.keys a.kids a.ents w2 ((J.below k).m (by omega)) ((I.below k).m (by omega)) ((H.below k).m (by omega)) r;obtain⟨S,T,U,V,W,X,Y,Z⟩:=bO D;have a0:(Pages.dL a.kind a.ver a.root a.next a.keys a.kids a.ents a.data != 0)=true:=by simpa[Pg.encE] using o
 generalize Pages.dL a.kind a.ver a.root a.next a.keys a.kids a.ents a.data=EE at *;generalize Pages.encS a.kind a.ver a.root a.next a.keys a.kids a.ents a.data=SS at *;have y:=(F.t (m.m (by omega))).t (k.m (by omega));go_wp2_with (go_at_call 146;refine z.m ?_;rintro e a8 ⟨rfl,n⟩;have j:=(n.block w.heap.size (by omega)).t q;obtain⟨a9,aa,ab,ac,ad,ae,af,ag⟩:=bO j;have a2:=aA j);have j:=(n.block w.heap.size (by omega)).t q;have E:=wL j (.i 0) (.i 0) (.i 0) (.i 0) (.s none 0 0) (.s none 0 0) (.s none 0 0) .e;obtain⟨K,L,M,N,O,P,Q,R⟩:=bO E;refine BI (v:=.tuple #[.agg #[.i 0,.i 0,.i 0,.i 0,.s none 0 0,.s none 0 0,.s none 0 0,.e],.i 2]) ?_ rfl ⟨rfl,pK (y.t (n.m (by omega))) (β:=w.heap.size) (BZ _) (.i 0) (.i 0) (.i 0) (.i 0) (.s none 0 0) (.s none 0 0) (.s none 0 0) .e⟩;simp[results,Tryz.results143,go_sem,K,L,M,N,O,P,Q,R]
def Mp(s w)(y:s.size=256)(t:(dN s.data.toList).small)(o:(dN s.data.toList).encE=0)(r:(dN s.data.toList).encS≠s):
  cL 143 #[.t s] w λe w'=>e=.r (.tuple #[.agg #[.i 0,.i 0,.i 0,.i 0,.s none 0 0,.s none 0 0,.s none 0 0,.e],.i 2])/\bW w w':=by
 have a3:((s.size:Int) != 256)=false:=by simp;omega
 have l:=mH s (w.alloc gT) y;have u:=aC w gT;have I:=fJ w gT;have H:bW w (w.alloc gT):=(AC _ w).alloc (BZ _) _;obtain⟨a,p⟩:∃a,a=dN s.data.toList:=⟨_,rfl⟩;rw[<-p]at l t o r;rw[I]at l;clear y p;go_enter Tryz.func143,Tryz.ntmps143;go_upto_region 4 with(go_at_call 166;refine l.m ?_;rintro e b ⟨v,rfl,⟨a9,a8,a7,rfl,E,D,C⟩,m⟩;obtain⟨h,i,rfl,L⟩:=mZ E;obtain⟨f,g,rfl,K⟩:=mZ D;obtain⟨c,d,rfl,J⟩:=mZ C);have k:bW b (b.alloc (oL a h f c i g d)):=(AC _ b).alloc (BZ _) _;have a6:=fJ b (oL a h f c i g d);have F:=aC b (oL a h f c i g d);have q:=eV (x:=oL a h f c i g d) ((m.block w.heap.size (by simp)).t u);have a5:w.heap.size<b.heap.size:=(CP.1 ((m.block w.heap.size (by simp)).t u)).1;generalize hw2:b.alloc (oL a h f c i g d)=w2 at *;clear hw2;have B:=rW a.kind a.ver a.root a.next h f c i g d a.data a.keys a.kids a.ents w2 ((L.below k).m (by omega)) ((K.below k).m (by omega)) ((J.below k).m (by omega)) t;obtain⟨U,V,W,X,Y,Z,a0,a1⟩:=bO F;have z:Pages.dL a.kind a.ver a.root a.next a.keys a.kids a.ents a.data=0:=o;have a2:((Pages.encS a.kind a.ver a.root a.next a.keys a.kids a.ents a.data).toList==s.toList)=false:=xM r;generalize Pages.dL a.kind a.ver a.root a.next a.keys a.kids a.ents a.data=EE at *;generalize Pages.encS a.kind a.ver a.root a.next a.keys a.kids a.ents a.data=SS at *;subst z;have A:=(H.t (m.m (by omega))).t (k.m (by omega));go_wp2_with (go_at_call 146;refine B.m ?_;rintro e aa ⟨rfl,n⟩;have j:=(n.block w.heap.size (by omega)).t q;obtain⟨ab,ac,ad,ae,af,ag,ah,ai⟩:=bO j;have a4:=aA j);have j:=(n.block w.heap.size (by omega)).t q;have G:=wL j (.i 0) (.i 0) (.i 0) (.i 0) (.s none 0 0) (.s none 0 0) (.s none 0 0) .e;obtain⟨M,N,O,P,Q,R,S,T⟩:=bO G;refine BI (v:=.tuple #[.agg #[.i 0,.i 0,.i 0,.i 0,.s none 0 0,.s none 0 0,.s none 0 0,.e],.i 2]) ?_ rfl ⟨rfl,pK (A.t (n.m (by omega))) (β:=w.heap.size) (BZ _) (.i 0) (.i 0) (.i 0) (.i 0) (.s none 0 0) (.s none 0 0) (.s none 0 0) .e⟩;simp[results,Tryz.results143,go_sem,M,N,O,P,Q,R,S,T]
def Rx(s w)(F:s.size=256)(D:(dN s.data.toList).small)(r:(dN s.data.toList).encE=0)(B:(dN s.data.toList).encS=s):
  cL 143 #[.t s] w λe w'=>∃v,e=.r (.tuple #[v,.i 0])/\qDk w' w.heap.size (dN s.data.toList) v/\bW w w':=by
 have aj:((s.size:Int) != 256)=false:=by simp;omega
 have p:=mH s (w.alloc gT) F;have E:=aC w gT;have Q:=fJ w gT;have P:bW w (w.alloc gT):=(AC _ w).alloc (BZ _) _;obtain⟨a,u⟩:∃a,a=dN s.data.toList:=⟨_,rfl⟩;rw[<-u]at p D r B⊢;rw[Q]at p;clear F u;go_enter Tryz.func143,Tryz.ntmps143;go_upto_region 4 with(go_at_call 166;refine p.m ?_;rintro e i ⟨v,rfl,⟨ap,ao,an,rfl,z,y,t⟩,q⟩;obtain⟨g,h,rfl,T⟩:=mZ z;obtain⟨d,f,rfl,S⟩:=mZ y;obtain⟨b,c,rfl,R⟩:=mZ t);have k:bW i (i.alloc (oL a g d b h f c)):=(AC _ i).alloc (BZ _) _;have am:=fJ i (oL a g d b h f c);have C:=aC i (oL a g d b h f c);have A:=eV (x:=oL a g d b h f c) ((q.block w.heap.size (by simp)).t E);have al:w.heap.size<i.heap.size:=(CP.1 ((q.block w.heap.size (by simp)).t E)).1;generalize hw2:i.alloc (oL a g d b h f c)=w2 at *;clear hw2;have K:=rW a.kind a.ver a.root a.next g d b h f c a.data a.keys a.kids a.ents w2 ((T.below k).m (by omega)) ((S.below k).m (by omega)) ((R.below k).m (by omega)) D;obtain⟨a2,a3,a4,a5,a6,a7,a8,a9⟩:=bO C;have G:Pages.dL a.kind a.ver a.root a.next a.keys a.kids a.ents a.data=0:=r;have ai:((Pages.encS a.kind a.ver a.root a.next a.keys a.kids a.ents a.data).toList==s.toList)=true:=Jp B;generalize Pages.dL a.kind a.ver a.root a.next a.keys a.kids a.ents a.data=EE at *;generalize Pages.encS a.kind a.ver a.root a.next a.keys a.kids a.ents a.data=SS at *;subst G;have I:bW w w2:=(P.t (q.m (by omega))).t (k.m (by omega));go_wp2_with (go_at_call 146;refine K.m ?_;rintro e n ⟨rfl,l⟩;have m:=(l.block w.heap.size (by omega)).t A;obtain⟨aq,ar,au,av,aw,ax,ay,az⟩:=bO m;have ak:=aA m;have N:=(l.block i.heap.size (by omega)).t C;obtain⟨aa,ab,ac,ad,ae,af,ag,ah⟩:=bO N);have m:=(l.block w.heap.size (by omega)).t A;have O:=wL m (.i a.kind) (.i a.ver) (.i a.root) (.i a.next) (.s g a.keys.length h) (.s d a.kids.length f) (.s b a.ents.length c) (.t a.data);obtain⟨U,V,W,X,Y,Z,a0,a1⟩:=bO O;have j:w.heap.size<w.heap.size+1:=DH _;have o:bW i n:=k.t (l.m (by omega));have M:Keys n _ _ _:=z.below o;have L:Ints n _ _ _:=sX y (eA.of_below (ρ:=0) o |> λH=>H) (by omega);have J:fY n _ _ _:=t.only (eA.of_below (ρ:=0) o) (by omega);refine BI (v:=.tuple #[.agg #[.i a.kind,.i a.ver,.i a.root,.i a.next,.s g a.keys.length h,.s d a.kids.length f,.s b a.ents.length c,.t a.data],.i 0]) ?_ rfl ⟨_,rfl,⟨_,_,_,rfl,sZ (wZ M j (.i a.kind) (.i a.ver) (.i a.root) (.i a.next) (.s g a.keys.length h) (.s d a.kids.length f) (.s b a.ents.length c) (.t a.data)) (by omega),sZ (wZ L j (.i a.kind) (.i a.ver) (.i a.root) (.i a.next) (.s g a.keys.length h) (.s d a.kids.length f) (.s b a.ents.length c) (.t a.data)) (by omega),((((((((J.set j 0 _).set j 1 _).set j 2 _).set j 3 _).set j 4 _).set j 5 _).set j 6 _).set j 7 _).m (by omega)⟩,pK (I.t (l.m (by omega))) (β:=w.heap.size) (BZ _) (.i a.kind) (.i a.ver) (.i a.root) (.i a.next) (.s g a.keys.length h) (.s d a.kids.length f) (.s b a.ents.length c) (.t a.data)⟩;simp[results,Tryz.results143,go_sem,U,V,W,X,Y,Z,a0,a1]
def pI{a:Type}(f:a->List UInt8)(c):∀(l:List a),(∀x∈l,(f x).length<=c)->(l.flatMap f).length<=l.length * c
 |[],_=>by simp
 |x :: l,h=>by
  have e:=h x (by simp);have g:=pI f c l (λd b=>h d (by simp[b]));rw[AK,CG,ET,JG];omega
def Jz(b a n):(jS b a n).length=n:=by simp[jS]
def Jy(b a n):(kD b a n).length=n:=by simp[kD]
def Kj(b a n):(fN b a n).length=n:=by simp[fN]
def wI(b a):(nZ b a).length<=255:=by
 have:=(b.getD a 0).toNat_lt;unfold nZ;grind
def nG(k n):(beB k n).length=k:=aL k n
def xJ(l:List UInt8):(⟨l.toArray⟩:ByteArray).size=l.length:=by rfl
def Dl {c}(h:s.size<=c):(dX s).length<=c+1:=by
 unfold dX;simp_all
def qJz(b a):(sF b a).key.size<=255/\(sF b a).val.size<=255:=by
 unfold sF;split
 .exact⟨by rw[xJ];exact wI _ _,by rw[xJ];exact wI _ _⟩
 .exact⟨by rw[xJ];exact wI _ _,AG _⟩
def qIc{e:Ent}(h:e.key.size<=255/\e.val.size<=255):e.bytes.length<=600:=by
 have a:=Dl h.1;have b:=Dl h.2;unfold Ent.bytes mM;rw[CG];split
 .grind
 .rw[CG,CG,nG,nG];simp;omega
def sS(a):(dN a).small:=by
 have o:=(a.getD (aZ a 0 1) 0).toNat_lt;have g:∀d:ByteArray,d.size<=255->Small [] [] [] d:=λd n=>⟨by simp,by simp,by simp,by simp,by simp[eS,nG],by simp[mS,nG],by omega⟩;unfold dN mI;split
 .exact g _ (AG _)
 split
 .have h:(jS a (aZ a (aZ a (aZ a 0 1) 1) (2 * ((a.getD (aZ a 0 1) 0).toNat+1))) (a.getD (aZ a 0 1) 0).toNat).length<=255:=by rw[Jz];omega
  have l:(kD a (aZ a (aZ a 0 1) 1) ((a.getD (aZ a 0 1) 0).toNat+1)).length<=256:=by rw[Jy];omega
  refine⟨CF h (by omega),CF l (by omega),by simp,by simp,?_,by simp[mS,nG],AG _⟩;unfold eS;have j:=pI (beB 2) 2 (kD a (aZ a (aZ a 0 1) 1) ((a.getD (aZ a 0 1) 0).toNat+1)) (λi _=>by rw[nG];omega);have m:=pI dX 256 (jS a (aZ a (aZ a (aZ a 0 1) 1) (2 * ((a.getD (aZ a 0 1) 0).toNat+1))) (a.getD (aZ a 0 1) 0).toNat) (λi c=>by
   simp only[jS,AW]at c;obtain⟨k,_,rfl⟩:=c;exact Dl (by rw[xJ];exact wI _ _))
  rw[CG,CG,nG];grind
 split
 .have h:(fN a (aZ a (aZ a 0 1) 1) (a.getD (aZ a 0 1) 0).toNat).length<=255:=by rw[Kj];omega
  have f:∀b∈fN a (aZ a (aZ a 0 1) 1) (a.getD (aZ a 0 1) 0).toNat,b.key.size<=255/\b.val.size<=255:=λi c=>by
   simp only[fN,AW]at c;obtain⟨k,_,rfl⟩:=c;exact qJz _ _
  refine⟨by simp,by simp,CF h (by omega),λb e=>⟨CF (f b e).1 (by omega),CF (f b e).2 (by omega)⟩,by simp[eS,nG],?_,AG _⟩;unfold mS;have j:=pI Ent.bytes 600 _ (λb e=>qIc (f b e));rw[CG,nG];grind
 split
 .exact g _ (by rw[xJ];exact wI _ _)
 .exact g _ (AG _)
def wC(s w):
    cL 143 #[.t s] w λe w'=>bW w w' /\
      ((s.size=256/\(dN s.data.toList).encE=0/\(dN s.data.toList).encS=s/\∃v,e=.r (.tuple #[v,.i 0])/\qDk w' w.heap.size (dN s.data.toList) v) \/
       (¬(s.size=256/\(dN s.data.toList).encE=0/\(dN s.data.toList).encS=s)/\e=.r (.tuple #[.agg #[.i 0,.i 0,.i 0,.i 0,.n,.n,.n,.e],.i 2]))):=by
  by_cases hs:s.size=256
  . by_cases hE:(dN s.data.toList).encE=0
    . by_cases hO:(dN s.data.toList).encS=s
      . exact(Rx s w hs (sS _) hE hO).m λe w' ⟨v,b,d,a⟩=>⟨a,.inl ⟨hs,hE,hO,v,b,d⟩⟩
      . exact(Mp s w hs (sS _) hE hO).m λe w' ⟨b,a⟩=>⟨a,.inr ⟨λc=>hO c.2.2,b⟩⟩
    . exact(wB s w hs (sS _) hE).m λe w' ⟨b,a⟩=>⟨a,.inr ⟨λc=>hE c.2.1,b⟩⟩
  . exact(Bp s w hs).m λe w' ⟨b,a⟩=>⟨a,.inr ⟨λc=>hs c.1,b⟩⟩
def Has(bs:List UInt8)(a:Nat)(l:List UInt8):Prop:=∃p r,bs=p++(l++r)/\p.length=a
def Has.le (h:Has b a l):a+l.length<=b.length:=by
 obtain⟨p,r,rfl,rfl⟩:=h;simp
def Has.left {l m}(h:Has b a (l++m)):Has b a l:=by
 obtain⟨p,r,rfl,rfl⟩:=h;exact⟨p,m++r,by simp,rfl⟩
def Has.right {l m}(h:Has b a (l++m)):Has b (a+l.length) m:=by
 obtain⟨p,r,rfl,rfl⟩:=h;exact⟨p++l,r,by simp,by simp⟩
def Has.pos (h:Has b a l){k}(c:k<=l.length):aZ b a k=a+k:=by
 have:=h.le;unfold aZ;omega
def Has.getD (h:Has b a l){k}(c:k<l.length):b.getD (a+k) 0=l[k]:=by
 obtain⟨p,r,rfl,rfl⟩:=h;grind
def Has.head {b}(h:Has c a (b :: l)):c.getD a 0=b:=by
 have:=h.getD (k:=0) (by simp);grind
def Has.tail {b}(h:Has c a (b :: l)):Has c (a+1) l :=
 Has.right (l:=[b]) h
def Has.slice (h:Has b a l):(b.drop a).take l.length=l:=by
 obtain⟨p,r,rfl,rfl⟩:=h;simp
def byte_of(m)(a:0<=m)(b:m<256):((UInt8.ofNat m.toNat).toNat:Int)=m:=by
 rw[GI (by grind)];omega
def Zk(n m):((UInt8.ofNat ((n / 2 ^ m % 256).toNat)).toNat:Int)=n / 2 ^ m % 256:=byte_of _ (by omega) (by omega)
def Ym (h:Has b a (beB 1 n))(d:0<=n)(e:n<256):((b.getD a 0).toNat:Int)=n:=by
 rw[h.head,Zk];grind
def xI (h:Has b a (beB 2 n))(e:0<=n)(f:n<65536):(iI b a 2:Int)=n:=by
 simp only[iI,DW,h.head,h.tail.head,EB,DS];rw[Int.natCast_add,Int.natCast_mul,Zk,Zk];omega
def qBi {k}(h:Has k a (beB 8 n))(l:0<=n)(m:n<9223372036854775808):(iI k a 8:Int)=n:=by
 have b:=h.head;have c:=h.tail.head;have d:=h.tail.tail.head;have e:=h.tail.tail.tail.head;have f:=h.tail.tail.tail.tail.head;have g:=h.tail.tail.tail.tail.tail.head;have i:=h.tail.tail.tail.tail.tail.tail.head;have j:=h.tail.tail.tail.tail.tail.tail.tail.head;simp only[FN]at b c d e f g i j;simp only[Nat.reduceAdd]at b c d e f g i j;simp only[iI,DW,b,c,d,e,f,g,i,j,EB,DS];simp only[Int.natCast_add,Int.natCast_mul,Zk];omega
def Tb(s):(⟨s.data.toList.toArray⟩:ByteArray)=s:=by rfl
def Kz (h:Has c a (dX s))(j:s.size<256):(⟨(nZ c a).toArray⟩:ByteArray)=s/\(nZ c a).length=s.size/\iH c a=a+(dX s).length:=by
 have d:(c.getD a 0).toNat=s.size:=by
  rw[Has.head (l:=s.data.toList) h,GI (by omega)]
 have i:aZ c a 1=a+1:=h.pos (by simp[dX]);have f:Has c (a+1) s.data.toList:=Has.tail (b:=UInt8.ofNat s.size) h;have g:s.data.toList.length=s.size:=Bq s;have e:nZ c a=s.data.toList:=by
  unfold nZ;rw[i,d,<-g];exact f.slice
 refine⟨by rw[e,Tb],by rw[e,g],?_⟩;have:=f.le;unfold iH;rw[i,d];simp only[dX,CG,ET,KI];omega
def xY (h:s.toList.isEmpty=true):s=⟨#[]⟩:=by
 rw[ByteArray.toList_eq]at h;rw[<-Tb s,List.isEmpty_iff.1 h]
def qLq {d e}(h:Has d a e.bytes)(r:e.key.size<=24)(i:qB e.val e.size e.over=true):sF d a=e/\Cg d a=a+e.bytes.length:=by
 have⟨c,v,n,o⟩:=e;simp only[Ent.bytes,mM]at h r i⊢;have⟨p,B,q⟩:=Kz h.left (by omega);have f:=h.right;by_cases ho:(o==0)=true
 .rw[AU ho]at f⊢
  have g:d.getD (a+(dX c).length) 0=0:=f.head;have j:aZ d (a+(dX c).length) 1=a+(dX c).length+1:=f.pos (by simp);obtain rfl:o=0:=by grind
  simp[qB,pE]at i;have⟨y,z,A⟩:=Kz (Has.tail (b:=0) f) (by omega);unfold sF Cg;rw[q,AU g,AU g,j,p,y,z,A];refine⟨?_,by simp;omega⟩;rw[i.2]
 .rw[AR ho]at f⊢
  have g:¬d.getD (a+(dX c).length) 0=0:=by rw[Has.head (b:=1) (l:=beB 2 n++beB 2 o) (by grind)];decide
  have j:aZ d (a+(dX c).length) 1=a+(dX c).length+1:=f.pos (by simp);have s:o≠0:=by grind
  simp only[qB,s,bI,DR,AP,BT,CT,false_and,false_or]at i;have k:Has d (a+(dX c).length+1) (beB 2 n++beB 2 o):=Has.tail (b:=1) (by grind);have t:aZ d (a+(dX c).length+1) 2=a+(dX c).length+1+2:=k.pos (by simp[aL]);have m:=k.right;rw[aL]at m;have u:aZ d (a+(dX c).length+1+2) 2=a+(dX c).length+1+2+2:=m.pos (by simp[aL]);unfold sF Cg;rw[q,AR g,AR g,j,t,u,p,xI k.left (by omega) (by omega),xI m (by omega) (by omega)];refine⟨?_,by simp[aL];omega⟩;rw[xY i.1.1.2]
def Vp(b a n):jS b a (n+1)=(⟨(nZ b a).toArray⟩:ByteArray):: jS b (iH b a) n:=by
 have d:∀c,lX b a (c+1)=lX b (iH b a) c:=λc=>by
  induction c with
  |zero=>rfl
  |succ c ih=>rw[lX,ih,<-lX]
 simp only[jS,KC,BH,GA];refine CI (List.cons _) (EF λc _=>?_);grind
def Vn(b a n):kD b a (n+1)=(iI b (aZ b a 0) 2:Int):: kD b (aZ b a 2) n:=by
 simp only[kD,KC,BH,GA];refine CI (List.cons _) (EF λc _=>?_);simp only[Function.comp,Nat.succ_eq_add_one,Jc];rw[show 2 * (c+1)=2+2 * c by omega]
def Wp(b a n):fN b a (n+1)=sF b a :: fN b (Cg b a) n:=by
 have d:∀c,mR b a (c+1)=mR b (Cg b a) c:=λc=>by
  induction c with
  |zero=>rfl
  |succ c ih=>rw[mR,ih,<-mR]
 simp only[fN,KC,BH,GA];refine CI (List.cons _) (EF λc _=>?_);grind
def Yx:∀{b:List ByteArray}{a:Nat},Has c a (b.flatMap dX)->(∀k∈b,k.size<256)->jS c a b.length=b
 |[],_,_,_=>rfl
 |k :: l,a,h,hs=>by
  rw[AK]at h;have⟨e,i,f⟩:=Kz h.left (hs k (by simp));rw[ET,Vp,e,f,Yx h.right (λg d=>hs g (by simp[d]))]
def Yw:∀{c:List Int}{a:Nat},Has b a (c.flatMap (beB 2))->(∀k∈c,0<=k/\k<65536)->kD b a c.length=c
 |[],_,_,_=>rfl
 |k :: l,a,h,hs=>by
  rw[AK]at h;have e:aZ b a 0=a:=h.pos (AG _);have f:aZ b a 2=a+2:=h.pos (by simp[aL]);have d:=h.right;rw[aL]at d;rw[ET,Vn,e,xI h.left (hs k (by simp)).1 (hs k (by simp)).2,f,Yw d (λj g=>hs j (by simp[g]))]
def Zf:∀{b:List Ent}{a:Nat},Has c a (b.flatMap Ent.bytes)->(∀e∈b,e.key.size<=24/\qB e.val e.size e.over=true)->fN c a b.length=b
 |[],_,_,_=>rfl
 |e :: l,a,h,hs=>by
  rw[AK]at h;have⟨f,g⟩:=qLq h.left (hs e (by simp)).1 (hs e (by simp)).2;rw[ET,Wp,f,g,Zf h.right (λi d=>hs i (by simp[d]))]
def Ge:∀(a:List Int),(a.flatMap (beB 2)).length=2 * a.length
 |[]=>rfl
 |k :: l=>by rw[AK,CG,aL,Ge l,ET];omega
def Du:∀{b:List ByteArray}{l:ByteArray},fZ l b=true->∀k∈b,k.size<=24
 |[],_,_=>by simp
 |k :: r,l,h=>by
  simp only[fZ,gX,AP,BT]at h;intro c a;rcases AS.1 a with rfl|a
  .exact h.1.2
  .exact Du h.2 c a
def Pi:∀{b:List Ent}{l:ByteArray},gC l b=true->∀e∈b,e.key.size<=24/\qB e.val e.size e.over=true
 |[],_,_=>by simp
 |k :: r,l,h=>by
  simp only[gC,gX,AP,BT]at h;intro c a;rcases AS.1 a with rfl|a
  .grind
  .exact Pi h.2 c a
def rJ{a:Type}{l:List a}(h:((l.length:Int)==0)=true):l=[]:=AH (by grind)
def Mi{a:Type}(f:a->List UInt8):∀(l:List a),(∀x∈l,1<=(f x).length)->l.length<=(l.flatMap f).length
 |[],_=>by simp
 |x :: l,h=>by
  have d:=h x (by simp);have e:=Mi f l (λc b=>h c (by simp[b]));grind
def Ip(s):1<=(dX s).length:=by simp[dX]
def qDe(e:Ent):1<=e.bytes.length:=by
 have:=Ip e.key;simp only[Ent.bytes,mM,CG];omega
def qW (a:0<=n)(b:n<9223372036854775808):wrap64 n=n:=by unfold wrap64;omega
def Ue(g)(D:g.ver<9223372036854775808)(A:g.encE=0):dN g.encS.data.toList=g:=by
 have⟨j,y,r,next,c,x,i,u⟩:=g;simp only[Pg.encE,Pg.encS,Pages.dL,Pages.encS]at A D⊢;split at A
 case isFalse=>simp at A
 case isTrue hT =>
 rw[AU hT];simp only[AP,BT]at hT;have⟨b,t⟩:=hT;have a:Has (uY (fieldsB j y r next c x i u)) 0 (fieldsB j y r next c x i u):=
  ⟨[],_,by rw[uY,Hr,BU];rfl,rfl⟩
 have I:((⟨(uY (fieldsB j y r next c x i u)).toArray⟩:ByteArray)).data.toList=uY (fieldsB j y r next c x i u):=by simp
 rw[I];clear I;generalize uY (fieldsB j y r next c x i u)=bs at a⊢;unfold dN;unfold eF at b;by_cases h1:j=1
 .subst h1
  rw[AU rfl]at b;simp only[fR,lT,lC,Jl,AP,BT,DR,bI]at b;have⟨⟨⟨⟨n,o⟩,p⟩,q,h⟩,w,d⟩:=b;rw[fieldsB,AU rfl]at a;have e:bs.getD 0 0=1:=a.left.left.head;have k:aZ bs 0 1=1:=a.pos (by simp[aL]);have m:=a.left.right;rw[aL]at m;have l:aZ bs 1 8=9:=m.pos (by simp[aL]);have v:=a.right;rw[CG,aL,aL]at v;have K:0<=r/\r<65536:=by
   grind
  rw[e,show mI bs (1:UInt8).toNat=_ from AU rfl,k,l,xI v K.1 K.2];rw[qBi m w D,qW w D,rJ n,rJ o,rJ p,xY h,CT.1 q]
 by_cases h2:j=2
 .subst h2
  rw[AR h1,AU rfl]at b;simp only[lD,lT,lC,gY,AP,BT]at b;have⟨⟨⟨⟨n,o⟩,p⟩,q,h⟩,⟨⟨w,d⟩,P⟩,Q⟩:=b;rw[fieldsB,AR h1,AU rfl]at a t;have N:c.length<256:=by
   have:=Mi dX c (λG _=>Ip G);rw[eS]at t;grind
  have e:bs.getD 0 0=2:=a.left.head;have k:aZ bs 0 1=1:=a.pos (by simp[aL]);have f:=a.right;rw[aL,eS]at f;have B:=Ym f.left.left (by omega) (by omega);have C:(bs.getD 1 0).toNat=c.length:=by grind
  have l:aZ bs 1 1=2:=f.pos (by simp[aL]);have s:=f.left.right;rw[aL]at s;have O:aZ bs 2 (2 * (c.length+1))=2+2 * (c.length+1):=s.pos (by rw[Ge,d];omega);have H:=f.right;rw[CG,aL,Ge,d]at H;rw[e,show mI bs (2:UInt8).toNat=_ from (AR (by decide)).t (AU rfl),k,C,l,O,<-d,Yw s (λE e=>by have:=LP.1 P E e;simp[bI]at this;omega),d];rw[show 2+2 * (c.length+1)=0+1+(1+2 * (c.length+1)) by omega,Yx H (λE e=>by have:=Du Q E e;omega)];rw[CT.1 n,CT.1 o,rJ p,CT.1 q,xY h]
 by_cases h3:j=3
 .subst h3
  rw[AR h1,AR h2,AU rfl]at b;simp only[lD,fR,lC,AP,BT]at b;have⟨⟨⟨⟨n,o⟩,p,F⟩,q,h⟩,w,d⟩:=b;rw[fieldsB,AR h1,AR h2,AU rfl]at a t;have N:i.length<256:=by
   have:=Mi Ent.bytes i (λG _=>qDe G);rw[mS]at t;grind
  have e:bs.getD 0 0=3:=a.left.head;have k:aZ bs 0 1=1:=a.pos (by simp[aL]);have f:=a.right;rw[aL,mS]at f;have B:=Ym f.left (by omega) (by omega);have C:(bs.getD 1 0).toNat=i.length:=by grind
  have l:aZ bs 1 1=2:=f.pos (by simp[aL]);have s:=f.right;rw[aL]at s;rw[e,show mI bs (3:UInt8).toNat=_ from (AR (by decide)).t ((AR (by decide)).t (AU rfl)),k,C,l];rw[show 2=0+1+1 from rfl,Zf s (Pi d)];rw[CT.1 n,CT.1 o,rJ p,rJ F,CT.1 q,xY h]
 by_cases h4:j=4
 .subst h4
  rw[AR h1,AR h2,AR h3,AU rfl]at b;simp only[lD,fR,lT,Ek,AP,BT,DR,bI]at b;have⟨⟨⟨⟨n,o⟩,p,F⟩,q⟩,h,w,d⟩:=b;rw[fieldsB,AR h1,AR h2,AR h3]at a;have e:bs.getD 0 0=4:=a.left.left.head;have k:aZ bs 0 1=1:=a.pos (by simp[aL]);have m:=a.left.right;rw[aL]at m;have l:aZ bs 1 2=3:=m.pos (by simp[aL]);have v:=a.right;rw[CG,aL,aL]at v;have J:0<=next/\next<65536:=by
   grind
  have⟨R,S,T⟩:=Kz v (by omega);rw[e,show mI bs (4:UInt8).toNat=_ from (AR (by decide)).t ((AR (by decide)).t ((AR (by decide)).t (AU rfl))),k,l,xI m J.1 J.2];rw[show 3=0+(1+2) from rfl,R,CT.1 n,CT.1 o,rJ p,rJ F,rJ q]
 grind
def Na{P}(w base t r e i z size bytes)(F:P.underlying t=some (.slice e))(hi:P.info? e=some i)(S:i.zero=some z)(a5:i.size=size)(X:i.bytes=bytes)(ad:z.cells.size=size)(ab:0<size)(v n xs)(E:w.ownsRow base e size v n xs)(a m c)(d:List Value)(q:d.length=m * size)(D:∀j u,d[j]?=some u->w.cell? (a.add j)=some u)(U:∀u∈d,u.oneCell'=true)(a8:0<m)(V:n+m<=maxLen)(M:(n+m) * bytes<=140737488355328)(v' w')(b:(Builtin.append_ #[t,t] r #[v,.s (some a) m c]).run P w=.ok v' w')(x f s H)(K:w.ownsRow x e size s f H)(a4:s.ownBlock≠v.ownBlock\/f<=n):w'.ownsRow x e size s f H:=by
 subst a5;subst X;have aa:n+m<=9223372036854775807:=by simp only[maxLen]at V;omega
 have J:∀o,w'=w.drew.alloc o->w'.ownsRow x e i.size s f H:=λo k=>by
  rw[k];exact CH (w:=w.drew) (World.ownsRow.drew K) o
 rcases E.2 with⟨rfl,rfl⟩|⟨g,y,A,rfl,a6,C,a9,a7,Z,ac⟩
 .have l:=run_append_nil (P:=P) w t r e i z F hi S a m c d q D (by omega) (by omega) (by grind)
  grind
 .by_cases hroom:n+m<=y
  .have a0:n * i.size+d.length<=A.size:=by rw[q,Z,<-Nat.add_mul];exact FV _ hroom
   rw[run_append_room (P:=P) w t r e i F hi g n y A C a m c d q D U hroom a0]at b;simp only[KR]at b;rw[<-b.2];obtain⟨G,⟨rfl,T⟩|⟨h,I,B,rfl,L,p,Q,N,O,R⟩⟩:=id K
   .exact⟨G,.inl ⟨rfl,T⟩⟩
   .by_cases hgg:h=g
    .subst hgg
     have W:f<=n:=by
      rcases a4 with k|k
      .exact absurd rfl k
      .exact k
     have Y:B=A:=by grind
     subst Y;refine⟨G,.inr ⟨h,I,_,rfl,L,setRow_heap w h B _ e _ C,Q,N,by grind,?_⟩⟩
     .have a1:f * i.size<=n * i.size:=FV _ W
      grind
    .exact⟨G,.inr ⟨h,I,B,rfl,L,by rw[setRow_other w g h _ hgg];exact p,Q,N,O,R⟩⟩
  .have l:=run_append_grow (P:=P) w t r e i z F hi S (aD g 0) n y xs E.1 (E.cells (g:=g) rfl) a m c d q D (by omega) (by omega) (JO (by omega) M);grind
def lN(n:Nat):ByteArray:=⟨#[126,UInt8.ofNat n,UInt8.ofNat (n / 256)]⟩
def Ko(u:World)(a b):
  (convert 108 9 (.q u.heap.size 3 3)).run Tryz.prog (u.alloc (.cells #[.int .u8 126,.int .u8 (a.toNat:Int),.int .u8 (b.toNat:Int)] 5))=.ok (.t ⟨#[126,a,b]⟩) (u.alloc (.cells #[.int .u8 126,.int .u8 (a.toNat:Int),.int .u8 (b.toNat:Int)] 5)):=by
 have e:=run_convert_bytes_back (P:=Tryz.prog) (u.alloc (.cells #[.int .u8 126,.int .u8 (a.toNat:Int),.int .u8 (b.toNat:Int)] 5)) 108 9 5 (aD u.heap.size 0) 3 [126,a,b] Tryz.underlying108 Tryz.underlying5 Tryz.underlying9 (λc f=>by
  have d:((aD u.heap.size 0):Addr).add c=(aD u.heap.size c):=by unfold Addr.add;split<;>simp_all
  rw[d];simp only[World.cell?,aC u (.cells #[.int .u8 126,.int .u8 (a.toNat:Int),.int .u8 (b.toNat:Int)] 5)];have:c=0\/c=1\/c=2:=by grind
  rcases this with rfl|rfl|rfl<;>rfl)
 exact e
def Oz(n:Nat)(w)(f:n<=10000):
  cL 30 #[.i n] w λe w'=>e=.r (.t (lN n))/\bW w w':=by
 have a:=Ko w (UInt8.ofNat n) (UInt8.ofNat (n / 256));have b:((UInt8.ofNat n).toNat:Int)=(n:Int) % 256:=by simp
 have c:((UInt8.ofNat (n / 256)).toNat:Int)=(n:Int) / 256:=by rw[GI (by grind)];omega
 rw[b,c]at a;have d:(⟨#[126,UInt8.ofNat n,UInt8.ofNat (n / 256)]⟩:ByteArray)=lN n:=rfl;rw[d]at a;go_enter Tryz.func30,Tryz.ntmps30;go_wp2;go_ret;exact⟨rfl,(AC _ _).alloc (BZ _) _⟩
