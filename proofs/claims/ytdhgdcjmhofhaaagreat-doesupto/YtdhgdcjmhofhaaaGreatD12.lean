import Derived.Test.YtdhgdcjmhofhaaaGreatD11
import Derived.Deep.CutBlock
import Derived.Deep.RegionLaw
set_option linter.all false
set_option maxRecDepth 100000
set_option maxHeartbeats 8000000
namespace Go.Proofs.YtdhgdcjmhofhaaaGreat.Pages
open Go.RowKit
variable {a:Nat} {b c l:List UInt8} {n:Int} {s:ByteArray}
abbrev qJx(ve:Value):Obj:=.cells #[.int .i64 3,.int .i64 0,.int .i64 0,.int .i64 0,.slice none 0 0,.slice none 0 0,ve,.string ⟨#[]⟩] 80
theorem Rd.drew {w ρ g c}(h:Rd w ρ g c b a):Rd w.drew ρ g c b a:=⟨h.box,h.bytes,h.ne,h.lt,h.le,h.len,h.cap⟩
theorem Ax{ops o a K Q F}(w)(i:o.guard=none)(b x)(m:o.op=.call {callee:=.builtin .append,args:=#[b,x],argTypes:=#[67,67]})(B es v)(p:a.eval b=v)(d:fR w B v es)(f:B<=w.heap.size)(k)(r:a.eval x=.q w.heap.size 1 1)(D:es.length+1<=4294967296)(h:∀v' w',fR w' B v' (es++[k])->Below B w w'->K (a.put o.dst v') w'):
    if Region.wanted o (yielded ops a.tmps)=true then Oper.wp Tryz.prog o a (w.alloc (.cells #[.string k.key,.string k.val,.i k.size,.i k.over] 69)) K Q else F:=by
  have q:Region.wanted o (yielded ops a.tmps)=true:=by simp[Region.wanted,i]
  rw[AW q];have⟨y,j,s,t,u⟩:=info_parts Xo;apply wp_append_own _ b x 67 m B 69 y (.agg #[.string ⟨#[]⟩,.string ⟨#[]⟩,.i 0,.i 0]) 4 48 Tryz.underlying67 j s t u rfl (by decide) v es.length (es.flatMap Ent.cells) p (d.alloc _) ⟨w.heap.size,0,none⟩ 1 1 k.cells r rfl (Uu _ _ _ _ _ _) (by intro E c;simp[Ent.cells]at c;rcases c with rfl|rfl|rfl|rfl<;>rfl) (by unfold maxLen;omega) (by omega) (by simp;omega);intro A C n g _;refine h A C ?_ (((AC B w).alloc f _).grown g (by simp;omega) (λz l=>(ED (w:=w) d z l).1));unfold fR;rw[BU,CE];have e : [k].flatMap Ent.cells=k.cells:=by simp
  rw[e];exact n
theorem Za(s w)(hs:s.size=256)(hk:(s.data.toList.getD 0 0).toNat=3)(p)(hp:p=bB s.data.toList 0 1)(m)(hm:m=(s.data.toList.getD p 0).toNat)(P)(hP:P=bB s.data.toList p 1):
    cL 166 #[.string s] w λe w'=>∃ ve,e=.returned (.agg #[.i 3,.i 0,.i 0,.i 0,.n,.n,ve,.string ⟨#[]⟩]) ∧
      fR w' w.heap.size ve (fI s.data.toList P m)∧bW w w':=by
  have⟨c,v,hcv,hvs,hrd,hzz,hbb⟩:=pM s w hs;have⟨bs,hbs⟩:∃ bs,bs=s.data.toList:=⟨_,rfl⟩;rw [← hbs] at hrd hk hm hp hP ⊢;have hN:=kQ _ _ _ _ _ _ hrd;rw [hk,← hp] at hN;have hM:=λw2 (h2:Rd w2 (w.heap.size+1+1) (w.heap.size+1) c bs p)=>kQ _ _ _ _ _ _ h2;rw [← hm,← hP] at hM;have hmt:m<256:=by rw [hm];exact(bs.getD p 0).toNat_lt
  clear hs hp hk hbs hm hP;go_enter Tryz.func166,Tryz.ntmps166;go_upto_region 4 with(go_at_call 177;apply hN.mono;rintro e w1 ⟨rfl,hr1,ho1⟩);have hE1:=aA w1 (kN 3);have hz1:=fG w1 (kN 3);have hγ:w1.heap.size≠w.heap.size+1+1:=DK hr1.lt';have hγg:w1.heap.size≠w.heap.size+1:=DK hr1.lt;have hγz:w.heap.size<w1.heap.size:=by have:=hr1.lt;omega
  have hγ':w.heap.size+1+1<w1.heap.size:=hr1.lt';have hM1:=hM _ (hr1.alloc (kN 3));have ho0:=(dU.refl (w.heap.size+1+1) w1).alloc (kN 3);clear hM hN hcv;go_wp2_with (go_at_call 177;apply hM1.mono;rintro e w2 ⟨rfl,hr2,ho2⟩;have hE2:=ho2.keep hγ hE1;have hO2:=ho0.trans ho2);go_loopw [29] (λi wr=>∃ (j:Nat) (ve:Value),j≤m∧i=.i j∧wr.heap[w1.heap.size]?=some (qJx ve)∧fR wr (w1.heap.size+1) ve (fI bs P j)∧Rd wr (w.heap.size+1+1) (w.heap.size+1) c bs (mE bs P j)∧dU (w.heap.size+1+1) w1 wr) (λi _=>m-(intOf i).toNat)
  case atStart=>exact⟨0,.n,AH _,rfl,hE2,fR.nil _ _,hr2,hO2⟩
  case round =>
    clear hr2 hE2 hO2 ho2 hM1 ho0 hE1;obtain⟨j,ve,hj,rfl,hE,hes,hr,ho⟩:=hrel;obtain⟨ea,ec,rfl⟩:=hes.slice;have⟨c0,c1,c2,c3,c4,c5,c6,c7⟩:=bM hE;have hf1:=aB hE;by_cases hlt:j<m
    · have hX:=λu (hu:Rd u (w.heap.size+1+1) (w.heap.size+1) c bs (mE bs P j))=>Uz _ _ _ _ _ _ hu
      have hen:=Ux bs P j;have hlen:(fI bs P j).length=j:=by simp [fI]
      have hpos:Ba bs (mE bs P j)=mE bs P (j+1):=rfl;rw [hpos] at hX;have⟨E,hEE⟩:∃ E,E=rP bs (mE bs P j):=⟨_,rfl⟩;rw [← hEE] at hX hen;have HK:Hid (fI bs P (j+1)=fI bs P j++[E]):=hen;clear hen hEE hpos;have lk:(fI bs P j).length+1≤4294967296:=by omega
      have hsz:w1.heap.size+1≤wr.heap.size:=(CK.1 hE).1;clear hlen;go_wp2_with (fail);go_region_law (first|(go_simp;go_at_call 179;apply(hX _ (by first|exact hr|exact hr.drew|exact hr.drew.drew|exact hr.drew.drew.drew)).mono;rintro e w3 ⟨rfl,hr3,ho3⟩;have ho3':dU (w.heap.size+1+1) wr w3:=⟨ho3.os,ho3.tape,ho3.output,ho3.size,ho3.block⟩;have hE3:=ho3'.keep hγ hE;have⟨d0,d1,d2,d3,d4,d5,d6,d7⟩:=bM hE3;have hf3:=aB hE3;have hq6:=(bM (eS (x:=.cells #[.string E.key,.string E.val,.i E.size,.i E.over] 69) hE3)).2.2.2.2.2.2.1;have hes3:=hes.only ho3' (by omega);have hs3:=CD hsz ho3'.size)|(apply Ax w3 rfl (.tmp 32) (.tmp 34) rfl (w1.heap.size+1) (fI bs P j) (.slice ea (fI bs P j).length ec) (by simp [Act.eval,Act.put]) hes3 hs3 E (by simp [Act.eval,Act.put]) lk;intro v4 w4 hes4 hb4;obtain⟨ea4,ec4,rfl⟩:=hes4.slice;have hE4:=(hb4.block w1.heap.size (DD _)).trans hE3;have⟨g0,g1,g2,g3,g4,g5,g6,g7⟩:=bM hE4;have hf4:=aB hE4))
      all_goals go_wp2
      all_goals go_roundw
      all_goals first
        | (exact(by simp [intOf];omega))
        | (refine⟨j+1,.slice ea4 (fI bs P j++[E]).length ec4,by omega,by go_num,?_,by rw [HK.out];exact hes4.set (DD _) 6 _,(hr3.below hb4 (by omega) (by omega)).set hγ hγg 6 _,((ho.trans ho3').below hb4 (DL _)).set (BV _) 6 _⟩;have h5:=aC hE4 6 (.slice ea4 (fI bs P j++[E]).length ec4);simpa using h5)
        | (repeat apply Exists.intro
           exact⟨⟨j+1,.slice ea4 (fI bs P j++[E]).length ec4,by omega,by go_num,aC hE4 6 (.slice ea4 (fI bs P j++[E]).length ec4),by rw [HK.out];exact hes4.set (DD _) 6 _,(hr3.below hb4 (by omega) (by omega)).set hγ hγg 6 _,((ho.trans ho3').below hb4 (DL _)).set (BV _) 6 _⟩,rfl⟩)
    · obtain rfl:j=m:=by omega
      have hZ:=ho.keep (by omega) (ho1.keep (by omega) hzz);have⟨z0,z1,z2,z3,z4,z5,z6,z7⟩:=bM hZ;have hf3:=aB hZ;have⟨y0,y1,y2,y3,y4,y5,y6,y7⟩:=bM (vL hZ (.i 3) (.i 0) (.i 0) (.i 0) .n .n (.slice ea (fI bs P j).length ec) (.string ⟨#[]⟩));have hlz:w.heap.size<w1.heap.size+1:=by omega
      go_wp2;refine BI (v:=.agg #[.i 3,.i 0,.i 0,.i 0,.n,.n,.slice ea (fI bs P j).length ec,.string ⟨#[]⟩]) ?_ rfl ⟨_,rfl,(((((((((hes.set hlz 0 (.i 3)).set hlz 1 (.i 0)).set hlz 2 (.i 0)).set hlz 3 (.i 0)).set hlz 4 .n).set hlz 5 .n).set hlz 6 (.slice ea (fI bs P j).length ec)).set hlz 7 (.string ⟨#[]⟩)).mono (B':=w.heap.size) (by omega)),oT (nY hbb (ho1.trans ho) (by omega) (by rw [fG];omega)) (β:=w.heap.size) (BV _) (.i 3) (.i 0) (.i 0) (.i 0) .n .n (.slice ea (fI bs P j).length ec) (.string ⟨#[]⟩)⟩;simp [results,Tryz.results166,go_sem,y0,y1,y2,y3,y4,y5,y6,y7]
structure Pg where
 kind:Int
 ver:Int
 root:Int
 next:Int
 keys:List ByteArray
 kids:List Int
 ents:List Ent
 data:ByteArray
def oJ(bs:List UInt8)(k:Nat):Pg :=
 if k=1 then ⟨1,wrap64 (iU bs (bB bs 0 1) 8),(iU bs (bB bs (bB bs 0 1) 8) 2:Nat),0,[],[],[],⟨#[]⟩⟩
 else if k=2 then ⟨2,0,0,0,iS bs (bB bs (bB bs (bB bs 0 1) 1) (2 * ((bs.getD (bB bs 0 1) 0).toNat+1))) (bs.getD (bB bs 0 1) 0).toNat,iY bs (bB bs (bB bs 0 1) 1) ((bs.getD (bB bs 0 1) 0).toNat+1),[],⟨#[]⟩⟩
 else if k=3 then ⟨3,0,0,0,[],[],fI bs (bB bs (bB bs 0 1) 1) (bs.getD (bB bs 0 1) 0).toNat,⟨#[]⟩⟩
 else if k=4 then ⟨4,0,0,(iU bs (bB bs 0 1) 2:Nat),[],[],[],⟨(nC bs (bB bs (bB bs 0 1) 2)).toArray⟩⟩
 else ⟨(k:Nat),0,0,0,[],[],[],⟨#[]⟩⟩
def eO(bs:List UInt8):Pg:=oJ bs (bs.getD 0 0).toNat
def qBo(w:World)(B:Nat)(g:Pg)(v:Value):Prop :=
 ∃vk vi ve,v=.agg #[.int .i64 g.kind,.int .i64 g.ver,.int .i64 g.root,.int .i64 g.next,vk,vi,ve,.string g.data]/\Keys w B vk g.keys/\Ints w B vi g.kids/\fR w B ve g.ents
theorem pO(s w)(f:s.size=256):
  cL 166 #[.string s] w λe w'=>∃v,e=.returned v/\qBo w' w.heap.size (eO s.data.toList) v/\bW w w':=by
 have⟨c,d⟩:∃c,(s.data.toList.getD 0 0).toNat=c:=⟨_,rfl⟩;unfold eO;rw[d];by_cases h1:c=1
 ·subst h1
  rw[show oJ s.data.toList 1=_ from AW rfl];exact(Yz s w f d).mono λg w' ⟨b,a⟩=>⟨_,b,⟨_,_,_,rfl,Keys.nil _ _,Ints.nil _ _,fR.nil _ _⟩,a⟩
 by_cases h2:c=2
 ·subst h2
  rw[show oJ s.data.toList 2=_ from (AQ (by omega)).trans (AW rfl)];exact(Mt s w f d _ rfl _ rfl _ rfl).mono λg w' ⟨m,l,b,j,i,a⟩=>⟨_,b,⟨_,_,_,rfl,j,i,fR.nil _ _⟩,a⟩
 by_cases h3:c=3
 ·subst h3
  rw[show oJ s.data.toList 3=_ from (AQ (by omega)).trans ((AQ (by omega)).trans (AW rfl))];exact(Za s w f d _ rfl _ rfl _ rfl).mono λg w' ⟨k,b,h,a⟩=>⟨_,b,⟨_,_,_,rfl,Keys.nil _ _,Ints.nil _ _,h⟩,a⟩
 by_cases h4:c=4
 ·subst h4
  rw[show oJ s.data.toList 4=_ from (AQ (by omega)).trans ((AQ (by omega)).trans ((AQ (by omega)).trans (AW rfl)))];exact(Yx s w f d).mono λg w' ⟨b,a⟩=>⟨_,b,⟨_,_,_,rfl,Keys.nil _ _,Ints.nil _ _,fR.nil _ _⟩,a⟩
 rw[show oJ s.data.toList c=_ from (AQ h1).trans ((AQ h2).trans ((AQ h3).trans (AQ h4)))];exact(Yy s w f c d h1 h2 h3 h4).mono λg w' ⟨b,a⟩=>⟨_,b,⟨_,_,_,rfl,Keys.nil _ _,Ints.nil _ _,fR.nil _ _⟩,a⟩
theorem mL{w B e z v n xs}(h:w.ownsRow B e z v n xs):∃a c,v=.slice a n c/\eX w w.heap.size a xs:=by
 have⟨j,d⟩:=id h;rcases d with⟨rfl,rfl⟩|⟨g,o,p,rfl,_⟩
 ·exact⟨none,0,rfl,.inl (AG (by omega))⟩
 ·refine⟨_,_,rfl,.inr ⟨g,0,rfl,((ED (w:=w) h) g rfl).2,λb m l=>?_⟩⟩
  have:=(λg i=>DC (w:=w) h (g:=g) i) g rfl b m l;have e:(⟨g,0,none⟩:Addr).add b=⟨g,0+b,none⟩:=by unfold Addr.add;split<;>simp_all
  grind
theorem Ah(s w)(m:s.size≠256):
  cL 143 #[.string s] w λe w'=>e=.returned (.tuple #[.agg #[.i 0,.i 0,.i 0,.i 0,.n,.n,.n,.string ⟨#[]⟩],.i 2])/\bW w w':=by
 have k:((s.size:Int) != 256)=true:=by simp;omega
 have l:((s.size:Int)==256)=false:=by simp;omega
 go_enter Tryz.func143,Tryz.ntmps143;have⟨b,c,d,f,g,h,i,j⟩:=bM (aA w gK);go_wp2;refine BI (v:=.tuple #[.agg #[.i 0,.i 0,.i 0,.i 0,.n,.n,.n,.string ⟨#[]⟩],.i 2]) ?_ rfl ⟨rfl,(AC _ w).alloc (BV _) _⟩;simp[results,Tryz.results143,go_sem,b,c,d,f,g,h,i,j]
def Pg.encS(g:Pg):ByteArray:=Pages.encS g.kind g.ver g.root g.next g.keys g.kids g.ents g.data
def Pg.encE(g:Pg):Int:=Pages.dO g.kind g.ver g.root g.next g.keys g.kids g.ents g.data
def Pg.small(g:Pg):Prop:=Small g.keys g.kids g.ents g.data
theorem Bi{a b:ByteArray}(h:a≠b):(a.toList==b.toList)=false:=by
 apply KU.2;intro d;have c:a.toList=b.toList:=by simpa using d
 rw[ByteArray.toList_eq,ByteArray.toList_eq]at c;exact h (GO (Array.toList_inj.1 c))
theorem Ii{a b:ByteArray}(h:a=b):(a.toList==b.toList)=true:=by rw[h];simp
abbrev nQ(G:Pg)(ka ia ea:Option Addr)(kc ic ec:Nat):Obj:=.cells #[.int .i64 G.kind,.int .i64 G.ver,.int .i64 G.root,.int .i64 G.next,.slice ka G.keys.length kc,.slice ia G.kids.length ic,.slice ea G.ents.length ec,.string G.data] 80
theorem Vf(s w)(u:s.size=256)(r:(eO s.data.toList).small)(o:(eO s.data.toList).encE≠0):
  Calls Tryz.prog 143 #[.string s] w λe w'=>e=.returned (.tuple #[.agg #[.int .i64 0,.int .i64 0,.int .i64 0,.int .i64 0,.slice none 0 0,.slice none 0 0,.slice none 0 0,.string ⟨#[]⟩],.int .i64 2])/\Below w.heap.size w w':=by
 have a1:((s.size:Int) != 256)=false:=by simp;omega
 have l:=pO s (w.alloc gK) u;have t:=aA w gK;have G:=fG w gK;have F:Below w.heap.size w (w.alloc gK):=(AC _ w).alloc (BV _) _;obtain⟨a,p⟩:∃a,a=eO s.data.toList:=⟨_,rfl⟩;rw[<-p]at l r o;rw[G]at l;clear u p;go_enter Tryz.func143,Tryz.ntmps143;go_upto_region 4 with(go_at_call 166;refine l.mono ?_;rintro e b ⟨v,rfl,⟨a7,a6,a5,rfl,C,B,A⟩,m⟩;obtain⟨h,i,rfl,J⟩:=mL C;obtain⟨f,g,rfl,I⟩:=mL B;obtain⟨c,d,rfl,H⟩:=mL A);have k:Below b.heap.size b (b.alloc (nQ a h f c i g d)):=(AC _ b).alloc (BV _) _;have a4:=fG b (nQ a h f c i g d);have D:=aA b (nQ a h f c i g d);have q:=eS (x:=nQ a h f c i g d) ((m.block w.heap.size (by simp)).trans t);have a3:=(CK.1 ((m.block w.heap.size (by simp)).trans t)).1;generalize hw2:b.alloc (nQ a h f c i g d)=w2 at *;have z:=rC a.kind a.ver a.root a.next h f c i g d a.data a.keys a.kids a.ents w2 ((J.below k).mono (by omega)) ((I.below k).mono (by omega)) ((H.below k).mono (by omega)) r;obtain⟨S,T,U,V,W,X,Y,Z⟩:=bM D;have a0:(Pages.dO a.kind a.ver a.root a.next a.keys a.kids a.ents a.data != 0)=true:=by simpa[Pg.encE] using o
 generalize Pages.dO a.kind a.ver a.root a.next a.keys a.kids a.ents a.data=EE at *;generalize Pages.encS a.kind a.ver a.root a.next a.keys a.kids a.ents a.data=SS at *;have y:=(F.trans (m.mono (by omega))).trans (k.mono (by omega));go_wp2_with (go_at_call 146;refine z.mono ?_;rintro e a8 ⟨rfl,n⟩;have j:=(n.block w.heap.size (by omega)).trans q;obtain⟨a9,aa,ab,ac,ad,ae,af,ag⟩:=bM j;have a2:=aB j);have j:=(n.block w.heap.size (by omega)).trans q;have E:=vL j (.i 0) (.i 0) (.i 0) (.i 0) (.slice none 0 0) (.slice none 0 0) (.slice none 0 0) (.string ⟨#[]⟩);obtain⟨K,L,M,N,O,P,Q,R⟩:=bM E;refine BI (v:=.tuple #[.agg #[.i 0,.i 0,.i 0,.i 0,.slice none 0 0,.slice none 0 0,.slice none 0 0,.string ⟨#[]⟩],.i 2]) ?_ rfl ⟨rfl,oT (y.trans (n.mono (by omega))) (β:=w.heap.size) (BV _) (.i 0) (.i 0) (.i 0) (.i 0) (.slice none 0 0) (.slice none 0 0) (.slice none 0 0) (.string ⟨#[]⟩)⟩;simp[results,Tryz.results143,go_sem,K,L,M,N,O,P,Q,R]
theorem Le(s w)(y:s.size=256)(t:(eO s.data.toList).small)(o:(eO s.data.toList).encE=0)(r:(eO s.data.toList).encS≠s):
  Calls Tryz.prog 143 #[.string s] w λe w'=>e=.returned (.tuple #[.agg #[.int .i64 0,.int .i64 0,.int .i64 0,.int .i64 0,.slice none 0 0,.slice none 0 0,.slice none 0 0,.string ⟨#[]⟩],.int .i64 2])/\Below w.heap.size w w':=by
 have a3:((s.size:Int) != 256)=false:=by simp;omega
 have l:=pO s (w.alloc gK) y;have u:=aA w gK;have I:=fG w gK;have H:Below w.heap.size w (w.alloc gK):=(AC _ w).alloc (BV _) _;obtain⟨a,p⟩:∃a,a=eO s.data.toList:=⟨_,rfl⟩;rw[<-p]at l t o r;rw[I]at l;clear y p;go_enter Tryz.func143,Tryz.ntmps143;go_upto_region 4 with(go_at_call 166;refine l.mono ?_;rintro e b ⟨v,rfl,⟨a9,a8,a7,rfl,E,D,C⟩,m⟩;obtain⟨h,i,rfl,L⟩:=mL E;obtain⟨f,g,rfl,K⟩:=mL D;obtain⟨c,d,rfl,J⟩:=mL C);have k:Below b.heap.size b (b.alloc (nQ a h f c i g d)):=(AC _ b).alloc (BV _) _;have a6:=fG b (nQ a h f c i g d);have F:=aA b (nQ a h f c i g d);have q:=eS (x:=nQ a h f c i g d) ((m.block w.heap.size (by simp)).trans u);have a5:w.heap.size<b.heap.size:=(CK.1 ((m.block w.heap.size (by simp)).trans u)).1;generalize hw2:b.alloc (nQ a h f c i g d)=w2 at *;clear hw2;have B:=rC a.kind a.ver a.root a.next h f c i g d a.data a.keys a.kids a.ents w2 ((L.below k).mono (by omega)) ((K.below k).mono (by omega)) ((J.below k).mono (by omega)) t;obtain⟨U,V,W,X,Y,Z,a0,a1⟩:=bM F;have z:Pages.dO a.kind a.ver a.root a.next a.keys a.kids a.ents a.data=0:=o;have a2:((Pages.encS a.kind a.ver a.root a.next a.keys a.kids a.ents a.data).toList==s.toList)=false:=Bi r;generalize Pages.dO a.kind a.ver a.root a.next a.keys a.kids a.ents a.data=EE at *;generalize Pages.encS a.kind a.ver a.root a.next a.keys a.kids a.ents a.data=SS at *;subst z;have A:=(H.trans (m.mono (by omega))).trans (k.mono (by omega));go_wp2_with (go_at_call 146;refine B.mono ?_;rintro e aa ⟨rfl,n⟩;have j:=(n.block w.heap.size (by omega)).trans q;obtain⟨ab,ac,ad,ae,af,ag,ah,ai⟩:=bM j;have a4:=aB j);have j:=(n.block w.heap.size (by omega)).trans q;have G:=vL j (.i 0) (.i 0) (.i 0) (.i 0) (.slice none 0 0) (.slice none 0 0) (.slice none 0 0) (.string ⟨#[]⟩);obtain⟨M,N,O,P,Q,R,S,T⟩:=bM G;refine BI (v:=.tuple #[.agg #[.i 0,.i 0,.i 0,.i 0,.slice none 0 0,.slice none 0 0,.slice none 0 0,.string ⟨#[]⟩],.i 2]) ?_ rfl ⟨rfl,oT (A.trans (n.mono (by omega))) (β:=w.heap.size) (BV _) (.i 0) (.i 0) (.i 0) (.i 0) (.slice none 0 0) (.slice none 0 0) (.slice none 0 0) (.string ⟨#[]⟩)⟩;simp[results,Tryz.results143,go_sem,M,N,O,P,Q,R,S,T]
theorem Qn(s w)(F:s.size=256)(D:(eO s.data.toList).small)(r:(eO s.data.toList).encE=0)(B:(eO s.data.toList).encS=s):
  Calls Tryz.prog 143 #[.string s] w λe w'=>∃v,e=.returned (.tuple #[v,.int .i64 0])/\qBo w' w.heap.size (eO s.data.toList) v/\Below w.heap.size w w':=by
 have aj:((s.size:Int) != 256)=false:=by simp;omega
 have p:=pO s (w.alloc gK) F;have E:=aA w gK;have Q:=fG w gK;have P:Below w.heap.size w (w.alloc gK):=(AC _ w).alloc (BV _) _;obtain⟨a,u⟩:∃a,a=eO s.data.toList:=⟨_,rfl⟩;rw[<-u]at p D r B⊢;rw[Q]at p;clear F u;go_enter Tryz.func143,Tryz.ntmps143;go_upto_region 4 with(go_at_call 166;refine p.mono ?_;rintro e i ⟨v,rfl,⟨ap,ao,an,rfl,z,y,t⟩,q⟩;obtain⟨g,h,rfl,T⟩:=mL z;obtain⟨d,f,rfl,S⟩:=mL y;obtain⟨b,c,rfl,R⟩:=mL t);have k:Below i.heap.size i (i.alloc (nQ a g d b h f c)):=(AC _ i).alloc (BV _) _;have am:=fG i (nQ a g d b h f c);have C:=aA i (nQ a g d b h f c);have A:=eS (x:=nQ a g d b h f c) ((q.block w.heap.size (by simp)).trans E);have al:w.heap.size<i.heap.size:=(CK.1 ((q.block w.heap.size (by simp)).trans E)).1;generalize hw2:i.alloc (nQ a g d b h f c)=w2 at *;clear hw2;have K:=rC a.kind a.ver a.root a.next g d b h f c a.data a.keys a.kids a.ents w2 ((T.below k).mono (by omega)) ((S.below k).mono (by omega)) ((R.below k).mono (by omega)) D;obtain⟨a2,a3,a4,a5,a6,a7,a8,a9⟩:=bM C;have G:Pages.dO a.kind a.ver a.root a.next a.keys a.kids a.ents a.data=0:=r;have ai:((Pages.encS a.kind a.ver a.root a.next a.keys a.kids a.ents a.data).toList==s.toList)=true:=Ii B;generalize Pages.dO a.kind a.ver a.root a.next a.keys a.kids a.ents a.data=EE at *;generalize Pages.encS a.kind a.ver a.root a.next a.keys a.kids a.ents a.data=SS at *;subst G;have I:Below w.heap.size w w2:=(P.trans (q.mono (by omega))).trans (k.mono (by omega));go_wp2_with (go_at_call 146;refine K.mono ?_;rintro e n ⟨rfl,l⟩;have m:=(l.block w.heap.size (by omega)).trans A;obtain⟨aq,ar,au,av,aw,ax,ay,az⟩:=bM m;have ak:=aB m;have N:=(l.block i.heap.size (by omega)).trans C;obtain⟨aa,ab,ac,ad,ae,af,ag,ah⟩:=bM N);have m:=(l.block w.heap.size (by omega)).trans A;have O:=vL m (.i a.kind) (.i a.ver) (.i a.root) (.i a.next) (.slice g a.keys.length h) (.slice d a.kids.length f) (.slice b a.ents.length c) (.string a.data);obtain⟨U,V,W,X,Y,Z,a0,a1⟩:=bM O;have j:w.heap.size<w.heap.size+1:=DD _;have o:Below i.heap.size i n:=k.trans (l.mono (by omega));have M:Keys n _ _ _:=z.below o;have L:Ints n _ _ _:=sE y (dU.of_below (ρ:=0) o |> λH=>H) (by omega);have J:fR n _ _ _:=t.only (dU.of_below (ρ:=0) o) (by omega);refine BI (v:=.tuple #[.agg #[.i a.kind,.i a.ver,.i a.root,.i a.next,.slice g a.keys.length h,.slice d a.kids.length f,.slice b a.ents.length c,.string a.data],.i 0]) ?_ rfl ⟨_,rfl,⟨_,_,_,rfl,sG (vX M j (.i a.kind) (.i a.ver) (.i a.root) (.i a.next) (.slice g a.keys.length h) (.slice d a.kids.length f) (.slice b a.ents.length c) (.string a.data)) (by omega),sG (vX L j (.i a.kind) (.i a.ver) (.i a.root) (.i a.next) (.slice g a.keys.length h) (.slice d a.kids.length f) (.slice b a.ents.length c) (.string a.data)) (by omega),((((((((J.set j 0 _).set j 1 _).set j 2 _).set j 3 _).set j 4 _).set j 5 _).set j 6 _).set j 7 _).mono (by omega)⟩,oT (I.trans (l.mono (by omega))) (β:=w.heap.size) (BV _) (.i a.kind) (.i a.ver) (.i a.root) (.i a.next) (.slice g a.keys.length h) (.slice d a.kids.length f) (.slice b a.ents.length c) (.string a.data)⟩;simp[results,Tryz.results143,go_sem,U,V,W,X,Y,Z,a0,a1]
theorem oP{a:Type}(f:a->List UInt8)(c):∀(l:List a),(∀x∈l,(f x).length<=c)->(l.flatMap f).length<=l.length * c
  |[],_=>by simp
  |x :: l,h=>by
    have e:=h x (by simp);have g:=oP f c l (λd b=>h d (by simp[b]));rw[AJ,CE,EM,JB];omega
theorem Is(b a n):(iS b a n).length=n:=by simp[iS]
theorem Ir(b a n):(iY b a n).length=n:=by simp[iY]
theorem Ja(b a n):(fI b a n).length=n:=by simp[fI]
theorem vH(b a):(nC b a).length<=255:=by
  have:=(b.getD a 0).toNat_lt;unfold nC;grind
theorem mP(k n):(beB k n).length=k:=aK k n
theorem wC(l:List UInt8):(⟨l.toArray⟩:ByteArray).size=l.length:=by rfl
theorem Ci {c}(h:s.size<=c):(dQ s).length<=c+1:=by
  unfold dQ;simp_all
theorem qHx(b a):(rP b a).key.size<=255/\(rP b a).val.size<=255:=by
  unfold rP;split
  · exact⟨by rw[wC];exact vH _ _,by rw[wC];exact vH _ _⟩
  · exact⟨by rw[wC];exact vH _ _,AH _⟩
theorem qGa{e:Ent}(h:e.key.size<=255/\e.val.size<=255):e.bytes.length<=600:=by
  have a:=Ci h.1;have b:=Ci h.2;unfold Ent.bytes mC;rw[CE];split
  · grind
  · rw[CE,CE,mP,mP];simp;omega
theorem sA(a):(eO a).small:=by
  have o:=(a.getD (bB a 0 1) 0).toNat_lt;have g:∀d:ByteArray,d.size<=255->Small [] [] [] d:=λd n=>⟨by simp,by simp,by simp,by simp,by simp[eM,mP],by simp[mG,mP],by omega⟩;unfold eO oJ;split
  · exact g _ (AH _)
  split
  · have h:(iS a (bB a (bB a (bB a 0 1) 1) (2 * ((a.getD (bB a 0 1) 0).toNat+1))) (a.getD (bB a 0 1) 0).toNat).length<=255:=by rw[Is];omega
    have l:(iY a (bB a (bB a 0 1) 1) ((a.getD (bB a 0 1) 0).toNat+1)).length<=256:=by rw[Ir];omega
    refine⟨CD h (by omega),CD l (by omega),by simp,by simp,?_,by simp[mG,mP],AH _⟩;unfold eM;have j:=oP (beB 2) 2 (iY a (bB a (bB a 0 1) 1) ((a.getD (bB a 0 1) 0).toNat+1)) (λi _=>by rw[mP];omega);have m:=oP dQ 256 (iS a (bB a (bB a (bB a 0 1) 1) (2 * ((a.getD (bB a 0 1) 0).toNat+1))) (a.getD (bB a 0 1) 0).toNat) (λi c=>by
      simp only[iS,AY]at c;obtain⟨k,_,rfl⟩:=c;exact Ci (by rw[wC];exact vH _ _))
    rw[CE,CE,mP];grind
  split
  · have h:(fI a (bB a (bB a 0 1) 1) (a.getD (bB a 0 1) 0).toNat).length<=255:=by rw[Ja];omega
    have f:∀b∈fI a (bB a (bB a 0 1) 1) (a.getD (bB a 0 1) 0).toNat,b.key.size<=255/\b.val.size<=255:=λi c=>by
      simp only[fI,AY]at c;obtain⟨k,_,rfl⟩:=c;exact qHx _ _
    refine⟨by simp,by simp,CD h (by omega),λb e=>⟨CD (f b e).1 (by omega),CD (f b e).2 (by omega)⟩,by simp[eM,mP],?_,AH _⟩;unfold mG;have j:=oP Ent.bytes 600 _ (λb e=>qGa (f b e));rw[CE,mP];grind
  split
  · exact g _ (by rw[wC];exact vH _ _)
  · exact g _ (AH _)
theorem Fb(s w):
    cL 143 #[.string s] w λe w'=>bW w w' /\
      ((s.size=256/\(eO s.data.toList).encE=0/\(eO s.data.toList).encS=s/\∃v,e=.returned (.tuple #[v,.i 0])/\qBo w' w.heap.size (eO s.data.toList) v) \/
       (¬(s.size=256/\(eO s.data.toList).encE=0/\(eO s.data.toList).encS=s)/\e=.returned (.tuple #[.agg #[.i 0,.i 0,.i 0,.i 0,.n,.n,.n,.string ⟨#[]⟩],.i 2]))):=by
  by_cases hs:s.size=256
  · by_cases hE:(eO s.data.toList).encE=0
    · by_cases hO:(eO s.data.toList).encS=s
      · exact(Qn s w hs (sA _) hE hO).mono λe w' ⟨v,b,d,a⟩=>⟨a,.inl ⟨hs,hE,hO,v,b,d⟩⟩
      · exact(Le s w hs (sA _) hE hO).mono λe w' ⟨b,a⟩=>⟨a,.inr ⟨λc=>hO c.2.2,b⟩⟩
    · exact(Vf s w hs (sA _) hE).mono λe w' ⟨b,a⟩=>⟨a,.inr ⟨λc=>hE c.2.1,b⟩⟩
  · exact(Ah s w hs).mono λe w' ⟨b,a⟩=>⟨a,.inr ⟨λc=>hs c.1,b⟩⟩
def Has(bs:List UInt8)(a:Nat)(l:List UInt8):Prop:=∃p r,bs=p++(l++r)/\p.length=a
theorem Has.le (h:Has b a l):a+l.length<=b.length:=by
 obtain⟨p,r,rfl,rfl⟩:=h;simp
theorem Has.left {l m}(h:Has b a (l++m)):Has b a l:=by
 obtain⟨p,r,rfl,rfl⟩:=h;exact⟨p,m++r,by simp,rfl⟩
theorem Has.right {l m}(h:Has b a (l++m)):Has b (a+l.length) m:=by
 obtain⟨p,r,rfl,rfl⟩:=h;exact⟨p++l,r,by simp,by simp⟩
theorem Has.pos (h:Has b a l){k}(c:k<=l.length):bB b a k=a+k:=by
 have:=h.le;unfold bB;omega
theorem Has.getD (h:Has b a l){k}(c:k<l.length):b.getD (a+k) 0=l[k]:=by
 obtain⟨p,r,rfl,rfl⟩:=h;grind
theorem Has.head {b}(h:Has c a (b :: l)):c.getD a 0=b:=by
 have:=h.getD (k:=0) (by simp);grind
theorem Has.tail {b}(h:Has c a (b :: l)):Has c (a+1) l :=
 Has.right (l:=[b]) h
theorem Has.slice (h:Has b a l):(b.drop a).take l.length=l:=by
 obtain⟨p,r,rfl,rfl⟩:=h;simp
theorem byte_of(m)(a:0<=m)(b:m<256):((UInt8.ofNat m.toNat).toNat:Int)=m:=by
 rw[FX (by grind)];omega
theorem Xy(n m):((UInt8.ofNat ((n / 2 ^ m % 256).toNat)).toNat:Int)=n / 2 ^ m % 256:=byte_of _ (by omega) (by omega)
theorem Wy (h:Has b a (beB 1 n))(d:0<=n)(e:n<256):((b.getD a 0).toNat:Int)=n:=by
 rw[h.head,Xy];grind
theorem wB (h:Has b a (beB 2 n))(e:0<=n)(f:n<65536):(iU b a 2:Int)=n:=by
 simp only[iU,DR,h.head,h.tail.head,DV,DO];rw[Int.natCast_add,Int.natCast_mul,Xy,Xy];omega
theorem Zo {k}(h:Has k a (beB 8 n))(l:0<=n)(m:n<9223372036854775808):(iU k a 8:Int)=n:=by
 have b:=h.head;have c:=h.tail.head;have d:=h.tail.tail.head;have e:=h.tail.tail.tail.head;have f:=h.tail.tail.tail.tail.head;have g:=h.tail.tail.tail.tail.tail.head;have i:=h.tail.tail.tail.tail.tail.tail.head;have j:=h.tail.tail.tail.tail.tail.tail.tail.head;simp only[FI]at b c d e f g i j;simp only[Nat.reduceAdd]at b c d e f g i j;simp only[iU,DR,b,c,d,e,f,g,i,j,DV,DO];simp only[Int.natCast_add,Int.natCast_mul,Xy];omega
theorem Rs(s):(⟨s.data.toList.toArray⟩:ByteArray)=s:=by rfl
theorem Jr (h:Has c a (dQ s))(j:s.size<256):(⟨(nC c a).toArray⟩:ByteArray)=s/\(nC c a).length=s.size/\gU c a=a+(dQ s).length:=by
 have d:(c.getD a 0).toNat=s.size:=by
  rw[Has.head (l:=s.data.toList) h,FX (by omega)]
 have i:bB c a 1=a+1:=h.pos (by simp[dQ]);have f:Has c (a+1) s.data.toList:=Has.tail (b:=UInt8.ofNat s.size) h;have g:s.data.toList.length=s.size:=Ai s;have e:nC c a=s.data.toList:=by
  unfold nC;rw[i,d,<-g];exact f.slice
 refine⟨by rw[e,Rs],by rw[e,g],?_⟩;have:=f.le;unfold gU;rw[i,d];simp only[dQ,CE,EM,JY];omega
theorem wM (h:s.toList.isEmpty=true):s=⟨#[]⟩:=by
 rw[ByteArray.toList_eq]at h;rw[<-Rs s,List.isEmpty_iff.1 h]
theorem qJi {d e}(h:Has d a e.bytes)(r:e.key.size<=24)(i:pI e.val e.size e.over=true):rP d a=e/\Ba d a=a+e.bytes.length:=by
 have⟨c,v,n,o⟩:=e;simp only[Ent.bytes,mC]at h r i⊢;have⟨p,B,q⟩:=Jr h.left (by omega);have f:=h.right;by_cases ho:(o==0)=true
 ·rw[AW ho]at f⊢
  have g:d.getD (a+(dQ c).length) 0=0:=f.head;have j:bB d (a+(dQ c).length) 1=a+(dQ c).length+1:=f.pos (by simp);obtain rfl:o=0:=by grind
  simp[pI,oL]at i;have⟨y,z,A⟩:=Jr (Has.tail (b:=0) f) (by omega);unfold rP Ba;rw[q,AW g,AW g,j,p,y,z,A];refine⟨?_,by simp;omega⟩;rw[i.2]
 ·rw[AQ ho]at f⊢
  have g:¬d.getD (a+(dQ c).length) 0=0:=by rw[Has.head (b:=1) (l:=beB 2 n++beB 2 o) (by grind)];decide
  have j:bB d (a+(dQ c).length) 1=a+(dQ c).length+1:=f.pos (by simp);have s:o≠0:=by grind
  simp only[pI,s,bH,DN,AN,BQ,CP,false_and,false_or]at i;have k:Has d (a+(dQ c).length+1) (beB 2 n++beB 2 o):=Has.tail (b:=1) (by grind);have t:bB d (a+(dQ c).length+1) 2=a+(dQ c).length+1+2:=k.pos (by simp[aK]);have m:=k.right;rw[aK]at m;have u:bB d (a+(dQ c).length+1+2) 2=a+(dQ c).length+1+2+2:=m.pos (by simp[aK]);unfold rP Ba;rw[q,AQ g,AQ g,j,t,u,p,wB k.left (by omega) (by omega),wB m (by omega) (by omega)];refine⟨?_,by simp[aK];omega⟩;rw[wM i.1.1.2]
theorem Ug(b a n):iS b a (n+1)=(⟨(nC b a).toArray⟩:ByteArray):: iS b (gU b a) n:=by
 have d:∀c,lM b a (c+1)=lM b (gU b a) c:=λc=>by
  induction c with
  |zero=>rfl
  |succ c ih=>rw[lM,ih,<-lM]
 simp only[iS,JT,BD,FN];refine BZ (List.cons _) (DX λc _=>?_);grind
theorem Ue(b a n):iY b a (n+1)=(iU b (bB b a 0) 2:Int):: iY b (bB b a 2) n:=by
 simp only[iY,JT,BD,FN];refine BZ (List.cons _) (DX λc _=>?_);simp only[Function.comp,Nat.succ_eq_add_one,Hs];rw[show 2 * (c+1)=2+2 * c by omega]
theorem Uy(b a n):fI b a (n+1)=rP b a :: fI b (Ba b a) n:=by
 have d:∀c,mE b a (c+1)=mE b (Ba b a) c:=λc=>by
  induction c with
  |zero=>rfl
  |succ c ih=>rw[mE,ih,<-mE]
 simp only[fI,JT,BD,FN];refine BZ (List.cons _) (DX λc _=>?_);grind
theorem Xl:∀{b:List ByteArray}{a:Nat},Has c a (b.flatMap dQ)->(∀k∈b,k.size<256)->iS c a b.length=b
 |[],_,_,_=>rfl
 |k :: l,a,h,hs=>by
  rw[AJ]at h;have⟨e,i,f⟩:=Jr h.left (hs k (by simp));rw[EM,Ug,e,f,Xl h.right (λg d=>hs g (by simp[d]))]
theorem Xk:∀{c:List Int}{a:Nat},Has b a (c.flatMap (beB 2))->(∀k∈c,0<=k/\k<65536)->iY b a c.length=c
 |[],_,_,_=>rfl
 |k :: l,a,h,hs=>by
  rw[AJ]at h;have e:bB b a 0=a:=h.pos (AH _);have f:bB b a 2=a+2:=h.pos (by simp[aK]);have d:=h.right;rw[aK]at d;rw[EM,Ue,e,wB h.left (hs k (by simp)).1 (hs k (by simp)).2,f,Xk d (λj g=>hs j (by simp[g]))]
theorem Xt:∀{b:List Ent}{a:Nat},Has c a (b.flatMap Ent.bytes)->(∀e∈b,e.key.size<=24/\pI e.val e.size e.over=true)->fI c a b.length=b
 |[],_,_,_=>rfl
 |e :: l,a,h,hs=>by
  rw[AJ]at h;have⟨f,g⟩:=qJi h.left (hs e (by simp)).1 (hs e (by simp)).2;rw[EM,Uy,f,g,Xt h.right (λi d=>hs i (by simp[d]))]
theorem Et:∀(a:List Int),(a.flatMap (beB 2)).length=2 * a.length
 |[]=>rfl
 |k :: l=>by rw[AJ,CE,aK,Et l,EM];omega
theorem Cp:∀{b:List ByteArray}{l:ByteArray},fS l b=true->∀k∈b,k.size<=24
 |[],_,_=>by simp
 |k :: r,l,h=>by
  simp only[fS,gO,AN,BQ]at h;intro c a;rcases AR.1 a with rfl|a
  ·exact h.1.2
  ·exact Cp h.2 c a
theorem Nu:∀{b:List Ent}{l:ByteArray},fV l b=true->∀e∈b,e.key.size<=24/\pI e.val e.size e.over=true
 |[],_,_=>by simp
 |k :: r,l,h=>by
  simp only[fV,gO,AN,BQ]at h;intro c a;rcases AR.1 a with rfl|a
  ·grind
  ·exact Nu h.2 c a
theorem qS{a:Type}{l:List a}(h:((l.length:Int)==0)=true):l=[]:=AG (by grind)
theorem Kx{a:Type}(f:a->List UInt8):∀(l:List a),(∀x∈l,1<=(f x).length)->l.length<=(l.flatMap f).length
 |[],_=>by simp
 |x :: l,h=>by
  have d:=h x (by simp);have e:=Kx f l (λc b=>h c (by simp[b]));grind
theorem Hf(s):1<=(dQ s).length:=by simp[dQ]
theorem qBi(e:Ent):1<=e.bytes.length:=by
 have:=Hf e.key;simp only[Ent.bytes,mC,CE];omega
theorem Jn (a:0<=n)(b:n<9223372036854775808):wrap64 n=n:=by unfold wrap64;omega
theorem Su(g)(D:g.ver<9223372036854775808)(A:g.encE=0):eO g.encS.data.toList=g:=by
 have⟨j,y,r,next,c,x,i,u⟩:=g;simp only[Pg.encE,Pg.encS,Pages.dO,Pages.encS]at A D⊢;split at A
 case isFalse=>simp at A
 case isTrue hT =>
 rw[AW hT];simp only[AN,BQ]at hT;have⟨b,t⟩:=hT;have a:Has (uE (fieldsB j y r next c x i u)) 0 (fieldsB j y r next c x i u):=
  ⟨[],_,by rw[uE,Gl,BX];rfl,rfl⟩
 have I:((⟨(uE (fieldsB j y r next c x i u)).toArray⟩:ByteArray)).data.toList=uE (fieldsB j y r next c x i u):=by simp
 rw[I];clear I;generalize uE (fieldsB j y r next c x i u)=bs at a⊢;unfold eO;unfold eG at b;by_cases h1:j=1
 ·subst h1
  rw[AW rfl]at b;simp only[fM,lK,kR,Ib,AN,BQ,DN,bH]at b;have⟨⟨⟨⟨n,o⟩,p⟩,q,h⟩,w,d⟩:=b;rw[fieldsB,AW rfl]at a;have e:bs.getD 0 0=1:=a.left.left.head;have k:bB bs 0 1=1:=a.pos (by simp[aK]);have m:=a.left.right;rw[aK]at m;have l:bB bs 1 8=9:=m.pos (by simp[aK]);have v:=a.right;rw[CE,aK,aK]at v;have K:0<=r/\r<65536:=by
   grind
  rw[e,show oJ bs (1:UInt8).toNat=_ from AW rfl,k,l,wB v K.1 K.2];rw[Zo m w D,Jn w D,qS n,qS o,qS p,wM h,CP.1 q]
 by_cases h2:j=2
 ·subst h2
  rw[AQ h1,AW rfl]at b;simp only[kS,lK,kR,gP,AN,BQ]at b;have⟨⟨⟨⟨n,o⟩,p⟩,q,h⟩,⟨⟨w,d⟩,P⟩,Q⟩:=b;rw[fieldsB,AQ h1,AW rfl]at a t;have N:c.length<256:=by
   have:=Kx dQ c (λG _=>Hf G);rw[eM]at t;grind
  have e:bs.getD 0 0=2:=a.left.head;have k:bB bs 0 1=1:=a.pos (by simp[aK]);have f:=a.right;rw[aK,eM]at f;have B:=Wy f.left.left (by omega) (by omega);have C:(bs.getD 1 0).toNat=c.length:=by grind
  have l:bB bs 1 1=2:=f.pos (by simp[aK]);have s:=f.left.right;rw[aK]at s;have O:bB bs 2 (2 * (c.length+1))=2+2 * (c.length+1):=s.pos (by rw[Et,d];omega);have H:=f.right;rw[CE,aK,Et,d]at H;rw[e,show oJ bs (2:UInt8).toNat=_ from (AQ (by decide)).trans (AW rfl),k,C,l,O,<-d,Xk s (λE e=>by have:=LD.1 P E e;simp[bH]at this;omega),d];rw[show 2+2 * (c.length+1)=0+1+(1+2 * (c.length+1)) by omega,Xl H (λE e=>by have:=Cp Q E e;omega)];rw[CP.1 n,CP.1 o,qS p,CP.1 q,wM h]
 by_cases h3:j=3
 ·subst h3
  rw[AQ h1,AQ h2,AW rfl]at b;simp only[kS,fM,kR,AN,BQ]at b;have⟨⟨⟨⟨n,o⟩,p,F⟩,q,h⟩,w,d⟩:=b;rw[fieldsB,AQ h1,AQ h2,AW rfl]at a t;have N:i.length<256:=by
   have:=Kx Ent.bytes i (λG _=>qBi G);rw[mG]at t;grind
  have e:bs.getD 0 0=3:=a.left.head;have k:bB bs 0 1=1:=a.pos (by simp[aK]);have f:=a.right;rw[aK,mG]at f;have B:=Wy f.left (by omega) (by omega);have C:(bs.getD 1 0).toNat=i.length:=by grind
  have l:bB bs 1 1=2:=f.pos (by simp[aK]);have s:=f.right;rw[aK]at s;rw[e,show oJ bs (3:UInt8).toNat=_ from (AQ (by decide)).trans ((AQ (by decide)).trans (AW rfl)),k,C,l];rw[show 2=0+1+1 from rfl,Xt s (Nu d)];rw[CP.1 n,CP.1 o,qS p,qS F,CP.1 q,wM h]
 by_cases h4:j=4
 ·subst h4
  rw[AQ h1,AQ h2,AQ h3,AW rfl]at b;simp only[kS,fM,lK,Dg,AN,BQ,DN,bH]at b;have⟨⟨⟨⟨n,o⟩,p,F⟩,q⟩,h,w,d⟩:=b;rw[fieldsB,AQ h1,AQ h2,AQ h3]at a;have e:bs.getD 0 0=4:=a.left.left.head;have k:bB bs 0 1=1:=a.pos (by simp[aK]);have m:=a.left.right;rw[aK]at m;have l:bB bs 1 2=3:=m.pos (by simp[aK]);have v:=a.right;rw[CE,aK,aK]at v;have J:0<=next/\next<65536:=by
   grind
  have⟨R,S,T⟩:=Jr v (by omega);rw[e,show oJ bs (4:UInt8).toNat=_ from (AQ (by decide)).trans ((AQ (by decide)).trans ((AQ (by decide)).trans (AW rfl))),k,l,wB m J.1 J.2];rw[show 3=0+(1+2) from rfl,R,CP.1 n,CP.1 o,qS p,qS F,qS q]
 grind
theorem Lq{P}(w base t r e i z size bytes)(F:P.underlying t=some (.slice e))(hi:P.info? e=some i)(S:i.zero=some z)(a5:i.size=size)(X:i.bytes=bytes)(ad:z.cells.size=size)(ab:0<size)(v n xs)(E:w.ownsRow base e size v n xs)(a m c)(d:List Value)(q:d.length=m * size)(D:∀j u,d[j]?=some u->w.cell? (a.add j)=some u)(U:∀u∈d,u.oneCell'=true)(a8:0<m)(V:n+m<=maxLen)(M:(n+m) * bytes<=140737488355328)(v' w')(b:(Builtin.append_ #[t,t] r #[v,.slice (some a) m c]).run P w=.ok v' w')(x f s H)(K:w.ownsRow x e size s f H)(a4:s.ownBlock≠v.ownBlock\/f<=n):w'.ownsRow x e size s f H:=by
 subst a5;subst X
 have aa:n+m<=9223372036854775807:=by simp only[maxLen]at V;omega
 have J:∀o,w'=w.drew.alloc o->w'.ownsRow x e i.size s f H:=λo k=>by
  rw[k];exact CG (w:=w.drew) (World.ownsRow.drew K) o
 rcases E.2 with⟨rfl,rfl⟩|⟨g,y,A,rfl,a6,C,a9,a7,Z,ac⟩
 ·have l:=run_append_nil (P:=P) w t r e i z F hi S a m c d q D (by omega) (by omega) (by grind)
  grind
 ·by_cases hroom:n+m<=y
  ·have a0:n * i.size+d.length<=A.size:=by rw[q,Z,<-Nat.add_mul];exact FM _ hroom
   rw[run_append_room (P:=P) w t r e i F hi g n y A C a m c d q D U hroom a0]at b;simp only[KG]at b;rw[<-b.2];obtain⟨G,⟨rfl,T⟩|⟨h,I,B,rfl,L,p,Q,N,O,R⟩⟩:=id K
   ·exact⟨G,.inl ⟨rfl,T⟩⟩
   ·by_cases hgg:h=g
    ·subst hgg
     have a2:f<=n:=by
      rcases a4 with k|k
      ·exact absurd rfl k
      ·exact k
     have Y:B=A:=by grind
     subst Y;refine⟨G,.inr ⟨h,I,_,rfl,L,setRow_heap w h B _ e _ C,Q,N,by grind,?_⟩⟩
     ·have a1:f * i.size<=n * i.size:=FM _ a2
      grind
    ·exact⟨G,.inr ⟨h,I,B,rfl,L,by rw[setRow_other w g h _ hgg];exact p,Q,N,O,R⟩⟩
  ·have l:=run_append_grow (P:=P) w t r e i z F hi S ⟨g,0,none⟩ n y xs E.1 (E.cells (g:=g) rfl) a m c d q D (by omega) (by omega) (JH (by omega) M);grind
def lC(n:Nat):ByteArray:=⟨#[126,UInt8.ofNat n,UInt8.ofNat (n / 256)]⟩
theorem Jg(u:World)(a b):
  (convert 108 9 (.q u.heap.size 3 3)).run Tryz.prog (u.alloc (.cells #[.int .u8 126,.int .u8 (a.toNat:Int),.int .u8 (b.toNat:Int)] 5))=.ok (.string ⟨#[126,a,b]⟩) (u.alloc (.cells #[.int .u8 126,.int .u8 (a.toNat:Int),.int .u8 (b.toNat:Int)] 5)):=by
 have e:=run_convert_bytes_back (P:=Tryz.prog) (u.alloc (.cells #[.int .u8 126,.int .u8 (a.toNat:Int),.int .u8 (b.toNat:Int)] 5)) 108 9 5 ⟨u.heap.size,0,none⟩ 3 [126,a,b] Tryz.underlying108 Tryz.underlying5 Tryz.underlying9 (λc f=>by
  have d:(⟨u.heap.size,0,none⟩:Addr).add c=⟨u.heap.size,c,none⟩:=by unfold Addr.add;split<;>simp_all
  rw[d];simp only[World.cell?,aA u (.cells #[.int .u8 126,.int .u8 (a.toNat:Int),.int .u8 (b.toNat:Int)] 5)];have:c=0\/c=1\/c=2:=by grind
  rcases this with rfl|rfl|rfl<;>rfl)
 exact e
theorem Nn(n:Nat)(w)(f:n<=10000):
  cL 30 #[.i n] w λe w'=>e=.returned (.string (lC n))/\bW w w':=by
 have a:=Jg w (UInt8.ofNat n) (UInt8.ofNat (n / 256));have b:((UInt8.ofNat n).toNat:Int)=(n:Int) % 256:=by simp
 have c:((UInt8.ofNat (n / 256)).toNat:Int)=(n:Int) / 256:=by rw[FX (by grind)];omega
 rw[b,c]at a;have d:(⟨#[126,UInt8.ofNat n,UInt8.ofNat (n / 256)]⟩:ByteArray)=lC n:=rfl;rw[d]at a;go_enter Tryz.func30,Tryz.ntmps30;go_wp2;go_ret;exact⟨rfl,(AC _ _).alloc (BV _) _⟩
