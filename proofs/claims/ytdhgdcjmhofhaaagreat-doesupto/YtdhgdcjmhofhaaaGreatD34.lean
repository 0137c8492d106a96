import Derived.Test.YtdhgdcjmhofhaaaGreatD31
import Derived.Test.YtdhgdcjmhofhaaaGreatD32
set_option linter.all false
set_option maxRecDepth 100000
set_option maxHeartbeats 8000000
namespace Go.Proofs.YtdhgdcjmhofhaaaGreat.Tree
open Go.RowKit Pages
variable {b i:Nat} {k:ByteArray} {ks:List ByteArray} {t:TypeId} {v:Value} {w:World}
theorem Sb:(eO (gY 256).data.toList).kind=0:=by
 have a:((gY 256).data.toList).getD 0 0=0:=by
  show((List.replicate 256 (0:UInt8)).toArray.toList).getD 0 0=0
  rfl
 unfold eO;rw[a];rfl
theorem qHg{s v r}(h:Rz s (dR v r)):s≠gY 256:=by
 rintro rfl;have:=BZ Pg.kind h.2.2.2;rw[Sb]at this;simp[dR]at this
abbrev qEh(p:Int)(ver root:Int)(ka ia ea:Option Addr)(kc ic ec:Nat):Array Value:=#[.int .i64 p,.bool true,.int .i64 1,.int .i64 ver,.int .i64 root,.int .i64 0,.slice ka 0 kc,.slice ia 0 ic,.slice ea 0 ec,.string ⟨#[]⟩]
abbrev qKu(ver root:Nat)(ka ia ea:Option Addr)(kc ic ec:Nat):Obj:=.cells #[.int .i64 1,.int .i64 ver,.int .i64 root,.int .i64 0,.slice ka 0 kc,.slice ia 0 ic,.slice ea 0 ec,.string ⟨#[]⟩] 80
abbrev meta0:Obj:=.cells #[.int .i64 0,.bool false,.int .i64 0,.int .i64 0,.int .i64 0,.int .i64 0,.slice none 0 0,.slice none 0 0,.slice none 0 0,.string ⟨#[]⟩] 136
theorem eD {cs}(h:w.heap[b]?=some (.cells cs t))(c:cs[i]?=some v):w.setCell ⟨b,i,none⟩ v=w:=by
 have⟨f,g⟩:=jJ.1 h;have a:cs.setIfInBounds i v=cs:=by
  apply Array.ext_getElem?;intro j;rw[Array.getElem?_setIfInBounds];split
  ·next e=>subst e;rw[c];split<;>simp_all
  ·rfl
 have:(w.setCell ⟨b,i,none⟩ v).heap=w.heap:=by
  apply Array.ext_getElem?;intro d;by_cases hk:b=d
  ·subst hk;rw[aC h,a,h]
  ·simp only[World.setCell];rw[JZ,AQ hk]
 cases w
 simp only[World.setCell]at this⊢;simp only[this]
theorem nX {β a b c d e f g i j k}(h:w.heap[β]?=some (.cells #[a,b,c,d,e,f,g,i,j,k] t)):
  w.c β 0=some a/\w.c β 1=some b/\w.c β 2=some c/\w.c β 3=some d/\w.c β 4=some e/\w.c β 5=some f/\w.c β 6=some g/\w.c β 7=some i/\w.c β 8=some j/\w.c β 9=some k:=by
 simp[World.cell?,h]
abbrev Mm(w:World)(b:Nat)(v0 v1 v2 v3 v4 v5 v6 v7 v8 v9:Value):World:=(((((((((w.setCell ⟨b,0,none⟩ v0).setCell ⟨b,1,none⟩ v1).setCell ⟨b,2,none⟩ v2).setCell ⟨b,3,none⟩ v3).setCell ⟨b,4,none⟩ v4).setCell ⟨b,5,none⟩ v5).setCell ⟨b,6,none⟩ v6).setCell ⟨b,7,none⟩ v7).setCell ⟨b,8,none⟩ v8).setCell ⟨b,9,none⟩ v9
theorem Cm(w b a c d v3 e f g h i j):Fr (Bl.one b) w (Mm w b a c d v3 e f g h i j):=
 ((((((((((AF (Bl.one b) w).setCell (p:=⟨b,0,none⟩) (.inl rfl) _).setCell (p:=⟨b,1,none⟩) (.inl rfl) _).setCell (p:=⟨b,2,none⟩) (.inl rfl) _).setCell (p:=⟨b,3,none⟩) (.inl rfl) _).setCell (p:=⟨b,4,none⟩) (.inl rfl) _).setCell (p:=⟨b,5,none⟩) (.inl rfl) _).setCell (p:=⟨b,6,none⟩) (.inl rfl) _).setCell (p:=⟨b,7,none⟩) (.inl rfl) _).setCell (p:=⟨b,8,none⟩) (.inl rfl) _).setCell (p:=⟨b,9,none⟩) (.inl rfl) _
theorem xJ {l m n o p q r s u v}(h:w.heap[b]?=some (.cells #[l,m,n,o,p,q,r,s,u,v] t))(a c d v3 e f g i j k):(Mm w b a c d v3 e f g i j k).heap[b]?=some (.cells #[a,c,d,v3,e,f,g,i,j,k] t):=by
 have:=aC (aC (aC (aC (aC (aC (aC (aC (aC (aC h 0 a) 1 c) 2 d) 3 v3) 4 e) 5 f) 6 g) 7 i) 8 j) 9 k;simpa using this
theorem Dq(β sv lv fs)(Y:(fs.life==0)=false)(p ver root w)(W:aH w β sv lv fs)(a0:p<fs.safe.length)(o:pH fs p ver root):
  cL 112 #[.p β 0,.i p] w λe w'=>∃h f c i g d,e=.returned (.agg (qEh p ver root h f c i g d))/\bW w w':=by
 obtain⟨a,R,C,a6,-⟩:=al1 w meta0;have ac:=W.on (vV C W.lies);have l:=pO β sv lv fs p a ac;have af:fs.readS p=fs.at p:=by unfold Fs.readS;simp[a0,Y]
 have ae:(decide (p<fs.safe.length)&&!(fs.life==0))=true:=by simp[a0,Y]
 rw[af,ae]at l;obtain⟨ah,X,a3,a4,a5⟩:=EZ Pf;obtain⟨b,Z,E,m⟩:=LB (P:=Tryz.prog) a 0 108 5 ah (.int .u8 0) 1 Tryz.underlying108 X a3 a4 .i64 .i64 256 (by omega) (by rw[a5];omega) (by unfold maxLen;omega) (AH _);rw[Du]at E;have U:Buf b 0 (.q a.heap.size 256 256) (List.replicate 256 0):=by
  unfold Buf;rw[EQ];exact E
 have V:=Buf.string U;have H:bW a b:=⟨m.os,m.tape,m.output,m.size,λF n=>m.block F n (by simp)⟩;have ao:(Instr.makeSlice 108 (.i 256) (.i 256)).run Tryz.prog a=.ok (.q a.heap.size 256 256) b:=Z;obtain⟨A,q⟩:=nM (gY 256);have an:(convert 108 9 (.q a.heap.size 256 256)).run Tryz.prog b=.ok (.string A) b:=by rw[<-q];exact V
 have r:=(H.block _ (gL a6)).trans a6;obtain⟨I,J,K,L,M,N,O,Q,c8,c9⟩:=nX r;have ab:=aB r;have B:bW w b:=C.trans (H.mono C.size);clear U E m V Z X a3 a4 a5;rcases o with⟨a2,rfl,rfl⟩|o
 ·rw[a2,q]at l
  clear a2 q;have z:=xJ r (.i p) (.bool true) (.i 1) (.i 0) (.i 0) (.i 0) .n .n .n (.string ⟨#[]⟩);have u:=Cm b w.heap.size (.i p) (.bool true) (.i 1) (.i 0) (.i 0) (.i 0) .n .n .n (.string ⟨#[]⟩);have aa:Hid _:=z;have a8:Hid _:=u;clear z u;go_enter Tryz.func112,Tryz.ntmps112;go_wp2_with (go_at_call 142;(with_reducible refine jC l ?_);rintro e G ⟨rfl,ag⟩;subst G);refine BI (v:=.agg (qEh p 0 0 none none none 0 0 0)) ?_ rfl ⟨none,none,none,0,0,0,rfl,B.trans (a8.out.below (by have:=B.size;omega) (oK (by omega)))⟩;exact ER (p:=4) rfl _ _ w.heap.size _ _ _ _ rfl aa.out Tryz.underlying136 rfl (by kernel_rfl)
 ·have ad:((fs.at p).toList==A.toList)=false:=by rw[<-q];exact Bi (qHg o)
  obtain⟨s,a1⟩:=nM (fs.at p);rw[a1]at l o ad;clear q a1;have D:=Jd o b;simp only[dR,jN,Int.ofNat_zero]at D;have ai:=(gL r);go_enter Tryz.func112,Tryz.ntmps112;go_wp2_with (first
   |(go_at_call 142;(with_reducible refine jC l ?_);rintro e G ⟨rfl,ag⟩;subst G)
   |(go_at_call 143;(with_reducible refine jC D ?_);rintro e t ⟨h,f,c,i,g,d,rfl,aj,ak,al,am,T⟩;clear aj ak al am l D;obtain⟨j,S,-,y,-⟩:=al1 t (.cells #[.i 1,.i ver,.i root,.i 0,.slice h 0 i,.slice f 0 g,.slice c 0 d,.string ⟨#[]⟩] 80);obtain⟨ap,aq,ar,au,av,aw,ax,ay⟩:=bM y;have b0:=aB y;have az:j.setCell ⟨t.heap.size,7,none⟩ (.string ⟨#[]⟩)=j:=eD y rfl;have k:bW b j:=T.trans (S▸(AC _ _).alloc T.size _);have x:=(k.block _ ai).trans r;clear I J K L M N O Q c8 c9 ab;obtain⟨I,J,K,L,M,N,O,Q,c8,c9⟩:=nX x;have b1:=aB x;have a7:Hid _:=k;have a9:Hid _:=x;clear k x y))
  have z:=xJ a9.out (.i p) (.bool true) (.i 1) (.i ver) (.i root) (.i 0) (.slice h 0 i) (.slice f 0 g) (.slice c 0 d) (.string ⟨#[]⟩);have u:=Cm j w.heap.size (.i p) (.bool true) (.i 1) (.i ver) (.i root) (.i 0) (.slice h 0 i) (.slice f 0 g) (.slice c 0 d) (.string ⟨#[]⟩);have k:=B.trans (a7.out.mono (by omega));refine BI (v:=.agg (qEh p ver root h f c i g d)) ?_ rfl ⟨h,f,c,i,g,d,rfl,k.trans (u.below (by have:=k.size;omega) (oK (by omega)))⟩;exact ER (p:=4) rfl _ _ w.heap.size _ _ _ _ rfl z Tryz.underlying136 rfl (by kernel_rfl)
structure MV where
 p:Nat
 ver:Nat
 root:Nat
 ka:Option Addr
 ia:Option Addr
 ea:Option Addr
 kc:Nat
 ic:Nat
 ec:Nat
abbrev MV.cells(m:MV):Array Value:=#[.int .i64 m.p,.bool true,.int .i64 1,.int .i64 m.ver,.int .i64 m.root,.int .i64 0,.slice m.ka 0 m.kc,.slice m.ia 0 m.ic,.slice m.ea 0 m.ec,.string ⟨#[]⟩]
abbrev MV.obj(m:MV):Obj:=.cells m.cells 136
theorem Zn(m a:MV)(w):
  cL 113 #[.agg m.cells,.agg a.cells] w λe w'=>e=.returned (.bool (decide (m.ver<a.ver)))/\bW w w':=by
 obtain⟨b,c,d,g,f,-⟩:=al2 w m.obj a.obj; have⟨h,i,j,k,l,n,o,p,c8,c9⟩:=nX g;have⟨q,r,s,t,u,x,y,z,A,B⟩:=nX f;go_enter Tryz.func113,Tryz.ntmps113;go_wp2;refine BI (v:=.bool (decide (m.ver<a.ver))) ?_ rfl ⟨rfl,d⟩;simp[results,Tryz.results113,go_sem]
theorem yZ(m:MV)(w):
  cL 159 #[.agg #[.i 1,.i m.ver,.i m.root,.i 0,.slice m.ka 0 m.kc,.slice m.ia 0 m.ic,.slice m.ea 0 m.ec,.string ⟨#[]⟩]] w λe w'=>e=.returned (.i ((m.ver % 2:Nat):Int))/\bW w w':=by
 obtain⟨a,b,c,d,-⟩:=al1 w (.cells #[.i 1,.i m.ver,.i m.root,.i 0,.slice m.ka 0 m.kc,.slice m.ia 0 m.ic,.slice m.ea 0 m.ec,.string ⟨#[]⟩] 80);have⟨f,g,h,i,j,k,l,n⟩:=bM d;go_enter Tryz.func159,Tryz.ntmps159;go_wp2;refine BI (v:=.i ((m.ver:Int) % 2)) ?_ rfl ⟨by simp,c⟩;simp[results,Tryz.results159,go_sem]
theorem tZ{P f p q a}(h:f.results=#[.cell p a,.cell q a])(b:Array Value)(w:World)(g e:Nat)(t:TypeId)(cs c:Array Value)(fr:Nat×Nat)(d:TypeDesc)(n:b.getD p undef=.pointer (some ⟨g,0,none⟩))(r:b.getD q undef=.pointer (some ⟨e,0,none⟩))(k:w.heap[g]?=some (.cells cs t fr))(l:w.heap[e]?=some (.cells c t fr))(j:P.underlying a=some d)(i:(match d with|.struct _|.array _ _=>true|_=>false)=true)(hi:(P.info? a).map (·.size)=some cs.size)(m:(P.info? a).map (·.size)=some c.size):
  (results f b).run P w=.ok (.tuple #[.agg cs,.agg c]) w:=by
 have o:b[p]?.getD undef=.p g 0:=by simpa using n
 have s:b[q]?.getD undef=.p e 0:=by simpa using r
 simp[results,h,o,s,asAddr,JC w g t a cs fr d k j i hi,JC w e t a c fr d l j i m]
theorem c10 {b k i c d e v3 f g j l m n x}(a:b≠k)(h:w.c k i=some x):(Mm w b c d e v3 f g j l m n).c k i=some x :=
 cD a (cD a (cD a (cD a (cD a (cD a (cD a (cD a (cD a (cD a h)))))))))
theorem tV(w:World)(a):w.drew.cell? a=w.cell? a:=rfl
theorem aP {b k i c d e v3 f g j l m n x}(a:b≠k)(h:w.cell? ⟨k,i,none⟩=some x):(Mm w b c d e v3 f g j l m n).drew.cell? ⟨k,i,none⟩=some x:=by
 rw[tV];exact c10 a h
theorem FL(w:World):w.drew.heap=w.heap:=rfl
structure MG where
 p:Nat
 ok:Bool
 kd:Int
 ver:Nat
 root:Nat
 ka:Option Addr
 ia:Option Addr
 ea:Option Addr
 kc:Nat
 ic:Nat
 ec:Nat
abbrev MG.cells(m:MG):Array Value:=#[.int .i64 m.p,.bool m.ok,.int .i64 m.kd,.int .i64 m.ver,.int .i64 m.root,.int .i64 0,.slice m.ka 0 m.kc,.slice m.ia 0 m.ic,.slice m.ea 0 m.ec,.string ⟨#[]⟩]
abbrev MG.obj(m:MG):Obj:=.cells m.cells 136
abbrev MV.g(m:MV):MG:=⟨m.p,true,1,m.ver,m.root,m.ka,m.ia,m.ea,m.kc,m.ic,m.ec⟩
abbrev MG.put(m:MG)(w:World)(b:Nat):World:=Mm w b (.int .i64 m.p) (.bool m.ok) (.int .i64 m.kd) (.int .i64 m.ver) (.int .i64 m.root) (.int .i64 0) (.slice m.ka 0 m.kc) (.slice m.ia 0 m.ic) (.slice m.ea 0 m.ec) (.string ⟨#[]⟩)
theorem MG.put_box (m:MG){a c d e f g i j k l}(h:w.heap[b]?=some (.cells #[a,c,d,e,f,g,i,j,k,l] t)):(m.put w b).heap[b]?=some (.cells m.cells t):=xJ h _ _ _ _ _ _ _ _ _ _
theorem MG.put_fr(m:MG)(w b):Fr (Bl.one b) w (m.put w b):=Cm w b _ _ _ _ _ _ _ _ _ _
theorem Gk(β w)(Q R:MG->Prop)(lt)(af:∀X,bW w X->cL 112 #[.p β 0,.i 0] X λe w'=>∃m:MG,e=.returned (.agg m.cells)/\Q m/\bW X w')(ag:∀X,bW w X->cL 112 #[.p β 0,.i 1] X λe w'=>∃m:MG,e=.returned (.agg m.cells)/\R m/\bW X w')(J:∀a b:MG,Q a->R b->∀X,cL 113 #[.agg a.cells,.agg b.cells] X λe w'=>e=.returned (.bool lt)/\bW X w'):
  cL 83 #[.p β 0] w λe w'=>∃m ab:MG,e=.returned (.tuple #[.agg m.cells,.agg ab.cells])/\bW w w'/\((lt=true/\R m/\Q ab)\/(lt=false/\Q m/\R ab)):=by
 obtain⟨H,a1,P,a4,S,-⟩:=al2 w meta0 meta0; have ac:Hid (∀X,bW w X->cL 112 #[.p β 0,.i 0] X λe w'=>∃m:MG,e=.returned (.agg m.cells)/\Q m/\bW X w'):=af;have ad:Hid (∀X,bW w X->cL 112 #[.p β 0,.i 1] X λe w'=>∃m:MG,e=.returned (.agg m.cells)/\R m/\bW X w'):=ag;have ae:Hid (∀a b:MG,Q a->R b->∀X,cL 113 #[.agg a.cells,.agg b.cells] X λe w'=>e=.returned (.bool lt)/\bW X w'):=J;clear af ag J;cases lt
 ·have Z:=ac.out H P
  go_enter Tryz.func83,Tryz.ntmps83;go_wp2_with (first
   |(go_at_call 112;(with_reducible refine jC Z ?_);rintro e a8 ⟨a,rfl,a2,d⟩;have K:=P.trans (d.mono P.size);have a0:=ad.out a8 K;have U:Hid _:=a2;clear a2)
   |(go_at_call 112;(with_reducible refine jC a0 ?_);rintro e c ⟨b,rfl,a3,F⟩;have V:Hid _:=a3;clear a3;have J:=ae.out a b U.out V.out ((c.alloc a.obj).alloc b.obj))
   |(go_at_call 113;(with_reducible refine jC J ?_);rintro e X3 ⟨rfl,I⟩;have G:=K.trans (F.mono K.size);have L:bW w X3:=(((G.alloc G.size a.obj).alloc (by have:=G.size;simp;omega) b.obj).trans (I.mono (by have:=G.size;simp;omega)));have T:bW H X3:=((((d.trans (F.mono d.size)).alloc (by have:=d.size;have:=F.size;omega) a.obj).alloc (by have:=d.size;have:=F.size;simp;omega) b.obj).trans (I.mono (by have:=d.size;have:=F.size;simp;omega)));have a9:=(I.block c.heap.size (by simp;omega)).trans (aI b.obj (aA c a.obj));have aa:X3.heap[c.heap.size+1]?=some b.obj:=(by have W:=aA (c.alloc a.obj) b.obj;have Y:(c.alloc a.obj).heap.size=c.heap.size+1:=(by simp);rw[Y]at W;exact(I.block _ (by simp)).trans W);have M:=(T.block _ (gL a4)).trans a4;have N:=(T.block _ (gL S)).trans S;obtain⟨f,g,h,i,j,l,n,o,r,s⟩:=nX a9;obtain⟨t,u,x,y,z,A,B,C,D,E⟩:=nX aa;obtain⟨ay,az,b0,b1,b2,b3,b4,b5,b6,b7⟩:=nX M;obtain⟨al,am,an,ao,ap,aq,ar,au,av,aw⟩:=nX N;have b8:=aB M;have ax:=aB N;have aj:=G.size;have ak:w.heap.size+1<c.heap.size:=(by have Y:=(gL S);have ah:=d.size;have ai:=F.size;omega)))
  clear Z a0 J a1;have a6:Hid ((b.put (a.put X3 w.heap.size) (w.heap.size+1)).drew.heap[w.heap.size]?=some a.obj):=by
   show _=_
   rw[FL];exact(b.put_fr _ _).heap (a.put_box M) (oN (by omega))
  have a7:Hid ((b.put (a.put X3 w.heap.size) (w.heap.size+1)).drew.heap[w.heap.size+1]?=some b.obj):=by
   show _=_
   rw[FL];exact b.put_box ((a.put_fr _ _).heap N (oN (by omega)))
  have a5:Hid (bW w (b.put (a.put X3 w.heap.size) (w.heap.size+1)).drew):=
   GU ((L.trans ((a.put_fr X3 w.heap.size).below (by have:=L.size;omega) (oK (by omega)))).trans ((b.put_fr _ _).below (by have:=L.size;have:=(a.put_fr X3 w.heap.size).size;omega) (oK (by omega))))
  go_region_held3 (λX=>X.c c.heap.size 0=some (.i a.p)/\X.c c.heap.size 1=some (.bool a.ok)/\X.c c.heap.size 2=some (.i a.kd)/\X.c c.heap.size 3=some (.i a.ver)/\X.c c.heap.size 4=some (.i a.root)/\X.c c.heap.size 5=some (.i 0)/\X.c c.heap.size 6=some (.slice a.ka 0 a.kc)/\X.c c.heap.size 7=some (.slice a.ia 0 a.ic)/\X.c c.heap.size 8=some (.slice a.ea 0 a.ec)/\X.c c.heap.size 9=some (.string ⟨#[]⟩)/\X.c (c.heap.size+1) 0=some (.i b.p)/\X.c (c.heap.size+1) 1=some (.bool b.ok)/\X.c (c.heap.size+1) 2=some (.i b.kd)/\X.c (c.heap.size+1) 3=some (.i b.ver)/\X.c (c.heap.size+1) 4=some (.i b.root)/\X.c (c.heap.size+1) 5=some (.i 0)/\X.c (c.heap.size+1) 6=some (.slice b.ka 0 b.kc)/\X.c (c.heap.size+1) 7=some (.slice b.ia 0 b.ic)/\X.c (c.heap.size+1) 8=some (.slice b.ea 0 b.ec)/\X.c (c.heap.size+1) 9=some (.string ⟨#[]⟩))
   ((first|(with_reducible exact⟨f,g,h,i,j,l,n,o,r,s,t,u,x,y,z,A,B,C,D,E⟩)|(with_reducible exact⟨aP (by omega) f,aP (by omega) g,aP (by omega) h,aP (by omega) i,aP (by omega) j,aP (by omega) l,aP (by omega) n,aP (by omega) o,aP (by omega) r,aP (by omega) s,aP (by omega) t,aP (by omega) u,aP (by omega) x,aP (by omega) y,aP (by omega) z,aP (by omega) A,aP (by omega) B,aP (by omega) C,aP (by omega) D,aP (by omega) E⟩)|(with_reducible exact⟨c10 (by omega) f,c10 (by omega) g,c10 (by omega) h,c10 (by omega) i,c10 (by omega) j,c10 (by omega) l,c10 (by omega) n,c10 (by omega) o,c10 (by omega) r,c10 (by omega) s,c10 (by omega) t,c10 (by omega) u,c10 (by omega) x,c10 (by omega) y,c10 (by omega) z,c10 (by omega) A,c10 (by omega) B,c10 (by omega) C,c10 (by omega) D,c10 (by omega) E⟩)|(with_reducible exact⟨aP (by omega) (c10 (by omega) f),aP (by omega) (c10 (by omega) g),aP (by omega) (c10 (by omega) h),aP (by omega) (c10 (by omega) i),aP (by omega) (c10 (by omega) j),aP (by omega) (c10 (by omega) l),aP (by omega) (c10 (by omega) n),aP (by omega) (c10 (by omega) o),aP (by omega) (c10 (by omega) r),aP (by omega) (c10 (by omega) s),aP (by omega) (c10 (by omega) t),aP (by omega) (c10 (by omega) u),aP (by omega) (c10 (by omega) x),aP (by omega) (c10 (by omega) y),aP (by omega) (c10 (by omega) z),aP (by omega) (c10 (by omega) A),aP (by omega) (c10 (by omega) B),aP (by omega) (c10 (by omega) C),aP (by omega) (c10 (by omega) D),aP (by omega) (c10 (by omega) E)⟩)|(with_reducible exact⟨aP (by omega) (aP (by omega) f),aP (by omega) (aP (by omega) g),aP (by omega) (aP (by omega) h),aP (by omega) (aP (by omega) i),aP (by omega) (aP (by omega) j),aP (by omega) (aP (by omega) l),aP (by omega) (aP (by omega) n),aP (by omega) (aP (by omega) o),aP (by omega) (aP (by omega) r),aP (by omega) (aP (by omega) s),aP (by omega) (aP (by omega) t),aP (by omega) (aP (by omega) u),aP (by omega) (aP (by omega) x),aP (by omega) (aP (by omega) y),aP (by omega) (aP (by omega) z),aP (by omega) (aP (by omega) A),aP (by omega) (aP (by omega) B),aP (by omega) (aP (by omega) C),aP (by omega) (aP (by omega) D),aP (by omega) (aP (by omega) E)⟩)|(with_reducible exact⟨c10 (by omega) (aP (by omega) f),c10 (by omega) (aP (by omega) g),c10 (by omega) (aP (by omega) h),c10 (by omega) (aP (by omega) i),c10 (by omega) (aP (by omega) j),c10 (by omega) (aP (by omega) l),c10 (by omega) (aP (by omega) n),c10 (by omega) (aP (by omega) o),c10 (by omega) (aP (by omega) r),c10 (by omega) (aP (by omega) s),c10 (by omega) (aP (by omega) t),c10 (by omega) (aP (by omega) u),c10 (by omega) (aP (by omega) x),c10 (by omega) (aP (by omega) y),c10 (by omega) (aP (by omega) z),c10 (by omega) (aP (by omega) A),c10 (by omega) (aP (by omega) B),c10 (by omega) (aP (by omega) C),c10 (by omega) (aP (by omega) D),c10 (by omega) (aP (by omega) E)⟩)|(simp[f,g,h,i,j,l,n,o,r,s,t,u,x,y,z,A,B,C,D,E])))
   (fail)
  all_goals go_wp2
  all_goals
   refine BI (v:=.tuple #[.agg a.cells,.agg b.cells]) ?_ rfl ⟨a,b,rfl,a5.out,(.inr ⟨by simp,U.out,V.out⟩)⟩;exact tZ (p:=2) (q:=3) rfl _ _ w.heap.size (w.heap.size+1) _ _ _ _ _ rfl rfl a6.out a7.out Tryz.underlying136 rfl (by kernel_rfl) (by kernel_rfl)
 ·have Z:=ac.out H P
  go_enter Tryz.func83,Tryz.ntmps83;go_wp2_with (first
   |(go_at_call 112;(with_reducible refine jC Z ?_);rintro e a8 ⟨a,rfl,a2,d⟩;have K:=P.trans (d.mono P.size);have a0:=ad.out a8 K;have U:Hid _:=a2;clear a2)
   |(go_at_call 112;(with_reducible refine jC a0 ?_);rintro e c ⟨b,rfl,a3,F⟩;have V:Hid _:=a3;clear a3;have J:=ae.out a b U.out V.out ((c.alloc a.obj).alloc b.obj))
   |(go_at_call 113;(with_reducible refine jC J ?_);rintro e X3 ⟨rfl,I⟩;have G:=K.trans (F.mono K.size);have L:bW w X3:=(((G.alloc G.size a.obj).alloc (by have:=G.size;simp;omega) b.obj).trans (I.mono (by have:=G.size;simp;omega)));have T:bW H X3:=((((d.trans (F.mono d.size)).alloc (by have:=d.size;have:=F.size;omega) a.obj).alloc (by have:=d.size;have:=F.size;simp;omega) b.obj).trans (I.mono (by have:=d.size;have:=F.size;simp;omega)));have a9:=(I.block c.heap.size (by simp;omega)).trans (aI b.obj (aA c a.obj));have aa:X3.heap[c.heap.size+1]?=some b.obj:=(by have W:=aA (c.alloc a.obj) b.obj;have Y:(c.alloc a.obj).heap.size=c.heap.size+1:=(by simp);rw[Y]at W;exact(I.block _ (by simp)).trans W);have M:=(T.block _ (gL a4)).trans a4;have N:=(T.block _ (gL S)).trans S;obtain⟨f,g,h,i,j,l,n,o,r,s⟩:=nX a9;obtain⟨t,u,x,y,z,A,B,C,D,E⟩:=nX aa;obtain⟨ay,az,b0,b1,b2,b3,b4,b5,b6,b7⟩:=nX M;obtain⟨al,am,an,ao,ap,aq,ar,au,av,aw⟩:=nX N;have b8:=aB M;have ax:=aB N;have aj:=G.size;have ak:w.heap.size+1<c.heap.size:=(by have Y:=(gL S);have ah:=d.size;have ai:=F.size;omega)))
  clear Z a0 J a1;have a6:Hid ((a.put (b.put X3 w.heap.size) (w.heap.size+1)).drew.heap[w.heap.size]?=some b.obj):=by
   show _=_
   rw[FL];exact(a.put_fr _ _).heap (b.put_box M) (oN (by omega))
  have a7:Hid ((a.put (b.put X3 w.heap.size) (w.heap.size+1)).drew.heap[w.heap.size+1]?=some a.obj):=by
   show _=_
   rw[FL];exact a.put_box ((b.put_fr _ _).heap N (oN (by omega)))
  have a5:Hid (bW w (a.put (b.put X3 w.heap.size) (w.heap.size+1)).drew):=
   GU ((L.trans ((b.put_fr X3 w.heap.size).below (by have:=L.size;omega) (oK (by omega)))).trans ((a.put_fr _ _).below (by have:=L.size;have:=(b.put_fr X3 w.heap.size).size;omega) (oK (by omega))))
  go_region_held3 (λX=>X.c c.heap.size 0=some (.i a.p)/\X.c c.heap.size 1=some (.bool a.ok)/\X.c c.heap.size 2=some (.i a.kd)/\X.c c.heap.size 3=some (.i a.ver)/\X.c c.heap.size 4=some (.i a.root)/\X.c c.heap.size 5=some (.i 0)/\X.c c.heap.size 6=some (.slice a.ka 0 a.kc)/\X.c c.heap.size 7=some (.slice a.ia 0 a.ic)/\X.c c.heap.size 8=some (.slice a.ea 0 a.ec)/\X.c c.heap.size 9=some (.string ⟨#[]⟩)/\X.c (c.heap.size+1) 0=some (.i b.p)/\X.c (c.heap.size+1) 1=some (.bool b.ok)/\X.c (c.heap.size+1) 2=some (.i b.kd)/\X.c (c.heap.size+1) 3=some (.i b.ver)/\X.c (c.heap.size+1) 4=some (.i b.root)/\X.c (c.heap.size+1) 5=some (.i 0)/\X.c (c.heap.size+1) 6=some (.slice b.ka 0 b.kc)/\X.c (c.heap.size+1) 7=some (.slice b.ia 0 b.ic)/\X.c (c.heap.size+1) 8=some (.slice b.ea 0 b.ec)/\X.c (c.heap.size+1) 9=some (.string ⟨#[]⟩))
   ((first|(with_reducible exact⟨f,g,h,i,j,l,n,o,r,s,t,u,x,y,z,A,B,C,D,E⟩)|(with_reducible exact⟨aP (by omega) f,aP (by omega) g,aP (by omega) h,aP (by omega) i,aP (by omega) j,aP (by omega) l,aP (by omega) n,aP (by omega) o,aP (by omega) r,aP (by omega) s,aP (by omega) t,aP (by omega) u,aP (by omega) x,aP (by omega) y,aP (by omega) z,aP (by omega) A,aP (by omega) B,aP (by omega) C,aP (by omega) D,aP (by omega) E⟩)|(with_reducible exact⟨c10 (by omega) f,c10 (by omega) g,c10 (by omega) h,c10 (by omega) i,c10 (by omega) j,c10 (by omega) l,c10 (by omega) n,c10 (by omega) o,c10 (by omega) r,c10 (by omega) s,c10 (by omega) t,c10 (by omega) u,c10 (by omega) x,c10 (by omega) y,c10 (by omega) z,c10 (by omega) A,c10 (by omega) B,c10 (by omega) C,c10 (by omega) D,c10 (by omega) E⟩)|(with_reducible exact⟨aP (by omega) (c10 (by omega) f),aP (by omega) (c10 (by omega) g),aP (by omega) (c10 (by omega) h),aP (by omega) (c10 (by omega) i),aP (by omega) (c10 (by omega) j),aP (by omega) (c10 (by omega) l),aP (by omega) (c10 (by omega) n),aP (by omega) (c10 (by omega) o),aP (by omega) (c10 (by omega) r),aP (by omega) (c10 (by omega) s),aP (by omega) (c10 (by omega) t),aP (by omega) (c10 (by omega) u),aP (by omega) (c10 (by omega) x),aP (by omega) (c10 (by omega) y),aP (by omega) (c10 (by omega) z),aP (by omega) (c10 (by omega) A),aP (by omega) (c10 (by omega) B),aP (by omega) (c10 (by omega) C),aP (by omega) (c10 (by omega) D),aP (by omega) (c10 (by omega) E)⟩)|(with_reducible exact⟨aP (by omega) (aP (by omega) f),aP (by omega) (aP (by omega) g),aP (by omega) (aP (by omega) h),aP (by omega) (aP (by omega) i),aP (by omega) (aP (by omega) j),aP (by omega) (aP (by omega) l),aP (by omega) (aP (by omega) n),aP (by omega) (aP (by omega) o),aP (by omega) (aP (by omega) r),aP (by omega) (aP (by omega) s),aP (by omega) (aP (by omega) t),aP (by omega) (aP (by omega) u),aP (by omega) (aP (by omega) x),aP (by omega) (aP (by omega) y),aP (by omega) (aP (by omega) z),aP (by omega) (aP (by omega) A),aP (by omega) (aP (by omega) B),aP (by omega) (aP (by omega) C),aP (by omega) (aP (by omega) D),aP (by omega) (aP (by omega) E)⟩)|(with_reducible exact⟨c10 (by omega) (aP (by omega) f),c10 (by omega) (aP (by omega) g),c10 (by omega) (aP (by omega) h),c10 (by omega) (aP (by omega) i),c10 (by omega) (aP (by omega) j),c10 (by omega) (aP (by omega) l),c10 (by omega) (aP (by omega) n),c10 (by omega) (aP (by omega) o),c10 (by omega) (aP (by omega) r),c10 (by omega) (aP (by omega) s),c10 (by omega) (aP (by omega) t),c10 (by omega) (aP (by omega) u),c10 (by omega) (aP (by omega) x),c10 (by omega) (aP (by omega) y),c10 (by omega) (aP (by omega) z),c10 (by omega) (aP (by omega) A),c10 (by omega) (aP (by omega) B),c10 (by omega) (aP (by omega) C),c10 (by omega) (aP (by omega) D),c10 (by omega) (aP (by omega) E)⟩)|(simp[f,g,h,i,j,l,n,o,r,s,t,u,x,y,z,A,B,C,D,E])))
   (fail)
  all_goals go_wp2
  all_goals
   refine BI (v:=.tuple #[.agg b.cells,.agg a.cells]) ?_ rfl ⟨b,a,rfl,a5.out,(.inl ⟨by simp,V.out,U.out⟩)⟩;exact tZ (p:=2) (q:=3) rfl _ _ w.heap.size (w.heap.size+1) _ _ _ _ _ rfl rfl a6.out a7.out Tryz.underlying136 rfl (by kernel_rfl) (by kernel_rfl)
theorem Nk {β sv lv fs}(h:(fs.life==0)=false)(a:aH w β sv lv fs){p v r}(j:p<fs.safe.length)(i:pH fs p v r)(X)(d:bW w X):
  cL 112 #[.p β 0,.i (p:Nat)] X λe w'=>∃m:MG,e=.returned (.agg m.cells)/\(∃q:MV,m=q.g/\q.p=p/\q.ver=v/\q.root=r)/\bW X w' :=
 (Dq β sv lv fs h p v r X (a.on (vV d a.lies)) j i).mono λe w' ⟨n,k,b,o,l,c,g,f⟩=>⟨(⟨p,v,r,n,k,b,o,l,c⟩:MV).g,g,⟨_,rfl,rfl,rfl,rfl⟩,f⟩
theorem uA(β sv lv fs)(v:(fs.life==0)=false)(d s f t w)(u:aH w β sv lv fs)(A:1<fs.safe.length)(y:pH fs 0 d s)(z:pH fs 1 f t):
  cL 83 #[.p β 0] w λe w'=>∃m c:MV,e=.returned (.tuple #[.agg m.cells,.agg c.cells])/\bW w w'/\((d<f/\m.p=1/\m.ver=f/\m.root=t/\c.p=0/\c.ver=d/\c.root=s)\/(¬d<f/\m.p=0/\m.ver=d/\m.root=s/\c.p=1/\c.ver=f/\c.root=t)):=by
 refine(Gk β w _ _ (decide (d<f)) (Nk (p:=0) v u (by omega) y) (Nk (p:=1) v u A z) ?_).mono ?_
 ·rintro _ _ ⟨a,rfl,_,x,_⟩ ⟨b,rfl,_,g,_⟩ X
  rw[<-x,<-g];exact Zn a b X
 ·rintro e w' ⟨m,c,rfl,g,⟨o,⟨q,rfl,h,i,j⟩,⟨r,rfl,k,l,n⟩⟩|⟨o,⟨q,rfl,h,i,j⟩,⟨r,rfl,k,l,n⟩⟩⟩
  ·exact⟨q,r,rfl,g,.inl ⟨of_decide_eq_true o,h,i,j,k,l,n⟩⟩
  ·exact⟨q,r,rfl,g,.inr ⟨of_decide_eq_false o,h,i,j,k,l,n⟩⟩
theorem Gw(D m)(ver:Nat)(w)(h:aO w m D)(N:D.ver=ver)(L:(D.fs.life==0)=false)(T:1<D.fs.safe.length)(M:pH D.fs (ver % 2) ver D.root):
  cL 156 #[.p D.d 0] w λe w'=>e=.returned (.tuple #[])/\bW w w':=by
 have l:w.heap[D.d]?=some (.cells #[.int .i32 m,.int .u32 0,.p D.β 0,.i 1,.i ver,.i D.root,.i 0,.slice D.ka 0 D.kc,.slice D.ia 0 D.ic,.slice D.ea 0 D.ec,.string ⟨#[]⟩,.i D.aroot,.bool D.failed,.i D.last,D.ov] 83):=by
  have:=h.box;rw[dbO,dbC,N]at this;exact this
 have⟨q,r,c,d,f,g,i,j,c8,c9,c10,s,t,u,x⟩:=fC l;have A:(((ver % 2:Nat)):Int)=(ver:Int) % 2:=by simp
 have C:Hid (∀X,bW w X->cL 112 #[.p D.β 0,.i ((ver % 2:Nat):Int)] X λe w'=>∃a:MV,e=.returned (.agg #[.i a.p,.bool true,.i 1,.i a.ver,.i a.root,.i 0,.slice a.ka 0 a.kc,.slice a.ia 0 a.ic,.slice a.ea 0 a.ec,.string ⟨#[]⟩])/\bW X w'):=λX k=>(Dq D.β D.sv D.lv D.fs L (ver % 2) ver D.root X (h.file.on (vV k h.file.lies)) (by omega) M).mono λe w' ⟨Q,O,G,R,P,H,K,J⟩=>⟨⟨ver % 2,ver,D.root,Q,O,G,R,P,H⟩,K,J⟩;have B:Hid (∀X,bW w X->cL 112 #[.p D.β 0,.i ((ver:Int) % 2)] X λe w'=>∃a:MV,e=.returned (.agg #[.i a.p,.bool true,.i 1,.i a.ver,.i a.root,.i 0,.slice a.ka 0 a.kc,.slice a.ia 0 a.ic,.slice a.ea 0 a.ec,.string ⟨#[]⟩])/\bW X w'):=by
  have:=C.out;rw[A]at this;exact this
 have o:Hid (∀X,bW w X->X.heap[D.d]?=some (.cells #[.int .i32 m,.int .u32 0,.p D.β 0,.i 1,.i ver,.i D.root,.i 0,.slice D.ka 0 D.kc,.slice D.ia 0 D.ic,.slice D.ea 0 D.ec,.string ⟨#[]⟩,.i D.aroot,.bool D.failed,.i D.last,D.ov] 83)):=λX k=>(k.block _ (gL l)).trans l;have y:∀X,cL 159 #[.agg #[.i 1,.i ver,.i D.root,.i 0,.slice D.ka 0 D.kc,.slice D.ia 0 D.ic,.slice D.ea 0 D.ec,.string ⟨#[]⟩]] X λe w'=>e=.returned (.i ((ver % 2:Nat):Int))/\bW X w':=λX=>yZ ⟨0,ver,D.root,D.ka,D.ia,D.ea,D.kc,D.ic,D.ec⟩ X;rw[A]at y;have E:Hid _:=y;have S:∀(a:MV) (W:World),(Instr.field 136 (.agg #[.i a.p,.bool true,.i 1,.i a.ver,.i a.root,.i 0,.slice a.ka 0 a.kc,.slice a.ia 0 a.ic,.slice a.ea 0 a.ec,.string ⟨#[]⟩]) 1).run Tryz.prog W=.ok (.bool true) W:=λa W=>by kernel_rfl
 go_enter Tryz.func156,Tryz.ntmps156;go_wp2;go_region_held3 (λX=>X.c D.d 2=some (.p D.β 0)/\X.c D.d 3=some (.i 1)/\X.c D.d 4=some (.i ver)/\X.c D.d 5=some (.i D.root)/\X.c D.d 6=some (.i 0)/\X.c D.d 7=some (.slice D.ka 0 D.kc)/\X.c D.d 8=some (.slice D.ia 0 D.ic)/\X.c D.d 9=some (.slice D.ea 0 D.ec)/\X.c D.d 10=some (.string ⟨#[]⟩))
  ((first|(with_reducible exact⟨c,d,f,g,i,j,c8,c9,c10⟩)|(simp[c,d,f,g,i,j,c8,c9,c10])))
  (first
   |(go_at_call 159;(with_reducible apply jC (E.out _));rintro e F ⟨rfl,I⟩;have b:=(AC _ w).drew.trans I;obtain⟨q,r,c,d,f,g,i,j,c8,c9,c10,s,t,u,x⟩:=fC (o.out F b))
   |(go_at_call 112;(with_reducible refine jC (B.out _ ?_) ?_);(first|exact b.drew|exact b);rintro e p ⟨a,rfl,z⟩;have n:bW w p:=(by first|exact b.trans (z.mono b.size)|exact b.drew.trans (z.mono b.size));have⟨q,r,c,d,f,g,i,j,c8,c9,c10,s,t,u,x⟩:=fC (o.out p n)))
 all_goals go_wp2
 all_goals
  refine bodyPost_end (v:=.tuple #[]) ?_ rfl ⟨rfl,n⟩;simp[results,Tryz.results156]
theorem kE(k w):
  cL 39 #[.string k] w λe w'=>e=.returned (.bool (decide (1<=k.size/\k.size<=24)))/\w'=w:=by
 by_cases h1:1<=k.size
 ·by_cases h2:k.size<=24
  ·have a:(1:Int)<=(k.size:Int):=by omega
   have b:(k.size:Int)<=24:=by omega
   go_enter Tryz.func39,Tryz.ntmps39;go_wp2;refine BI (v:=.bool true) ?_ rfl ⟨by rw[DM ⟨h1,h2⟩],rfl⟩;simp[results,Tryz.results39,go_sem,h1,h2]
  ·have a:(1:Int)<=(k.size:Int):=by omega
   have b:¬(k.size:Int)<=24:=by omega
   go_enter Tryz.func39,Tryz.ntmps39;go_wp2;refine BI (v:=.bool false) ?_ rfl ⟨rfl,rfl⟩;simp[results,Tryz.results39,go_sem,h1,h2]
 ·have a:¬(1:Int)<=(k.size:Int):=by omega
  go_enter Tryz.func39,Tryz.ntmps39;go_wp2;refine BI (v:=.bool false) ?_ rfl ⟨rfl,rfl⟩;simp[results,Tryz.results39,go_sem,h1]
theorem Um(β c t x w)(d:w.heap[t.b]?=some (txO β t))(f:w.heap[c]?=some (.cells #[.i x] 3)):
  cL 128 #[.p t.b 0,.p c 0] w λe w'=>e=.returned (.bool (t.num==x))/\bW w w':=by
 have a:w.c t.b 0=some (.i t.num):=by simp[World.cell?,d]
 have b:w.c c 0=some (.i x):=by simp[World.cell?,f]
 go_enter Tryz.func128,Tryz.ntmps128;go_wp2;go_region_held3 (λX=>X.c t.b 0=some (.i t.num)/\X.c c 0=some (.i x))
  ((first|(with_reducible exact⟨a,b⟩)|(simp[a,b])))
  (fail)
 all_goals go_wp2
 all_goals go_ret
 all_goals exact⟨rfl,(AC _ w).drew⟩
def gF(ts:List Tx)(x:Int):Int:=match ts.findIdx? (λt=>t.num==x) with
 |some i=>i
 |none=>-1
theorem Ph{a:List Tx}{x j}(h:j<a.length)(d:(a[j].num==x)=true)(c:∀m (b:m<a.length),m<j->(a[m].num==x)=false):gF a x=j:=by
 have:a.findIdx? (λe=>e.num==x)=some j:=by
  rw[GF];exact⟨h,d,λm b=>by simpa using c m (by omega) b⟩
 unfold gF;rw[this]
theorem qAl{a x}(d:∀m (b:m<a.length),(a[m].num==x)=false):gF a x = -1:=by
 have:a.findIdx? (λc=>c.num==x)=none:=by
  rw[MB];intro c e;obtain⟨m,b,rfl⟩:=AU e;exact d m b
 unfold gF;rw[this]
theorem Gq(β c oa oc ts x S w)(hR:aD w S oa (lG ts))(hS:∀b,S b->b<w.heap.size)(hT:∀t∈ts,w.heap[t.b]?=some (txO β t))(hc:w.heap[c]?=some (.cells #[.i x] 3))(hn:ts.length<=1000000)(hcc:ts.length<=oc):
  cL 127 #[.slice oa ts.length oc,.func (.func 128) #[] #[.p c 0]] w λe w'=>e=.returned (.i (gF ts x))/\bW w w':=by
 go_enter Tryz.func127,Tryz.ntmps127;go_wp2;go_loopw [8] (λa wr=>∃j:Nat,a=.i j/\j<=ts.length/\bW w wr/\Hid (∀m (hm:m<ts.length),m<j->(ts[m].num==x)=false)) (λa _=>ts.length-(intOf a).toNat)
 case atStart=>exact⟨0,rfl,AH _,AC _ _,λm hm h=>by omega⟩
 case round =>
  obtain⟨j,rfl,hj,hb,HI⟩:=hrel;by_cases hlt:j<ts.length
  ·have hlti:(j:Int)<(ts.length:Int):=by omega
   have hR1:=hR.on (vV hb hS);have hne:lG ts≠[]:=by
    intro e;have:=BZ List.length e;simp[lG]at this;subst this;simp at hlt
   rcases hR1 with h0|⟨g,o,rfl,hg,hcell⟩
   ·exact absurd h0 hne
   have⟨t,ht⟩:=nM (ts[j]);have k0:wr.c g (o+j)=some (.p t.b 0):=hcell j _ (by simp[lG,hlt,ht]);have hC:=Um β c t x wr ((hb.block _ (jJ.1 (hT t (ht▸AB hlt))).1).trans (hT t (ht▸AB hlt))) ((hb.block _ (gL hc)).trans hc);have HT:Hid (ts[j]=t):=ht;clear ht hcell hR hne;cases he:(t.num==x)
   ·rw[he]at hC
    go_wp2_with (go_at_call 128;(with_reducible apply jC hC);rintro e w2 ⟨rfl,hb2⟩);refine⟨⟨j+1,by simp,by omega,hb.trans (hb2.mono hb.size),λm hm hmj=>?_⟩,by simp[intOf];omega⟩;by_cases hmj':m=j
    ·subst hmj';rw[HT.out];exact he
    ·exact HI m hm (by omega)
   ·rw[he]at hC
    go_wp2_with (go_at_call 128;(with_reducible apply jC hC);rintro e w2 ⟨rfl,hb2⟩);refine BI (v:=.i j) ?_ rfl ⟨by rw[Ph hlt (by rw[HT.out];exact he) HI.out],hb.trans (hb2.mono hb.size)⟩
    ·simp[results,Tryz.results127,go_sem]
  ·obtain rfl:j=ts.length:=by omega
   have hlti:¬(ts.length:Int)<(ts.length:Int):=by omega
   go_wp2;refine BI (v:=.i (-1)) ?_ rfl ⟨by rw[qAl (λm hm=>HI.out m hm hm)],hb⟩
   ·simp[results,Tryz.results127,go_sem]
theorem yD(D s x w)(h:aO w s D)(l:D.ts.length<=1000000):
  cL 91 #[.p D.d 0,.i x] w λe w'=>e=.returned (.i (gF D.ts x))/\bW w w':=by
 have⟨q,r,n,m,o⟩:=bR h.row;obtain⟨b,g,a,u,-⟩:=al1 w (.cells #[.i x] 3);have f:=h.on (vV a h.lies);have⟨v,y,C,E,F,G,H,I,c8,c9,c10,z,A,B,i⟩:=fC f.box;rw[n]at i;go_enter Tryz.func91,Tryz.ntmps91;go_wp2_with (go_at_call 127;(with_reducible apply jC (Gq D.β w.heap.size q r D.ts x (λd=>D.ov.ownBlock=some d) b (o.on (vV a (λd c=>aM h.row c))) (λd c=>jY (aM h.row c) a.size) (λt p=>(f.each t p).box) u l m));rintro e J ⟨rfl,k⟩);go_ret;exact⟨rfl,a.trans (k.mono a.size)⟩
theorem jI(D j x i t w)(h:aO w j D)(q:D.ts.length<=1000000)(hi:i<D.ts.length)(u:D.ts[i]=t)(v:gF D.ts x=i):
  cL 46 #[.p D.d 0,.i x] w λe w'=>e=.returned (.tuple #[.p t.b 0,.i 0])/\bW w w':=by
 have⟨f,y,r,Q,s⟩:=bR h.row;have b:=yD D j x w h q;rw[v]at b;have k:Hid (∀X,bW w X->X.c D.d 14=some (.slice f D.ts.length y)/\∃g o,f=some ⟨g,o,none⟩/\X.c g (o+i)=some (.p t.b 0)):=by
  intro X c;have⟨A,B,G,H,I,J,K,L,c8,c9,c10,C,E,F,a⟩:=fC (h.on (vV c h.lies)).box;rw[r]at a;refine⟨a,?_⟩;rcases s.on (vV c (λR p=>aM h.row p)) with l|⟨g,o,rfl,M,n⟩
  ·have:=BZ List.length l
   simp[lG]at this;rw[this]at hi;simp at hi
  ·exact⟨g,o,rfl,n i _ (by simp[lG,hi,u])⟩
 have O:¬(i:Int)<0:=by omega
 have P:(i:Int)<(D.ts.length:Int):=by omega
 have N:(0:Int)<=(i:Int):=by omega
 go_enter Tryz.func46,Tryz.ntmps46;go_wp2_with (go_at_call 91;(with_reducible apply jC b);rintro e z ⟨rfl,d⟩;obtain⟨a,g,o,rfl,S⟩:=k z d);go_ret2;exact⟨rfl,d⟩
theorem oI(D b x w)(h:aO w b D)(d:D.ts.length<=1000000)(f:gF D.ts x = -1):
  cL 46 #[.p D.d 0,.i x] w λe w'=>e=.returned (.tuple #[.pointer none,.i 3])/\bW w w':=by
 have a:=yD D b x w h d;rw[f]at a;go_enter Tryz.func46,Tryz.ntmps46;go_wp2_with (go_at_call 91;(with_reducible apply jC a);rintro e g ⟨rfl,c⟩);go_ret2;exact⟨rfl,c⟩
theorem qH(D d x i t w)(h:aO w d D)(k:D.ts.length<=1000000)(hi:i<D.ts.length)(c:D.ts[i]=t)(m:gF D.ts x=i)(l:t.wr=true):
  cL 38 #[.p D.d 0,.i x] w λe w'=>e=.returned (.tuple #[.p t.b 0,.i 0])/\bW w w':=by
 have f:Hid (∀X,bW w X->X.c t.b 1=some (.bool true)):=by
  intro X j;have a:=((h.on (vV j h.lies)).each t (c▸AB hi)).box;rw[txO,l]at a;simp[World.cell?,a]
 go_enter Tryz.func38,Tryz.ntmps38;go_wp2_with (go_at_call 46;(with_reducible apply jC (jI D d x i t w h k hi c m));rintro e n ⟨rfl,b⟩;have o:=f n b);go_ret2;exact⟨rfl,b⟩
theorem yS(D a x w)(h:aO w a D)(d:D.ts.length<=1000000)(f:gF D.ts x = -1):
  cL 38 #[.p D.d 0,.i x] w λe w'=>e=.returned (.tuple #[.pointer none,.i 3])/\bW w w':=by
 go_enter Tryz.func38,Tryz.ntmps38;go_wp2_with (go_at_call 46;(with_reducible apply jC (oI D a x w h d f));rintro e g ⟨rfl,c⟩);go_ret2;exact⟨rfl,c⟩
theorem vA(k):∀(l:List MapEntry) (ks:List ByteArray) (i:Nat),l.map (λe=>(e.key,e.val))=ks.map (λk=>(Value.string k,Value.agg #[])) ->
  (k ∉ ks/\Instr.findNow .string (.string k) l i=some none)\/(k∈ks/\∃j e,Instr.findNow .string (.string k) l i=some (some (i+j,.agg #[]))/\l[j]?=some e/\e.key=.string k/\e.val=.agg #[])
 |[],[],i,_=>.inl ⟨by simp,rfl⟩
 |[],_ :: _,i,a=>by simp at a
 |_ :: _,[],i,a=>by simp at a
 |e :: l,y :: ks,i,a=>by
  simp only[BD,GC,GP]at a;have⟨⟨b,f⟩,m⟩:=a;by_cases hy:k=y
  ·subst hy
   refine .inr ⟨by simp,0,e,?_,rfl,b,f⟩;simp[Instr.findNow,b,f,Instr.sameNow,(MapKept.bytes_beq k k).2 rfl]
  ·have g:Instr.sameNow .string (.string k) e.key=some false:=by
    rw[b];simp only[Instr.sameNow];congr 1;exact KU.2 (λa=>hy ((MapKept.bytes_beq k y).1 a))
   rcases vA k l ks (i+1) m with⟨c,d⟩|⟨c,j,h,d,n,o,p⟩
   ·exact .inl ⟨by simp[hy,c],by simp[Instr.findNow,g,d]⟩
   ·refine .inr ⟨by simp[c],j+1,h,?_,by grind,o,p⟩
    simp only[Instr.findNow,g,d];grind
theorem vG:Tryz.prog.underlying 92=some (.map 9 72):=Tryz.underlying92
theorem qIn:MapKept.IsKey .string (.string k):=by simp[MapKept.IsKey]
theorem wU(W k b):(Instr.checkKey b 10000 9 (.string k)).run Tryz.prog W=.ok () W:=MapKept.run_checkKey (d:=.string) Tryz.underlying9 qIn b 9999
theorem Br {W l a}(h:Instr.findNow .string (.string k) l 0=some a):(Instr.findKey 9 (.string k) l).run Tryz.prog W=.ok a W:=MapKept.run_findKey (d:=.string) Tryz.underlying9 h
open Classical in
noncomputable def inB (ks:List ByteArray) (k:ByteArray):Bool:=decide (k∈ks)
theorem Xq:inB ks k=true↔k∈ks:=by unfold inB;simp
theorem Kv:inB ks k=false↔k ∉ ks:=by unfold inB;simp
theorem Tk.look (h:Tk w v ks)(k):(Instr.lookup 92 v (.string k) true).run Tryz.prog w=.ok (.tuple #[.agg #[],.bool (inB ks k)]) w:=by
 rcases h with⟨rfl,rfl⟩|⟨r,d,g,rfl,c,e⟩
 ·rw[Kv.2 (by simp)];kernel_rfl
 ·have f:(zeroValue 72).run Tryz.prog w=.ok (.agg #[]) w:=by kernel_rfl
  rcases vA k d.toList ks 0 e with⟨a,b⟩|⟨a,j,i,b,_⟩
  ·rw[Kv.2 a];simp[Instr.lookup,CV vG,GN c,wU,Br b,f,Result.andThen]
  ·rw[Xq.2 a];simp[Instr.lookup,CV vG,GN c,wU,Br b,Result.andThen]
theorem Tk.drew (h:Tk w v ks):Tk w.drew v ks:=h
theorem Tk.alloc (h:Tk w v ks)(c):Tk (w.alloc c) v ks:=h.on (Y:=λb=>b<w.heap.size) ((CJ _ w).alloc (λb a=>a) c) (λb a=>by have⟨f,e,d⟩:=h.block a;grind)
theorem Tk.lay {r}(h:Tk w (.map (some r)) ks)(k):∃w' s,(Instr.mapUpdate 92 (.map (some r)) (.string k) (.agg #[])).run Tryz.prog w=.ok () w'/\Tk w' (.map (some r)) s/\Fr (Bl.one r) w w'/\∀c,c∈s↔c∈ks\/c=k:=by
 rcases h with⟨h,_⟩|⟨A,e,g,h,b,i⟩
 ·cases h
 cases h
 have p:∀m:Obj,Fr (Bl.one r) w {w with heap:=w.heap.setIfInBounds r m}:=λm=>⟨rfl,rfl,rfl,by simp,λj z u=>(LP b (o':=m)).2 j (λa=>u a)⟩;rcases vA k e.toList ks 0 i with⟨n,f⟩|⟨n,l,a,f,t,q,x⟩
 ·exact⟨{w with heap:=w.heap.setIfInBounds r (.map (e.push {key:=.string k,val:=.agg #[],born:=g}) (g+1))},ks++[k],by simp[Instr.mapUpdate,CV vG,GN b,wU,Br f,MapKept.run_setObj_map _ b,Result.andThen],.inr ⟨r,_,_,rfl,(LP b).1,by simp[i]⟩,p _,λc=>by simp⟩
 ·rw[DO]at f
  have o:e[l]?=some a:=by grind
  refine⟨{w with heap:=w.heap.setIfInBounds r (.map (e.modify l λa=>{a with key:=.string k,val:=.agg #[]}) g)},ks,?_,.inr ⟨r,_,_,rfl,(LP b).1,?_⟩,p _,λc=>⟨.inl,λy=>y.elim id (λa=>a▸n)⟩⟩
  ·have v:(Instr.keyThatStays (.string k) (.string k)).run Tryz.prog w=.ok (.string k) w:=MapKept.run_keyThatStays (d:=.string) qIn
   simp[Instr.mapUpdate,CV vG,GN b,wU,Br f,MapKept.run_setObj_map _ b,Result.andThen,o,q,v]
  ·rw[<-i]
   apply EH;grind
theorem uH(β t w)(h:eN w β t)(hn:t.cs.length<=1000000):
  cL 93 #[.p t.b 0] w λe w'=>∃b,e=.returned (.bool b)/\(b=true↔∃c∈t.cs,c.key∈t.ks)/\bW w w':=by
 have⟨oa,oc,hov,hoc,hrow⟩:=bR h.row;have hoc':t.cs.length<=t.cc:=by grind
 have hoa:t.ca=oa:=by grind
 subst hoa;have HB:Hid (∀X,bW w X->X.c t.b 4=some (.slice t.ca t.cs.length t.cc)/\X.c t.b 5=some t.tk/\Tk X t.tk t.ks):=by
  intro X hX;have h1:=(hX.block _ (gL h.box)).trans h.box;rw[txO]at h1;exact⟨by simp[World.cell?,h1],by simp[World.cell?,h1],h.tk.on (vV hX (Y:=λk=>t.tk=.map (some k)) (λk hk=>by have⟨es,cl,hb⟩:=h.tk.block hk;grind)) (λk hk=>hk)⟩
 have hS:∀k,t.cv.ownBlock=some k->k<w.heap.size:=λk hk=>aM h.row hk;have htl:=(gL h.box);have⟨c4,c5,_⟩:=HB w (AC _ _);have⟨tv,htv⟩:=nM (t.tk);rw[htv]at HB c5;clear hov h;go_enter Tryz.func93,Tryz.ntmps93;go_wp2;go_loopw [13] (λa wr=>∃j:Nat,a=.i j/\j<=t.cs.length/\bW w wr/\Hid (∀i (hi:i<t.cs.length),i<j->(t.cs[i]).key ∉ t.ks)) (λa _=>t.cs.length-(intOf a).toNat)
 case atStart=>exact⟨0,rfl,AH _,AC _ _,λi _ h=>by omega⟩
 case round =>
  obtain⟨j,rfl,hj,hb,HN⟩:=hrel;by_cases hlt:j<t.cs.length
  ·have hlti:(j:Int)<(t.cs.length:Int):=by omega
   have⟨rb,ro,hca,hrb,k0,k1,k2⟩:=(hrow.on (vV hb hS)).ch hlt;have⟨c,hcc⟩:=nM (t.cs[j]);rw[hcc]at k0 k1 k2;obtain⟨W1,hW1,-,x1,-⟩:=al1 wr (.cells #[.string c.key,.string c.val,.bool c.gone] 101);have B1:bW w W1:=hW1▸hb.alloc hb.size _;have⟨d4,d5,dT⟩:=HB W1 B1;have d0:W1.c wr.heap.size 0=some (.string c.key):=by simp[World.cell?,x1]
   rw[hca];have HCC:Hid (t.cs[j]=c):=hcc;clear hrow hcc c4 c5;go_wp2;have lw:=(gL x1);have dA:(W1.alloc (.cells #[] 72)).c wr.heap.size 0=some (.string c.key)/\(W1.alloc (.cells #[] 72)).c t.b 5=some tv:=by
    have:=aI (.cells #[] 72) x1;refine⟨by simp[World.cell?,this],(HB _ (B1.alloc B1.size _)).2.1⟩
   have⟨dA0,dA5⟩:=dA;have lk1:=dT.drew.look c.key;have lk2:=(dT.drew.alloc (.cells #[] 72)).look c.key;have⟨bb,hbb⟩:=nM (inB t.ks c.key);rw[hbb]at lk1 lk2;have HBB:Hid (inB t.ks c.key=bb):=hbb;clear hbb dT;go_region_held3 (λX=>X.c t.b 5=some tv/\X.c wr.heap.size 0=some (.string c.key)/\(Instr.lookup 92 tv (.string c.key) true).run Tryz.prog X=.ok (.tuple #[.agg #[],.bool bb]) X)
    ((first|exact⟨by simpa using d5,by simpa using d0,lk1⟩|exact⟨by simpa using dA5,by simpa using dA0,lk2⟩))
    (fail)
   all_goals
    cases bb with
    |false =>
     go_wp2;refine⟨⟨j+1,by simp,by omega,(B1.alloc B1.size _).drew,λi hi hij=>?_⟩,by simp[intOf];omega⟩;rcases BS i j with h|h
     ·exact HN i hi h
     ·obtain rfl:i=j:=by omega
      rw[HCC.out];exact Kv.1 HBB
    |true =>
     go_wp2;go_ret;exact⟨true,rfl,by simp only[true_iff];exact⟨c,HCC.out▸AB hlt,Xq.1 HBB⟩,(B1.alloc B1.size _).drew⟩
  ·obtain rfl:j=t.cs.length:=by omega
   have hlti:¬(t.cs.length:Int)<(t.cs.length:Int):=by omega
   go_wp2;go_ret;exact .inl ⟨rfl,λc hc hk=>by
    obtain⟨i,hi,rfl⟩:=AU hc;exact HN i hi hi hk,hb⟩
theorem sX(β t w)(h:eN w β t)(j:t.cs.length<=1000000)(i:∀c∈t.cs,c.key ∉ t.ks):
  cL 93 #[.p t.b 0] w λe w'=>e=.returned (.bool false)/\bW w w':=by
 apply(uH β t w h j).mono;rintro e w' ⟨b,rfl,d,a⟩;cases b with
 |false=>exact⟨rfl,a⟩
 |true =>
  have⟨c,f,g⟩:=d.1 rfl;exact absurd g (i c f)
theorem qFl {xs}(z)(hi:i<xs.length):(tX (tX xs i (xs.drop (i+1))) (xs.length-1) [z]).take (xs.length-1)=xs.eraseIdx i:=by
 apply EH;intro a;rw[DS,JX];by_cases ht:a<xs.length-1
 ·rw[AW ht,nO _ _ _ (by rw[nN];simp;omega),AQ (by simp;omega),nO _ _ _ (by simp;omega)]
  grind
 grind
theorem wA {B e g n c xs}(h:w.ownsRow B e 1 (.q g n c) n xs)(t)(s:t<n):(∃u,xs[t]?=some u/\w.c g t=some u)/\w.frozen? ⟨g,t,none⟩=false:=by
 have⟨m,d⟩:=id h;rcases d with⟨a,_⟩|⟨l,j,k,a,o,i,r,p,q,v⟩
 ·simp at a
 ·simp only[AP,AX,CA,DA,CT]at a
  obtain⟨rfl,rfl⟩:=a;refine⟨?_,aB i t⟩;have b:t<xs.length:=by omega
  refine⟨xs[t],jQ b,?_⟩;have:=(DC (w:=w) h (g:=g) rfl) t _ (jQ b);rw[show(⟨g,0,none⟩:Addr).add t=⟨g,t,none⟩ by unfold Addr.add;split<;>simp_all]at this;exact this
theorem Qm(g n c i j:Nat)(B xs w)(h:w.ownsRow B 86 1 (.slice (some ⟨g,0,none⟩) n c) n xs)(T:∀u∈xs,u.oneCell'=true)(F:j=i+1)(hi:i<n)(a6:n<=1000000)(a7:n<=c)(a1:c<=9223372036854775807):
  Calls Tryz.prog 92 #[.slice (some ⟨g,0,none⟩) n c,.int .i64 i,.int .i64 j] w λe w'=>e=.returned (.slice (some ⟨g,0,none⟩) (n-1) c)/\w'.ownsRow B 86 1 (.slice (some ⟨g,0,none⟩) (n-1) c) (n-1) (xs.eraseIdx i)/\Fr (Bl.one g) w w':=by
 have G:xs.length=n:=by have:=h.1;omega
 have⟨b,o⟩:∃b,b=xs.drop (i+1):=⟨_,rfl⟩;have s:b.length=n-j:=by grind
 have r:w.drew.ownsRow B 86 1 (.slice (some ⟨g,0,none⟩) n c) n xs:=h;have⟨q,Z,S⟩:∃q:Addr,(if c=j then some (⟨g,0,none⟩:Addr) else some ⟨g,j,none⟩)=some q/\Hid (∀a u,b[a]?=some u->w.drew.cell? (q.add a)=some u):=by
  by_cases hc:c=j
  ·refine⟨⟨g,0,none⟩,by simp[hc],λa u f=>?_⟩
   grind
  ·refine⟨⟨g,j,none⟩,by simp[hc],λa u f=>?_⟩
   rw[o,GD]at f;have p:i+1+a<n:=by grind
   have⟨⟨H,k,l⟩,_⟩:=wA r (i+1+a) p;rw[f]at k;cases k
   rw[show(⟨g,j,none⟩:Addr).add a=⟨g,i+1+a,none⟩ by unfold Addr.add;split<;>simp_all];exact l
 have W:Hid (b.length=(n-j) * 1):=by rw[Nat.mul_one];exact s
 have X:Hid (∀u∈b,u.oneCell'=true):=λu f=>T u (BO (o▸f));have Y:Hid (∀a,a<b.length->(w.drew.cell? ⟨g,0+i * 1+a,none⟩).isSome=true/\w.drew.frozen? ⟨g,0+i * 1+a,none⟩=false):=by
  intro a p;rw[s]at p;have⟨⟨H,k,l⟩,C⟩:=wA r (i+a) (by omega);grind
 have⟨d,x⟩:∃d,d=w.drew.setCells g (0+i * 1) b:=⟨_,rfl⟩;have y:d=w.drew.setCells g i b:=by grind
 have t:d.ownsRow B 86 1 (.slice (some ⟨g,0,none⟩) n c) n (tX xs i b):=by
  rw[y];exact gC b i r (by omega)
 have A:Fr (Bl.one g) w d:=by rw[y];exact iH b i (AF _ w).drew
 have a0:∀z,(Builtin.clear_ #[81] z #[.slice (some ⟨g,i+(n-j),none⟩) (n-(i+(n-j))) (c-(i+(n-j)))]).run Tryz.prog d=.ok (.tuple #[]) (d.setCells g (i+(n-j)) (List.replicate (n-(i+(n-j))) (.pointer none))):=
  λz=>Lib.run_clear_slice d _ _ z _ Tryz.underlying81 Tryz.zeroValue86 rfl rfl g (i+(n-j)) _ _ (by omega) (λa p=>by have⟨⟨H,k,l⟩,C⟩:=wA t (i+(n-j)+a) (by omega);exact BE.2 ⟨_,l⟩) (λa p=>(wA t (i+(n-j)+a) (by omega)).2)
 have M:Hid _:=t;have I:Hid _:=A;have P:Hid (d=w.drew.setCells g (0+i * 1) b):=x;have L:Hid (b=xs.drop (i+1)):=o;have J:Hid (j=i+1):=F;have K:Hid (xs.length=n):=G;have⟨V,Q,a9,U,aa⟩:=EZ qEt;have a5:i<j:=by omega
 have a3:j<=n:=by omega
 have a2:i<=c:=by omega
 have a4:j<=c:=by omega
 have a8:¬(i:Int)=(j:Int):=by omega
 clear x y t A o s F r G h;go_enter Tryz.func92,Tryz.ntmps92;go_wp2_with fail;go_region_held3 (λ_=>True) (trivial)
  (first|(apply step_append_room rfl (.tmp 22) (.tmp 25) 81 rfl 86 V 1 Tryz.underlying81 Q U g 0 i c (by simp[Act.eval,Act.put]) q (n-j) (c-j) b (by simp[Act.eval,Act.put]) W S X (by omega) Y;rw[<-P.out]))
 all_goals go_wp2
 have k:i+(n-j)=n-1:=by have:=J.out;omega
 refine BI (v:=.slice (some ⟨g,0,none⟩) (i+(n-j)) c) ?_ rfl ⟨by rw[k],?_,iH _ _ I⟩
 ·simp[results,Tryz.results92,go_sem]
 ·rw[k,show n-(n-1)=1 by omega]
  have R:=K.out;have O:=gC [.pointer none] (n-1) M (by rw[nN];simp;omega);have D:=Kk O (m:=n-1) (by omega);have E:=qFl (xs:=xs) (i:=i) (.pointer none) (by omega);rw[R,<-L.out]at E;grind
theorem Tb(a i):lG (a.eraseIdx i)=(lG a).eraseIdx i:=by
 unfold lG;apply EH;intro b;rw[BN,JX,JX];split<;>rw[BN]
theorem aO.dropped{l e v D g c i t}(h:aO l v D)(x:D.ov=.q g D.ts.length c)(hi:i<D.ts.length)(z:D.ts[i]=t)(s:e.ownsRow 0 86 1 (.q g (D.ts.length-1) c) (D.ts.length-1) ((lG D.ts).eraseIdx i))(f:Fr (Bl.one g) l e):
  aO (e.setCell ⟨D.d,14,none⟩ (.q g (D.ts.length-1) c)) v {D with ov:=.q g (D.ts.length-1) c,ts:=D.ts.eraseIdx i}/\eN (e.setCell ⟨D.d,14,none⟩ (.q g (D.ts.length-1) c)) D.β t:=by
 have r:D.ov.ownBlock=some g:=by rw[x];rfl
 have u:∀{n:Bl},(∀b,n b->b<l.heap.size/\D.ov.ownBlock≠some b/\b≠D.d)->On n l (e.setCell ⟨D.d,14,none⟩ (.q g (D.ts.length-1) c)):=λm=>(f.on (λb a=>⟨(m b a).1,λd=>by simp only[Bl.one]at d;grind⟩)).setCell (p:=⟨D.d,14,none⟩) (λa=>(m _ a).2.2 rfl) _;have o:=f.heap h.box (λd=>by simp only[Bl.one]at d;exact h.noRow (by rw[d];exact r));have q:∀j∈D.ts,eN (e.setCell ⟨D.d,14,none⟩ (.q g (D.ts.length-1) c)) D.β j:=λj k=>(h.each j k).on (u (λb a=>⟨(h.each j k).lies b a,h.txRow (h.each j k) b a,λd=>h.noTx k (d▸a)⟩));refine⟨⟨by have:=aC o 14 (.q g (D.ts.length-1) c);simpa using this,h.file.on (u (λb a=>⟨h.file.lies b a,h.fileRow b a,λd=>h.noFile (d▸a)⟩)),?_,?_,h.apart.sublist (DG _ _)⟩,q t (z▸AB hi)⟩
 ·have y:e.ownsRow 0 86 1 (.q g (D.ts.length-1) c) (D.ts.eraseIdx i).length (lG (D.ts.eraseIdx i)):=by
   rw[List.length_eraseIdx,AW hi,Tb];exact s
  exact aS y ((CJ (λb=>(Value.q g (D.ts.length-1) c).ownBlock=some b) e).setCell (p:=⟨D.d,14,none⟩) (λa=>(aQ s o (by decide)) a) _) (λb a=>a)
 ·intro j k
  exact q j (List.mem_of_mem_eraseIdx k)
theorem La(D j x i t w)(h:aO w j D)(n:D.ts.length<=1000000)(hi:i<D.ts.length)(A:D.ts[i]=t)(B:gF D.ts x=i):
  cL 43 #[.p D.d 0,.i x] w λe w'=>e=.returned (.tuple #[.p t.b 0,.i 0])/\∃g c,D.ov=.q g D.ts.length c/\aO w' j {D with ov:=.q g (D.ts.length-1) c,ts:=D.ts.eraseIdx i}/\eN w' D.β t/\Fr (λk=>k=D.d\/k=g) w w':=by
 obtain⟨g,c,l,ac,_⟩:=vU h.row (by omega);have s:D.ts.length<=c/\c<=9223372036854775807:=by
  obtain⟨_,G⟩:=h.row;rw[l]at G;rcases G with⟨o,_⟩|⟨ak,ag,ah,o,al,ac,ad,aa,am,ao⟩
  ·simp at o
  ·simp only[AP,AX,CA,DA,CT]at o
   obtain⟨rfl,rfl⟩:=o;exact⟨ad,aa⟩
 have a8:=jI D j x i t w h n hi A B;have P:Hid (∀X,bW w X->cL 91 #[.p D.d 0,.i x] X λe w'=>e=.returned (.i (i:Int))/\bW X w'):=by
  intro X b;have:=yD D j x X (h.on (vV b h.lies)) n;rw[B]at this;exact this
 have O:Hid (∀X,bW w X->cL 92 #[.q g D.ts.length c,.i (i:Int),.i ((i:Int)+1)] X λe w'=>e=.returned (.q g (D.ts.length-1) c)/\w'.ownsRow 0 86 1 (.q g (D.ts.length-1) c) (D.ts.length-1) ((lG D.ts).eraseIdx i)/\Fr (Bl.one g) X w'):=by
  intro X b;have F:=(h.on (vV b h.lies)).row;rw[l]at F;have:=Qm g D.ts.length c i (i+1) 0 (lG D.ts) X F (λu H=>by unfold lG at H;obtain⟨y,_,rfl⟩:=AY.1 H;rfl) rfl hi n s.1 s.2;simpa using this
 have Q:Hid (∀X,bW w X->aO X j D):=λX b=>h.on (vV b h.lies);have N:Hid (∀X,aO X j D->X.c D.d 14=some (.q g D.ts.length c)):=by
  intro X b;obtain⟨S,T,Y,Z,a0,a1,a2,a3,c8,c9,c10,U,V,W,m⟩:=fC b.box;rw[l]at m;exact m
 have M:Hid (∀X a,aO X j D->Fr (Bl.one g) X a->(∃v,a.c D.d 14=some v)/\∀k,a.frozen? ⟨D.d,k,none⟩=false):=by
  intro X a b ab;have E:=ab.heap b.box (λe=>by simp only[Bl.one]at e;exact b.noRow (by rw[e,l];rfl));obtain⟨S,T,Y,Z,a0,a1,a2,a3,c8,c9,c10,U,V,W,m⟩:=fC E;exact⟨⟨_,m⟩,aB E⟩
 have an:(i:Int)+1<=9223372036854775807:=by omega
 have C:Hid (D.ov=.q g D.ts.length c):=l;have R:Hid (D.ts[i]=t):=A;have ap:=(gL h.box);clear l A B h s;go_enter Tryz.func43,Tryz.ntmps43;go_wp2_with (first
  |(go_at_call 46;(with_reducible refine jC a8 ?_);rintro e af ⟨rfl,r⟩;have a7:=P.out af r)
  |(go_at_call 91;(with_reducible refine jC a7 ?_);rintro e a ⟨rfl,a9⟩;have d:=r.trans (a9.mono r.size);have q:=Q.out a d;have m:=N.out a q;have a6:=O.out a d)
  |(go_at_call 92;(with_reducible refine jC a6 ?_);rintro e I ⟨rfl,ae,f⟩;obtain⟨⟨aq,ai⟩,aj⟩:=M.out a I q f))
 obtain⟨a4,a5⟩:=aO.dropped q C.out hi R.out ae f;have J:Fr (λk=>k=D.d\/k=g) w a:=⟨d.os,d.tape,d.output,d.size,λk z _=>d.block k z⟩;have K:Fr (λk=>k=D.d\/k=g) a I:=⟨f.os,f.tape,f.output,f.size,λk z n=>f.block k z (λe=>n (.inr e))⟩;have L:=(J.trans K).setCell (p:=⟨D.d,14,none⟩) (.inl (.inl rfl)) (.q g (D.ts.length-1) c);go_ret2;exact⟨rfl,g,c,C.out,a4,a5,L⟩
theorem Mj(β sv lv fs)(m:(fs.life==0)=false)(root d g f a o u w)(n:bJ fs root o)(p:Au u o)(q:u.length=4096)(l:aH w β sv lv fs)(j:aY w a u)(c b)(r:w.heap[c]?=some (.cells (tA β root d g f) 90))(s:w.heap[b]?=some (.cells #[.q a 4096 4096] 139)):
  cL 115 #[.p c 0,.p b 0] w λe w'=>e=.returned (.i 0)/\aY w' a (marks u (eA o))/\Fr (Bl.one a) w w':=by
 have⟨t,x,y⟩:=eQ r;have z:w.c b 0=some (.q a 4096 4096):=by simp[World.cell?,s]
 go_enter Tryz.func115,Tryz.ntmps115;go_wp2_with (go_at_call 84;(with_reducible apply jC (Ga β sv lv fs m root d g f a o u w n p q l j));rintro e A ⟨⟨v,rfl⟩,k,i⟩);go_ret;simp_all
theorem Sk(β sv lv fs)(C:(fs.life==0)=false)(root d g f a o u w)(D:bJ fs root o)(E:Au u o)(G:u.length=4096)(n:aH w β sv lv fs)(z:aY w a u)(L:a<w.heap.size):
  cL 85 #[.agg (tA β root d g f),.q a 4096 4096] w λe w'=>e=.returned (.bool true)/\aY w' a (marks u (eA o))/\Fr (Bl.one a) w w':=by
 obtain⟨b,k,i,I,r,-⟩:=al2 w (.cells (tA β root d g f) 90) (.cells #[.q a 4096 4096] 139); have K:=(gL r);obtain⟨c,h,-,m,-⟩:=al1 b (.cells #[.i 0] 48);have j:bW w c:=h▸i.alloc i.size _;have x:=Fl 115 #[] #[.p w.heap.size 0,.p (w.heap.size+1) 0] (λ_ _=>rfl) b (λs w'=>s=0/\aY w' a (marks u (eA o))/\Fr (Bl.one a) c w') (by
  rw[h];exact (Mj β sv lv fs C root d g f a o u c D E G (n.on (vV j n.lies)) (z.on (Y:=Bl.one a) (vV j (oK (by omega))) rfl) w.heap.size (w.heap.size+1) (h▸aI _ I) (h▸aI _ r)).mono λe w' ⟨B,H,q⟩=>⟨0,B,q.heap m (oN (by omega)),rfl,H,q⟩)
 have J:=(gL m);go_enter Tryz.func85,Tryz.ntmps85;go_wp2_with (go_at_call 81;(with_reducible apply jC x);rintro e O ⟨s,t,rfl,⟨rfl,A,y⟩,M⟩);go_ret;exact⟨rfl,A.on (Y:=Bl.one a) ((CJ (Bl.one a) t).setCell (p:=⟨b.heap.size,0,none⟩) (λl=>by simp only[Bl.one]at l;omega) _) rfl,((AA j).trans y).setCell (p:=⟨b.heap.size,0,none⟩) (.inr i.size) _⟩
theorem qEu:(Tryz.prog.info? 4).map (λi=>(i.zero,i.size,i.bytes))=some (some (.bool false),1,1):=by kernel_rfl
theorem Tp(n):(madeCells (Value.bool false).cells (n * 1)).toList=(List.replicate n false).map Value.bool:=by
 apply FO
 ·simp[madeCells]
 ·intro c a b
  simp[madeCells,Value.cells,Nat.mod_one]
theorem Ig(W):∃b,(Instr.makeSlice 139 (.i 4096) (.i 4096)).run Tryz.prog W=.ok (.q W.heap.size 4096 4096) b/\aY b W.heap.size (List.replicate 4096 false)/\bW W b:=by
 have⟨j,d,g,h,i⟩:=EZ qEu;have⟨b,f,c,a⟩:=LB (P:=Tryz.prog) W 0 139 4 j (.bool false) 1 Tryz.underlying139 d g h .i64 .i64 4096 (by omega) (by rw[i];omega) (by unfold maxLen;omega) (AH _);rw[Tp]at c;exact⟨b,f,c,a.os,a.tape,a.output,a.size,λk e=>a.block k e (by simp)⟩
def qKp(s:ByteArray):Prop:=¬(s.size=256/\(eO s.data.toList).encE=0/\(eO s.data.toList).encS=s)
abbrev sS(z:Int):List PanicEntry:=[{v:=.iface 172 (.agg #[.int .i64 z]),recovered:=false}]
theorem Uq(z w):cL 139 #[.i z] w λe w'=>e=.panicked (sS z)/\w'=w:=by
 go_enter Tryz.func139,Tryz.ntmps139;go_wp2;exact⟨rfl,rfl,rfl⟩
theorem Ah{s}(f:qKp s)(w):
  cL 143 #[.string s] w λe w'=>e=.returned (.tuple #[.agg #[.i 0,.i 0,.i 0,.i 0,.n,.n,.n,.string ⟨#[]⟩],.i 2])/\bW w w':=by
 apply(Fb s w).mono;rintro e w' ⟨d,(⟨a,b,c,_⟩|⟨_,rfl⟩)⟩
 ·exact absurd ⟨a,b,c⟩ f
 grind
