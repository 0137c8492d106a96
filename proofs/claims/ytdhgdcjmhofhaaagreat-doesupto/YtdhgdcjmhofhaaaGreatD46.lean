import Derived.Test.YtdhgdcjmhofhaaaGreatD45
set_option linter.all false
set_option maxRecDepth 100000
set_option maxHeartbeats 8000000
namespace Go.Proofs.YtdhgdcjmhofhaaaGreat.Tree
open Go.RowKit Pages
variable {K:Bl} {j q:Nat} {w w':World} {x:Int}
theorem Sd(n)(h : -9223372036854775808<=n/\n<=9223372036854775807):wrap64 n=n:=by unfold wrap64;omega
def kJ(x:ByteArray×ByteArray):Nat:=2+if 60<x.2.size then (x.2.size+239) / 240 else 0
theorem Sv(l):dH l=2+tot kJ l:=rfl
theorem Yt{x}(h:x.2.size<=400):kJ x<=4:=by unfold kJ;split<;>omega
theorem Do:∀(l:KV),(∀x∈l,x.2.size<=400)->tot kJ l<=4 * l.length
 |[],_=>jU _
 |x :: l,h=>by
  have c:=Yt (h x (by simp));have d:=Do l (λb a=>h b (by simp[a]));simp only[cG,jB];omega
theorem Zu(v ver l S w)(h:gA w S v l)(B:∀k,S k->k<w.heap.size)(O:l.length<=1000000)(t:∀x∈l,x.2.size<=400):
  cL 109 #[.agg #[v,.i ver]] w λe w'=>e=.returned (.i (dH l:Nat))/\bW w w':=by
 obtain⟨a,c,rfl,K,z,_⟩:=h;obtain⟨f,s,q,G,-⟩:=al1 w (.cells #[.slice a l.length c,.i ver] 32);have⟨R,U⟩:=bS G;have u:Hid (∀d,d<=l.length->tot kJ (l.take d)<=4 * d):=λd C=>by
  have:=Do (l.take d) (λx E=>t x (CZ E));rw[AZ]at this;omega
 go_enter Tryz.func109,Tryz.ntmps109;go_wp2;go_loopw [3,4] (λn p F=>∃d:Nat,p=.i d/\d<=l.length/\n=.i ((2+tot kJ (l.take d):Nat):Int)/\F=f) (λ_ p _=>l.length-(intOf p).toNat)
 case atStart=>exact⟨0,rfl,AH _,rfl,rfl⟩
 case round =>
  obtain⟨d,rfl,C,rfl,D⟩:=hrel;subst D;rcases BS d l.length with o|L
  ·obtain⟨b,Q,rfl,J,H,I⟩:=(z.on (vV q B)).kv o
   have M:(d:Int)<(l.length:Int):=by omega
   have g:=lF kJ l d o;have P:(l[d]).2.size<=400:=t _ (AB o);have m:=u d (by omega);have⟨T,j⟩:=nM (tot kJ (l.take d));rw[j]at g m⊢;by_cases h6:60<(l[d]).2.size
   ·have y:(60:Int)<((l[d]).2.size:Int):=by omega
    have i:Hid (wrap64 (wrap64 (2+(T:Int)+2)+(((l[d]).2.size:Int)+239) / 240)=((2+tot kJ (l.take (d+1)):Nat):Int)):=by
     show _=_;rw[g];unfold kJ;rw[AW h6,Sd (2+(T:Int)+2) (by omega),Sd _ (by omega)];omega
    clear g j m;go_wp2;exact⟨⟨d+1,by simp,by omega,by rw[i.out],trivial⟩,by simp[intOf];omega⟩
   ·have y:¬(60:Int)<((l[d]).2.size:Int):=by omega
    have i:Hid (wrap64 (2+(T:Int)+2)=((2+tot kJ (l.take (d+1)):Nat):Int)):=by
     show _=_;rw[g];unfold kJ;rw[AQ h6,Sd _ (by omega)];omega
    clear g j m;go_wp2;exact⟨⟨d+1,by simp,by omega,by rw[i.out],trivial⟩,by simp[intOf];omega⟩
  ·obtain rfl:d=l.length:=by omega
   have r:Hid ((2+tot kJ (l.take l.length):Nat)=dH l):=by show _=_;rw[BG];rfl
   generalize 2+tot kJ (l.take l.length)=N at r⊢;go_wp2;go_ret;exact⟨by rw[r.out];rfl,q⟩
theorem Sr(v ver l S w)(h:gA w S v l)(m:∀k,S k->k<w.heap.size)(p:l.length<=1000000):
  cL 102 #[.agg #[v,.i ver]] w λe w'=>∃v',e=.returned v'/\w'.ownsRow 0 71 2 v' l.length (aG l)/\bW w w'/\∀k,v'.ownBlock=some k->w.heap.size<=k:=by
 obtain⟨b,f,d,q,-⟩:=al1 w (.cells #[v,.i ver] 32);obtain⟨s,t⟩:=bS q;have i:=vD v l S b (h.on (vV d m)) p;obtain⟨a,c,rfl,_⟩:=h;go_enter Tryz.func102,Tryz.ntmps102;go_wp2_with (go_at_call 58;(with_reducible refine jC i ?_);rintro e r ⟨v',rfl,j,g,o⟩);go_ret;exact⟨_,rfl,j,d.trans (g.mono d.size),λk n=>vJ d.size (o k n)⟩
theorem Hn(v v' l S S' w)(h:gA w S v l)(h':gA w S' v' l)(hn:l.length<=1000000):
  cL 63 #[v,v'] w λe w'=>e=.returned (.bool true)/\bW w w':=by
 obtain⟨a,c,rfl,hc,hR,_⟩:=h;obtain⟨a',c',rfl,hc',hR',_⟩:=h';have hne:(((l.length:Int)) != (l.length:Int))=false:=by simp
 go_enter Tryz.func63,Tryz.ntmps63;go_wp2;go_loopw [5] (λi wr=>∃j:Nat,i=.i j/\j<=l.length/\Hid (bW w wr/\aD wr S a (aG l)/\aD wr S' a' (aG l))) (λi _=>l.length-(intOf i).toNat)
 case atStart=>exact⟨0,rfl,AH _,AC _ _,hR,hR'⟩
 case round =>
  obtain⟨j,rfl,hj,HH⟩:=hrel;rcases BS j l.length with hlt|hge
  ·have⟨hB,hr1,hr2⟩:=HH.out
   obtain⟨b,off,rfl,hb,c0,c1⟩:=hr1.kv hlt;obtain⟨b',off',rfl,hb',d0,d1⟩:=hr2.kv hlt;have hji:(j:Int)<(l.length:Int):=by omega
   go_wp2;go_region_held3 (λX=>X.c b (off+j * 2)=some (.string (l[j]).1)/\X.c b (off+j * 2+1)=some (.string (l[j]).2)/\X.c b' (off'+j * 2)=some (.string (l[j]).1)/\X.c b' (off'+j * 2+1)=some (.string (l[j]).2))
    ((first|(with_reducible exact⟨c0,c1,d0,d1⟩)|(simp[c0,c1,d0,d1])))
    (fail)
   all_goals go_wp2
   all_goals
    have hO:∀Z:Bl,On Z wr wr.drew:=λZ=>⟨rfl,rfl,rfl,jU _,λ_ _=>rfl⟩;exact⟨⟨j+1,by simp,by omega,hB.drew,hr1.on (hO S),hr2.on (hO S')⟩,by simp[intOf];omega⟩
  ·obtain rfl:j=l.length:=by omega
   go_wp2;go_ret;exact⟨rfl,HH.1⟩
theorem qY(k w):
  cL 68 #[.string k] w λe w'=>e=.returned (.bool (decide (1<=k.size/\k.size<=24)))/\w'=w:=by
 by_cases h1:1<=k.size
 ·have a:(1:Int)<=(k.size:Int):=by omega
  go_enter Tryz.func68,Tryz.ntmps68;go_wp2;refine BI (v:=.bool (decide ((k.size:Int)<=24))) ?_ rfl ⟨by rw[show decide (1<=k.size/\k.size<=24)=decide ((k.size:Int)<=24) from LE.2 (by omega)],rfl⟩;simp[results,Tryz.results68,go_sem]
 ·have a:¬(1:Int)<=(k.size:Int):=by omega
  go_enter Tryz.func68,Tryz.ntmps68;go_wp2;refine BI (v:=.bool false) ?_ rfl ⟨rfl,rfl⟩;simp[results,Tryz.results68,go_sem]
theorem wI(k w):
  cL 69 #[.string k] w λe w'=>e=.returned (.bool (decide (k.size<=400)))/\w'=w:=by
 go_enter Tryz.func69,Tryz.ntmps69;go_wp2;refine BI (v:=.bool (decide ((k.size:Int)<=400))) ?_ rfl ⟨by rw[show decide (k.size<=400)=decide ((k.size:Int)<=400) from LE.2 (by omega)],rfl⟩;simp[results,Tryz.results69,go_sem]
structure RT where
 num:Int
 wr:Bool
 bg:KV
 bv:Int
 l:KV
 ch:List Ch
 oth:List ByteArray
 vb:Value
 vl:Value
 vc:Value
 vo:Value
abbrev RT.cells(t:RT):List Value:=[.int .i64 t.num,.bool t.wr,t.vb,.int .i64 t.bv,t.vl,t.vc,t.vo]
variable {a:List RT} {t:RT}
structure RM where
 f:Value
 x:Value
 vn:Value
 nv:Int
 va:Value
 av:Int
 ov:Value
 last:Int
 now:KV
 ah:KV
 ts:List RT
 p0:Value
 p1:Value
 p2:Value
 p3:Value
 p4:Value
 p5:Value
 p6:Value
 p7:Value
 p8:Value
 p9:Value
abbrev RM.obj(M:RM):Obj:=.cells #[M.f,M.x,M.vn,.int .i64 M.nv,M.va,.int .i64 M.av,M.ov,.int .i64 M.last,M.p0,M.p1,M.p2,M.p3,M.p4,M.p5,M.p6,M.p7,M.p8,M.p9] 43
variable {M:RM}
def fpX(t:RT):Bl:=λk=>t.vc.ownBlock=some k\/t.vo.ownBlock=some k
structure TxR (w:World) (K:Bl) (t:RT):Prop where
 bg:gA w K t.vb t.bg
 l:gA w K t.vl t.l
 ch:w.ownsRow 0 131 3 t.vc t.ch.length (t.ch.flatMap Ch.cells)
 oth:w.ownsRow 0 9 1 t.vo t.oth.length (t.oth.map .string)
structure aZ (w:World) (K:Bl) (q:Nat) (M:RM):Prop where
 box:w.heap[q]?=some M.obj
 row:w.ownsRow 0 119 7 M.ov M.ts.length (M.ts.flatMap RT.cells)
 now:gA w K M.vn M.now
 ah:gA w K M.va M.ah
 each:∀t∈M.ts,TxR w K t
 apart:M.ts.Pairwise (λa b=>∀k,fpX a k->¬fpX b k)
 kp:∀k,K k->k<w.heap.size/\k≠q/\M.ov.ownBlock≠some k/\∀t∈M.ts,¬fpX t k
def fpR(q:Nat)(M:RM):Bl:=λk=>k=q\/M.ov.ownBlock=some k\/∃t∈M.ts,fpX t k
theorem TxR.on (h:TxR w K t)(a:On K w w')(b:On (fpX t) w w'):TxR w' K t :=
 ⟨h.bg.on a,h.l.on a,aS h.ch b (λc a=>.inl a),aS h.oth b (λc a=>.inr a)⟩
theorem TxR.lies (h:TxR w K t):∀k,fpX t k->k<w.heap.size:=by
 rintro k (a|a)
 ·exact aM h.ch a
 ·exact aM h.oth a
theorem aZ.on (h:aZ w K q M)(b:On (Bl.or K (fpR q M)) w w'):aZ w' K q M:=by
 have a:=b.mono (λc a=>.inl a);exact⟨b.heap h.box (.inr (.inl rfl)),aS h.row b (λc a=>.inr (.inr (.inl a))),h.now.on a,h.ah.on a,λe d=>(h.each e d).on a (b.mono (λc a=>.inr (.inr (.inr ⟨e,d,a⟩)))),h.apart,λc a=>⟨jY (h.kp c a).1 b.size,(h.kp c a).2⟩⟩
theorem aZ.lies (h:aZ w K q M):∀k,Bl.or K (fpR q M) k->k<w.heap.size:=by
 rintro k (a|rfl|a|⟨c,b,a⟩)
 ·exact(h.kp k a).1
 ·exact(gL h.box)
 ·exact aM h.row a
 ·exact(h.each c b).lies k a
theorem aZ.below (h:aZ w K q M)(a:bW w w'):aZ w' K q M:=h.on (vV a h.lies)
theorem dL {β a b g i j k l m n o c d e f p q r s t}(h:w.heap[β]?=some (.cells #[a,b,g,i,j,k,l,m,n,o,c,d,e,f,p,q,r,s] t)):
  w.c β 0=some a/\w.c β 1=some b/\w.c β 2=some g/\w.c β 3=some i/\w.c β 4=some j/\w.c β 5=some k/\w.c β 6=some l/\w.c β 7=some m/\w.c β 8=some n/\w.c β 9=some o/\w.c β 10=some c/\w.c β 11=some d/\w.c β 12=some e/\w.c β 13=some f:=by
 simp[World.cell?,h]
theorem Cn:∀{l:List RT}{j:Nat} (a:j<l.length) {i:Nat}{u:Value},i<7->(l[j]).cells[i]?=some u->(l.flatMap RT.cells)[j * 7+i]?=some u
 |x :: l,0,_,i,u,hi,hu=>by
  rw[AJ,DV,DO,BT (by simpa using hi)];exact hu
 |x :: l,j+1,h,i,u,hi,hu=>by
  have:=Cn (l:=l) (j:=j) (by simpa using h) hi hu;rw[AJ,BJ (by simp;omega),show(j+1) * 7+i-(RT.cells x).length=j * 7+i by simp;omega];exact this
theorem aZ.tx (h:aZ w K q M)(m:M.ts[j]?=some t):∃g c,M.ov=.q g M.ts.length c/\M.ts.length<=c/\w.c g (j * 7)=some (.i t.num)/\w.c g (j * 7+1)=some (.bool t.wr)/\w.c g (j * 7+2)=some t.vb/\w.c g (j * 7+3)=some (.i t.bv)/\w.c g (j * 7+4)=some t.vl/\w.c g (j * 7+5)=some t.vc/\w.c g (j * 7+6)=some t.vo:=by
 obtain⟨n,rfl⟩:=AD.1 m;have⟨g,c,e,x,_⟩:=vU h.row (by omega);have k:M.ts.length<=c:=by
  have⟨r,s,b,v,_⟩:=bR h.row;rw[e]at b;simp only[AP,CT]at b;omega
 have a:∀d f,d<7->(M.ts[j]).cells[d]?=some f->w.c g (j * 7+d)=some f:=λd f l p=>by
  have⟨u,b,_,_,i⟩:=vZ (e▸h.row) (Cn n l p);simp only[AX,CA,DA]at b;rw[b];exact i
 exact⟨g,c,e,k,a 0 _ (by decide) rfl,a 1 _ (by decide) rfl,a 2 _ (by decide) rfl,a 3 _ (by decide) rfl,a 4 _ (by decide) rfl,a 5 _ (by decide) rfl,a 6 _ (by decide) rfl⟩
def rX(ts:List RT)(x:Int):Int:=match ts.findIdx? (λt=>t.num==x) with
 |some i=>i
 |none=>-1
theorem qCy (h:j<a.length)(d:(a[j].num==x)=true)(c:∀m (b:m<a.length),m<j->(a[m].num==x)=false):rX a x=j:=by
 unfold rX;rw[GF.2 ⟨h,d,λm b=>by simpa using c m (by omega) b⟩]
theorem Yw (c:∀m (b:m<a.length),(a[m].num==x)=false):rX a x = -1:=by
 unfold rX;rw[MB.2 (λe d=>by obtain⟨m,b,rfl⟩:=AU d;exact c m b)]
theorem xM (h:aZ w K q M)(x)(J:M.ts.length<=8):
  cL 66 #[.p q 2,.i x] w λe w'=>e=.returned (.i (rX M.ts x))/\w'=w:=by
 have⟨z,A,B,C,D,E,s,F,_⟩:=dL h.box;have l:Hid (∀a (j:a<M.ts.length),∃g c,M.ov=.q g M.ts.length c/\M.ts.length<=c/\w.c g (a * 7)=some (.i (M.ts[a]).num)):=λa j=>by
  have⟨g,c,e,o,m,_⟩:=h.tx (jQ j);exact⟨g,c,e,o,m⟩
 have⟨L,N,u⟩:=aF h.row;rw[u]at s l;go_enter Tryz.func66,Tryz.ntmps66;go_wp2;go_loopw [5] (λk y=>∃a:Nat,k=.i a/\a<=M.ts.length/\y=w/\Hid (∀b (d:b<M.ts.length),b<a->(M.ts[b].num==x)=false)) (λk _=>M.ts.length-(intOf k).toNat)
 case atStart=>exact⟨0,rfl,AH _,rfl,λb d t=>absurd t (GX _)⟩
 case round =>
  obtain⟨a,rfl,j,v,f⟩:=hrel;subst v;rcases BS a M.ts.length with p|G
  ·have⟨g,c,e,o,m⟩:=l a p
   simp only[AP,CT]at e;obtain⟨rfl,rfl⟩:=e;have H:(a:Int)<(M.ts.length:Int):=by omega
   cases hx:(M.ts[a]).num==x with
   |true =>
    have i:Hid (rX M.ts x=a):=qCy p hx f;go_wp2;go_ret;exact⟨by rw[i.out];rfl,rfl⟩
   |false =>
    have r:Hid (∀b (d:b<M.ts.length),b<a+1->(M.ts[b].num==x)=false):=λb d I=>by
     rcases BS b a with n|n
     ·exact f b d n
     ·obtain rfl:b=a:=by omega
      exact hx
    go_wp2;exact⟨⟨a+1,by simp,by omega,trivial,r⟩,by simp[intOf];omega⟩
  ·have i:Hid (rX M.ts x = -1):=Yw (λb d=>f b d (by omega))
   obtain rfl:a=M.ts.length:=by omega
   go_wp2;go_ret;exact⟨by rw[i.out];rfl,rfl⟩
def cC(ts:List RT)(x:Int):Option (Nat×RT)->Prop
 |none=>rX ts x = -1
 |some (j,t)=>ts[j]?=some t/\rX ts x=j
theorem Cs(a x):∃o,cC a x o:=by
 cases h:a.findIdx? (λc=>c.num==x) with
 |none=>exact⟨none,by show rX a x = -1;unfold rX;rw[h]⟩
 |some i =>
  have⟨b,_⟩:=GF.1 h;exact⟨some (i,a[i]),jQ b,by unfold rX;rw[h]⟩
def eR(o:Option (Nat×RT))(key:ByteArray):ByteArray×Int:=match o with
 |none=>(⟨#[]⟩,3)
 |some (_,t)=>if 1<=key.size/\key.size<=24 then (match rO t.l key with|none=>(⟨#[]⟩,5)|some v=>(v,0)) else (⟨#[]⟩,1)
theorem Cr (h:aZ w K q M)(x key o)(A:cC M.ts x o)(G:M.ts.length<=8)(F:∀t∈M.ts,t.l.length<=1000000):
  cL 59 #[.p q 2,.i x,.string key] w λe w'=>e=.returned (.tuple #[.string (eR o key).1,.i (eR o key).2])/\w'=w:=by
 have i:=xM h x G;have j:=qY key w;cases o with
 |none =>
  rw[show rX M.ts x = -1 from A]at i;go_enter Tryz.func59,Tryz.ntmps59;go_wp2_with (first
   |(go_at_call 66;(with_reducible apply jC i);rintro e w' ⟨rfl,d⟩;subst w')
   |(go_at_call 68;(with_reducible apply jC j);rintro e w' ⟨rfl,d⟩;subst w'))
  go_ret2;exact⟨rfl,rfl⟩
 |some p =>
  have⟨l,t⟩:=p;have⟨u,E⟩:=A;rw[E]at i;have a3:=(AD.1 u).1;have y:=BL u;have a4:¬(l:Int)<0:=by omega
  by_cases hk:1<=key.size/\key.size<=24
  ·rw[DM hk]at j
   have⟨J,L,N,O,P,Q,B,R,_⟩:=dL h.box;have⟨g,c,e,a1,S,T,U,V,C,W,X⟩:=h.tx u;rw[e]at B;have m:=Lo t.vl t.l key K w (h.each t y).l (F t y);have⟨a,a8,I,a6,D,_⟩:=(h.each t y).l;rw[I]at C m;have H:=uL t.l key;have n:Hid (eR (some (l,t)) key=match rO t.l key with|none=>(⟨#[]⟩,5)|some v=>(v,0)):=by show _=_;simp only[eR];rw[AW hk]
   have s:Hid (∀k:rat t.l key<t.l.length,rO t.l key=if (t.l[rat t.l key]).1=key then some (t.l[rat t.l key]).2 else none):=λk=>by unfold rO mK;rw[jQ k];simp
   have z:Hid (t.l.length<=rat t.l key->rO t.l key=none):=λh=>by unfold rO mK;rw[CU h];rfl
   generalize rat t.l key=r at m H s z;rcases BS r t.l.length with k|a2
   ·obtain⟨b,a9,rfl,a0,Y,Z⟩:=D.kv k
    have a7:((r:Int)==(t.l.length:Int))=false:=by simp;omega
    by_cases he:(t.l[r]).1=key
    ·have f:Hid (eR (some (l,t)) key=((t.l[r]).2,0)):=by show _=_;rw[n.out,s.out k,AW he]
     go_enter Tryz.func59,Tryz.ntmps59;go_wp2_with (first
      |(go_at_call 66;(with_reducible apply jC i);rintro e w' ⟨rfl,d⟩;subst w')
      |(go_at_call 68;(with_reducible apply jC j);rintro e w' ⟨rfl,d⟩;subst w')
      |(go_at_call 103;(with_reducible apply jC m);rintro e w' ⟨rfl,d⟩;subst w'))
     go_ret2;exact⟨by rw[f.out];rfl,rfl⟩
    ·have f:Hid (eR (some (l,t)) key=(⟨#[]⟩,5)):=by show _=_;rw[n.out,s.out k,AQ he]
     have a5:=DH.2 (λe=>he (iB e));go_enter Tryz.func59,Tryz.ntmps59;go_wp2_with (first
      |(go_at_call 66;(with_reducible apply jC i);rintro e w' ⟨rfl,d⟩;subst w')
      |(go_at_call 68;(with_reducible apply jC j);rintro e w' ⟨rfl,d⟩;subst w')
      |(go_at_call 103;(with_reducible apply jC m);rintro e w' ⟨rfl,d⟩;subst w'))
     go_ret2;exact⟨by rw[f.out];rfl,rfl⟩
   ·obtain rfl:r=t.l.length:=by omega
    have f:Hid (eR (some (l,t)) key=(⟨#[]⟩,5)):=by show _=_;rw[n.out,z.out (jU _)]
    go_enter Tryz.func59,Tryz.ntmps59;go_wp2_with (first
     |(go_at_call 66;(with_reducible apply jC i);rintro e w' ⟨rfl,d⟩;subst w')
     |(go_at_call 68;(with_reducible apply jC j);rintro e w' ⟨rfl,d⟩;subst w')
     |(go_at_call 103;(with_reducible apply jC m);rintro e w' ⟨rfl,d⟩;subst w'))
    go_ret2;exact⟨by rw[f.out];rfl,rfl⟩
  ·rw[FH hk]at j
   have f:Hid (eR (some (l,t)) key=(⟨#[]⟩,1)):=by show _=_;simp only[eR];rw[AQ hk]
   go_enter Tryz.func59,Tryz.ntmps59;go_wp2_with (first
    |(go_at_call 66;(with_reducible apply jC i);rintro e w' ⟨rfl,d⟩;subst w')
    |(go_at_call 68;(with_reducible apply jC j);rintro e w' ⟨rfl,d⟩;subst w'))
   go_ret2;exact⟨by rw[f.out];rfl,rfl⟩
def cR(o:Option (Nat×RT))(lo hi:ByteArray)(most:Int):KV×Int:=match o with
 |none=>([],3)
 |some (_,t)=>if lo.size<=24/\hi.size<=24/\0<=most then (rL t.l lo hi most.toNat,0) else ([],1)
theorem Wl{c:Type}{p}:∀{D:List c}{m most:Nat},(∀x∈D.take m,p x=true)->m<=most->(D.length<=m\/m=most\/∃h:m<D.length,p D[m]=false)->(D.takeWhile p).take most=D.take m
 |[],m,most,_,_,_=>by simp
 |x :: D,0,most,_,hm,hs=>by
  rcases hs with h|h|⟨h,a⟩
  ·simp at h
  ·subst h;simp
  ·have:p x=false:=a
   simp[HV,this]
 |x :: D,m+1,most,ha,hm,hs=>by
  obtain⟨b,rfl⟩:∃b,most=b+1:=⟨most-1,by omega⟩;have d:p x=true:=ha x (by simp);have f:=Wl (D:=D) (m:=m) (most:=b) (λg e=>ha g (by simp[e])) (by omega) (by
   rcases hs with h|h|⟨h,a⟩
   ·exact .inl (by simpa using h)
   ·exact .inr (.inl (by omega))
   ·exact .inr (.inr ⟨by simpa using h,by simpa using a⟩))
  simp[HV,d,f]
theorem Hm (h:aZ w K q M)(x lo hi most o)(ho:cC M.ts x o)(hn:M.ts.length<=8)(hl:∀t∈M.ts,t.l.length<=1000000):
  cL 62 #[.p q 2,.i x,.string lo,.string hi,.i most] w λe w'=>∃v,e=.returned (.tuple #[v,.i (cR o lo hi most).2])/\w'.ownsRow 0 71 2 v (cR o lo hi most).1.length (aG (cR o lo hi most).1)/\bW w w'/\∀k,v.ownBlock=some k->w.heap.size<=k:=by
 have hF:=xM h x hn;cases o with
 |none =>
  rw[show rX M.ts x = -1 from ho]at hF;go_enter Tryz.func62,Tryz.ntmps62;go_wp2_with (go_at_call 66;(with_reducible refine jC hF ?_);rintro e w' ⟨rfl,hw⟩;subst w');go_ret2;exact⟨_,rfl,AL _ _ _ _,AC _ _,λk hk=>by simp[Value.ownBlock]at hk⟩
 |some p =>
  obtain⟨j,t⟩:=p;obtain⟨hj,hidx⟩:=ho;rw[hidx]at hF;have hjl:j<M.ts.length:=(AD.1 hj).1;have hmem:t∈M.ts:=BL hj;have hjn:¬(j:Int)<0:=by omega
  by_cases hk:lo.size<=24/\hi.size<=24/\0<=most
  ·obtain⟨k1,k2,k3⟩:=hk
   obtain⟨mo,rfl⟩:∃mo:Nat,most=mo:=⟨most.toNat,by omega⟩;have i1:¬(24:Int)<(lo.size:Int):=by omega
   have i2:¬(24:Int)<(hi.size:Int):=by omega
   have i3:¬(mo:Int)<0:=by omega
   obtain⟨b0,b1,b2,b3,b4,b5,b6,b7,_⟩:=dL h.box;obtain⟨g,c,e,hc,c0,c1,c2,c3,c4,c5,c6⟩:=h.tx hj;rw[e]at b6;have hA:=Lo t.vl t.l lo K w (h.each t hmem).l (hl t hmem);have hll:=hl t hmem;obtain⟨a,lc,hvl,hlc,hR,_⟩:=(h.each t hmem).l;rw[hvl]at c4 hA;have hrl:=uL t.l lo;have HG:Hid (cR (some (j,t)) lo hi (mo:Int)=(rL t.l lo hi mo,0)):=by show _=_;simp only[cR];rw[AW ⟨k1,k2,k3⟩];rfl
   have HS:Hid (rL t.l lo hi mo=((t.l.drop (rat t.l lo)).takeWhile (λx=>Sp.below hi x.1)).take mo):=rfl;have hKp:=λk hk=>(h.kp k hk).1;generalize rat t.l lo=r at hA hrl HS;clear h hj hidx e;have HDL:Hid ((t.l.drop r).length=t.l.length-r):=BH;go_enter Tryz.func62,Tryz.ntmps62;go_wp2_with (first
    |(go_at_call 66;(with_reducible refine jC hF ?_);rintro e w' ⟨rfl,hw⟩;subst w')
    |(go_at_call 103;(with_reducible refine jC hA ?_);rintro e w' ⟨rfl,hw⟩;subst w'))
   go_loopw [13,15] (λout i wr=>∃(m:Nat) (va:Option Addr) (vc:Nat),i=.i ((r+m:Nat):Int)/\r+m<=t.l.length/\m<=mo/\out=.slice va m vc/\Hid (wr.ownsRow 0 71 2 (.slice va m vc) m (aG ((t.l.drop r).take m))/\bW w wr/\(∀k,(Value.slice va m vc).ownBlock=some k->w.heap.size<=k)/\(∀x∈(t.l.drop r).take m,Sp.below hi x.1=true)/\aD wr K a (aG t.l))) (λ_ i _=>t.l.length-(intOf i).toNat)
   case atStart=>exact⟨0,none,0,by simp,by omega,AH _,rfl,by simpa[aG] using AL _ _ _ _,AC _ _,λk hk=>by simp[Value.ownBlock]at hk,by simp,hR⟩
   case round =>
    obtain⟨m,va,vc,rfl,hm1,hm2,rfl,HH⟩:=hrel;clear hA hF b0 b1 b2 b3 b4 b5 b6 b7 c0 c1 c2 c3 c4 c5 c6;have HFIN:Hid ((t.l.length<=r+m\/m=mo\/∃h:r+m<t.l.length,Sp.below hi (t.l[r+m]).1=false)->∃v,Value.slice va m vc=v/\wr.ownsRow 0 71 2 v (cR (some (j,t)) lo hi (mo:Int)).1.length (aG (cR (some (j,t)) lo hi (mo:Int)).1)/\bW w wr/\∀k,v.ownBlock=some k->w.heap.size<=k):=by
     intro hs;obtain⟨ho,hB,hli,hall,_⟩:=HH.out;have e:=Wl (p:=λx:ByteArray×ByteArray=>Sp.below hi x.1) hall hm2 (by
      rcases hs with h|h|⟨h,hp⟩
      ·exact .inl (by rw[HDL.out];omega)
      ·exact .inr (.inl h)
      ·exact .inr (.inr ⟨by rw[HDL.out];omega,by rw[GG];exact hp⟩))
     have el:((t.l.drop r).take m).length=m:=by rw[AZ,HDL.out];omega
     refine⟨_,rfl,?_,hB,hli⟩;rw[HG.out,HS.out,e];show wr.ownsRow 0 _ 2 _ ((t.l.drop r).take m).length _
     rw[el];exact ho
    have HG2:Hid ((cR (some (j,t)) lo hi (mo:Int)).2=0):=by show _=_;rw[HG.out]
    rcases BS (r+m) t.l.length with hlt|hge
    ·have hji:((r+m:Nat):Int)<(t.l.length:Int):=by omega
     rcases BS m mo with hmo|hmo
     ·obtain⟨hown,hB,hli,hall,hR2⟩:=HH.out
      obtain⟨b,off,rfl,hb,d0,d1⟩:=hR2.kv hlt;have hmi:(m:Int)<(mo:Int):=by omega
      have HNX:Hid (Sp.below hi (t.l[r+m]).1=true->∀v3 w3,fB 71 2 (.slice va m vc) m (aG ((t.l.drop r).take m)) [.string (t.l[r+m]).1,.string (t.l[r+m]).2] 1 wr v3 w3->w3.ownsRow 0 71 2 v3 (m+1) (aG ((t.l.drop r).take (m+1)))/\bW w w3/\(∀k,v3.ownBlock=some k->w.heap.size<=k)/\(∀x∈(t.l.drop r).take (m+1),Sp.below hi x.1=true)/\aD w3 K (some ⟨b,off,none⟩) (aG t.l)):=by
       intro hp v3 w3 A;have hd:m<(t.l.drop r).length:=by rw[HDL.out];omega
       have et:(t.l.drop r).take (m+1)=(t.l.drop r).take m++[t.l[r+m]]:=by rw[AK hd,GG]
       have hB3:bW w w3:=hB.trans (A.fr.below hB.size (λk hk=>hli k hk));refine⟨by rw[et,iE];exact A.row,hB3,λk hk=>(A.lies k hk).elim (hli k) (λh=>vJ hB.size h),?_,hR.on (vV hB3 hKp)⟩;rw[et];intro x hx;rcases AO.1 hx with hx|hx
       ·exact hall x hx
       ·rw[AS]at hx;subst hx;exact hp
      have hw1:IntKind.i64.wrap (((r+m:Nat):Int)+1)=((r+(m+1):Nat):Int):=by rw[CO];omega
      cases hn0:isNil hi with
      |true =>
       have hb1:Sp.below hi (t.l[r+m]).1=true:=by simp[Sp.below,hn0]
       have hie:hi.toList.isEmpty=true:=hn0;go_wp2_with (at_builtin;refine fK wr rfl (.tmp 71) (.tmp 76) 30 71 _ 2 32 rfl Tryz.underlying30 cS rfl (by decide) (.slice va m vc) m (aG ((t.l.drop r).take m)) rfl hown [.string (t.l[r+m]).1,.string (t.l[r+m]).2] rfl rfl (by simp[Value.oneCell']) (by omega) (by omega) ?_;intro v3 w3 A3;obtain⟨g3,k3,rfl⟩:=A3.shape (by decide));exact⟨⟨m+1,_,_,by simp;omega,by omega,by omega,rfl,HNX.out hb1 _ _ A3⟩,by simp[intOf];omega⟩
      |false =>
       have hie:hi.toList.isEmpty=false:=hn0;cases hlq:lt (t.l[r+m]).1 hi with
       |true =>
        have hb1:Sp.below hi (t.l[r+m]).1=true:=by simp[Sp.below,hlq]
        have hL:Op.bytesLess (t.l[r+m]).1.toList hi.toList=true:=hlq;go_wp2_with (at_builtin;refine fK wr rfl (.tmp 71) (.tmp 76) 30 71 _ 2 32 rfl Tryz.underlying30 cS rfl (by decide) (.slice va m vc) m (aG ((t.l.drop r).take m)) rfl hown [.string (t.l[r+m]).1,.string (t.l[r+m]).2] rfl rfl (by simp[Value.oneCell']) (by omega) (by omega) ?_;intro v3 w3 A3;obtain⟨g3,k3,rfl⟩:=A3.shape (by decide));exact⟨⟨m+1,_,_,by simp;omega,by omega,by omega,rfl,HNX.out hb1 _ _ A3⟩,by simp[intOf];omega⟩
       |false =>
        have hb1:Sp.below hi (t.l[r+m]).1=false:=by simp[Sp.below,hlq,hn0]
        have hL:Op.bytesLess (t.l[r+m]).1.toList hi.toList=false:=hlq;clear hw1;go_wp2;go_ret2;obtain⟨v,hv,hr⟩:=HFIN.out (.inr (.inr ⟨hlt,hb1⟩));exact⟨v,by rw[<-hv,HG2.out];rfl,hr⟩
     ·have hmi:¬(m:Int)<(mo:Int):=by omega
      go_wp2;go_ret2;obtain⟨v,hv,hr⟩:=HFIN.out (.inr (.inl (by omega)));exact⟨v,by rw[<-hv,HG2.out];rfl,hr⟩
    ·have hji:¬((r+m:Nat):Int)<(t.l.length:Int):=by omega
     go_wp2;go_ret2;obtain⟨v,hv,hr⟩:=HFIN.out (.inl hge);exact⟨v,by rw[<-hv,HG2.out];rfl,hr⟩
  ·have HA:Hid (cR (some (j,t)) lo hi most=([],1)):=by show _=_;simp only[cR];rw[AQ hk]
   have HB:(24:Int)<(lo.size:Int)\/(¬(24:Int)<(lo.size:Int)/\(24:Int)<(hi.size:Int))\/(¬(24:Int)<(lo.size:Int)/\¬(24:Int)<(hi.size:Int)/\most<0):=by omega
   rw[HA.out];rcases HB with i1|⟨i1,i2⟩|⟨i1,i2,i3⟩
   all_goals go_enter Tryz.func62,Tryz.ntmps62
   all_goals go_wp2_with (go_at_call 66;(with_reducible refine jC hF ?_);rintro e w' ⟨rfl,hw⟩;subst w')
   all_goals go_ret2
   all_goals exact⟨_,rfl,AL _ _ _ _,AC _ _,λk hk=>by simp[Value.ownBlock]at hk⟩
def iP(o:Option (Nat×RT)):Int:=match o with
 |none=>-1
 |some (j,_)=>j
theorem cC.idx {o}(h:cC a x o):rX a x=iP o:=by
 cases o with
 |none=>exact h
 |some p=>exact h.2
theorem gI (h:aZ w K q M){o}(c:cC M.ts x o)(b:M.ts.length<=8)(X)(a:bW w X):
  cL 66 #[.p q 2,.i x] X λe w'=>e=.returned (.i (iP o))/\w'=X:=by
 rw[<-c.idx];exact xM (h.below a) x b
def bU(o:Option (Nat×RT)):Int:=match o with
 |none=>3
 |some (_,t)=>if t.wr=true then 0 else 4
def vQ(o:Option (Nat×RT))(key:ByteArray):Int:=if bU o=0/\¬(1<=key.size/\key.size<=24) then 1 else bU o
theorem Ho (h:aZ w K q M)(x o)(d:cC M.ts x o)(c:M.ts.length<=8):
  cL 75 #[.p q 2,.i x] w λe w'=>e=.returned (.bool o.isSome)/\w'=w:=by
 have a:=gI h d c w (AC _ _);cases o with
 |none =>
  go_enter Tryz.func75,Tryz.ntmps75;go_wp2_with (go_at_call 66;(with_reducible apply jC a);rintro e w' ⟨rfl,f⟩;subst w');go_ret;exact⟨rfl,rfl⟩
 |some p =>
  have b:(0:Int)<=iP (some p):=by show(0:Int)<=(p.1:Int);omega
  generalize iP (some p)=i at a b;go_enter Tryz.func75,Tryz.ntmps75;go_wp2_with (go_at_call 66;(with_reducible apply jC a);rintro e w' ⟨rfl,f⟩;subst w');refine BI (v:=.bool true) ?_ rfl ⟨rfl,rfl⟩;simp[results,Tryz.results75,go_sem,b]
theorem kM (h:aZ w K q M)(x o)(i:cC M.ts x o):
  cL 67 #[.p q 2,.i (iP o)] w λe w'=>e=.returned (.i (bU o))/\w'=w:=by
 cases o with
 |none =>
  go_enter Tryz.func67,Tryz.ntmps67;simp only[iP];go_wp2;go_ret;exact⟨rfl,rfl⟩
 |some p =>
  have⟨b,j⟩:=p;have a:=i.1;have D:=(AD.1 a).1;have E:¬(b:Int)<0:=by omega
  have⟨k,l,m,n,r,s,d,t,_⟩:=dL h.box;have⟨g,c,e,C,u,f,v,y,z,A,B⟩:=h.tx a;rw[e]at d;show cL _ #[.p q 2,.i (b:Int)] w _
  simp only[bU];cases hw:j.wr
  all_goals rw[hw]at f
  all_goals go_enter Tryz.func67,Tryz.ntmps67
  all_goals go_wp2
  all_goals go_ret
  all_goals exact⟨rfl,rfl⟩
theorem Sy (h:aZ w K q M)(x key o)(j:cC M.ts x o)(k:M.ts.length<=8):
  cL 72 #[.p q 2,.i x,.string key] w λe w'=>e=.returned (.i (vQ o key))/\w'=w:=by
 have g:=gI h j k w (AC _ _);have f:=kM h x o j;have b:=qY key w;have c:Hid (vQ o key=if bU o=0/\¬(1<=key.size/\key.size<=24) then 1 else bU o):=rfl;generalize vQ o key=za at c⊢;generalize bU o=z at f c;generalize iP o=i at g f;by_cases hz:z=0
 ·have l:(z==0)=true:=by simpa using hz
  by_cases hk:1<=key.size/\key.size<=24
  ·rw[DM hk]at b
   have d:Hid (za=z):=by show _=_;rw[c.out,AQ (λh=>h.2 hk)]
   go_enter Tryz.func72,Tryz.ntmps72;go_wp2_with (first
    |(go_at_call 66;(with_reducible apply jC g);rintro e w' ⟨rfl,a⟩;subst w')
    |(go_at_call 67;(with_reducible apply jC f);rintro e w' ⟨rfl,a⟩;subst w')
    |(go_at_call 68;(with_reducible apply jC b);rintro e w' ⟨rfl,a⟩;subst w'))
   go_ret;exact⟨by rw[d.out];simp_all,rfl⟩
  ·rw[FH hk]at b
   have d:Hid (za=1):=by show _=_;rw[c.out,AW ⟨hz,hk⟩]
   go_enter Tryz.func72,Tryz.ntmps72;go_wp2_with (first
    |(go_at_call 66;(with_reducible apply jC g);rintro e w' ⟨rfl,a⟩;subst w')
    |(go_at_call 67;(with_reducible apply jC f);rintro e w' ⟨rfl,a⟩;subst w')
    |(go_at_call 68;(with_reducible apply jC b);rintro e w' ⟨rfl,a⟩;subst w'))
   go_ret;exact⟨by rw[d.out];rfl,rfl⟩
 ·have l:(z==0)=false:=by simpa using hz
  have d:Hid (za=z):=by show _=_;rw[c.out,AQ (λh=>hz h.1)]
  generalize decide (1<=key.size/\key.size<=24)=kb at b;go_enter Tryz.func72,Tryz.ntmps72;go_wp2_with (first
   |(go_at_call 66;(with_reducible apply jC g);rintro e w' ⟨rfl,a⟩;subst w')
   |(go_at_call 67;(with_reducible apply jC f);rintro e w' ⟨rfl,a⟩;subst w')
   |(go_at_call 68;(with_reducible apply jC b);rintro e w' ⟨rfl,a⟩;subst w'))
  go_ret;exact⟨by rw[d.out];rfl,rfl⟩
theorem Ke (h:aZ w K q M)(x j t)(f:cC M.ts x (some (j,t)))(n:M.ts.length<=8):
  cL 76 #[.p q 2,.i x] w λe w'=>e=.returned (.bool (decide (0<t.ch.length)))/\bW w w':=by
 have i:Hid (∀X,bW w X->cL 66 #[.p q 2,.i x] X λe w'=>e=.returned (.i (j:Int))/\w'=X):=λX k=>gI h f n X k;have d:=f.1;have L:j<M.ts.length:=(AD.1 d).1;have m:t∈M.ts:=BL d;have⟨s,u,y,z,A,B,a,C,_⟩:=dL h.box;have⟨g,c,e,J,D,E,F,G,H,b,I⟩:=h.tx d;rw[e]at a;have⟨p,r,o⟩:=aF (h.each t m).ch;rw[o]at b;have l:decide ((0:Int)<(t.ch.length:Int))=decide (0<t.ch.length):=LE.2 (by omega);go_enter Tryz.func76,Tryz.ntmps76;go_wp2;go_region_held3 (λX=>X.c q 6=some (.q g M.ts.length c)/\X.c g (j * 7+5)=some (.slice p t.ch.length r))
  ((first|(with_reducible exact⟨a,b⟩)|(simp[a,b])))
  ((go_at_call 66;(with_reducible refine jC (i.out _ ?_) ?_);exact(AC _ w).drew;rintro e w' ⟨rfl,N⟩;subst w'))
 all_goals go_wp2
 all_goals refine BI (v:=.bool (decide ((0:Int)<(t.ch.length:Int)))) ?_ rfl ⟨by rw[l],(AC _ w).drew⟩
 all_goals simp[results,Tryz.results76,go_sem]
theorem qGc {β a b c d e f g t}(h:w.heap[β]?=some (.cells #[a,b,c,d,e,f,g] t)):w.c β 0=some a/\w.c β 1=some b/\w.c β 2=some c/\w.c β 3=some d/\w.c β 4=some e/\w.c β 5=some f/\w.c β 6=some g:=by
 simp[World.cell?,h]
theorem qAs{a β:Type}(f:β->a->β)(b)(l:List a)(m)(h:m<l.length):(l.take (m+1)).foldl f b=f ((l.take m).foldl f b) l[m]:=by
 rw[AK h,GK];rfl
theorem qDc(l c):(eE l c).length<=l.length+1:=by
 have:=uL l c.key;have a:rat l c.key<=Gg l c.key:=by unfold Gg;omega
 unfold eE rwo nJ
 grind
theorem sT:∀(a:List Ch) (l:KV),(a.foldl eE l).length<=l.length+a.length
 |[],l=>jU _
 |c :: a,l=>by have b:=qDc l c;have d:=sT a (eE l c);grind
abbrev Bt(w:World)(q j:Nat)(M:RM)(t:RT)(g c:Nat):Prop:=w.cell? ⟨q,6,none⟩=some (.slice (some ⟨g,0,none⟩) M.ts.length c)/\w.cell? ⟨g,j * 7,none⟩=some (.int .i64 t.num)/\w.cell? ⟨g,j * 7+1,none⟩=some (.bool t.wr)/\w.cell? ⟨g,j * 7+2,none⟩=some t.vb/\w.cell? ⟨g,j * 7+3,none⟩=some (.int .i64 t.bv)/\w.cell? ⟨g,j * 7+4,none⟩=some t.vl/\w.cell? ⟨g,j * 7+5,none⟩=some t.vc/\w.cell? ⟨g,j * 7+6,none⟩=some t.vo
theorem aZ.txCells (h:aZ w K q M)(f:M.ts[j]?=some t):∃g c,M.ts.length<=c/\∀X,bW w X->Bt X q j M t g c:=by
 have⟨g,c,d,k,_⟩:=h.tx f;refine⟨g,c,k,λX i=>?_⟩;have e:=h.below i;have⟨m,l,a,_,r⟩:=e.tx f;rw[d]at a;simp only[AP,AX,CA,DA,CT]at a;obtain⟨rfl,rfl⟩:=a;have b:=(dL e.box).2.2.2.2.2.2.1;grind
theorem uM (h:aZ w K q M)(x j t)(ho:cC M.ts x (some (j,t)))(hn:M.ts.length<=8)(hl:M.now.length+t.ch.length<=1000000)(hv:M.nv<1000000000/\0<=M.nv):
  cL 79 #[.p q 2,.i x] w λe w'=>∃v,e=.returned (.agg #[v,.i (M.nv+1)])/\w'.ownsRow 0 71 2 v (t.ch.foldl eE M.now).length (aG (t.ch.foldl eE M.now))/\bW w w'/\∀k,v.ownBlock=some k->w.heap.size<=k:=by
 have HF:Hid (∀X,bW w X->cL 66 #[.p q 2,.i x] X λe w'=>e=.returned (.i (j:Int))/\w'=X):=λX hX=>gI h ho hn X hX;have hj:=ho.1;have hjl:j<M.ts.length:=(AD.1 hj).1;have hmem:t∈M.ts:=BL hj;obtain⟨ba,bc,e1,_⟩:=(h.each t hmem).bg;obtain⟨la,lc,e2,_⟩:=(h.each t hmem).l;obtain⟨ca,cc,e3⟩:=aF (h.each t hmem).ch;obtain⟨oa,oc,e4⟩:=aF (h.each t hmem).oth;obtain⟨num,wr,bg,bv,tl,ch,oth,vb,vl,vc,vo⟩:=t;dsimp only at e1 e2 e3 e4 hl⊢;subst e1 e2 e3 e4;obtain⟨g,c,hc,hTX⟩:=h.txCells hj;obtain⟨W1,hW1,B1,-⟩:=al1 w (.cells #[.n,.i 0] 32);have HTX:Hid (∀X,bW W1 X->Bt X q j M ⟨num,wr,bg,bv,tl,ch,oth,.slice ba bg.length bc,.slice la tl.length lc,.slice ca ch.length cc,.slice oa oth.length oc⟩ g c):=λX hX=>hTX X (B1.trans (hX.mono B1.size));have B10:bW W1 W1:=AC _ _;have HZ:Hid (W1.heap.size=w.heap.size+1):=by show _=_;rw[<-hW1];simp
 have HB2:Hid (∀X,bW W1 X->X.c q 2=some M.vn/\X.c q 3=some (.i M.nv)):=λX hX=>by
  have:=dL (h.below (B1.trans (hX.mono B1.size))).box;exact⟨this.2.2.1,this.2.2.2.1⟩
 have HCP:Hid (∀X,bW W1 X->cL 58 #[M.vn] X λe w'=>∃v',e=.returned v'/\w'.ownsRow 0 71 2 v' M.now.length (aG M.now)/\bW X w'/\∀k,v'.ownBlock=some k->X.heap.size<=k):=λX hX=>vD M.vn M.now K X (h.below (B1.trans (hX.mono B1.size))).now (by omega);have HX0:Hid (W1.heap[w.heap.size]?=some (.cells #[.n,.i 0] 32)):=hW1▸aA w _;have HCH:Hid (∀X,bW W1 X->aD X (λk=>(Value.slice ca ch.length cc).ownBlock=some k) ca (ch.flatMap Ch.cells)):=λX hX=>by
  obtain⟨a',c',e',_,hrow⟩:=bR ((h.below (B1.trans (hX.mono B1.size))).each _ hmem).ch;simp only[AP,CT]at e';obtain⟨e1,e2⟩:=e';subst e1;exact hrow
 have HLN:Hid (∀m,m<=ch.length->((ch.take m).foldl eE M.now).length<=1000000):=λm hm=>by
  have:=sT (ch.take m) M.now;rw[AZ]at this;omega
 obtain⟨na,nc,hvn,_⟩:=h.now;rw[hvn]at HB2 HCP;go_enter Tryz.func79,Tryz.ntmps79;go_wp2;obtain⟨b6,c0,c1,c2,c3,c4,c5,c6⟩:=HTX.out W1 B10;go_region_held3 (λX=>X.c q 6=some (.q g M.ts.length c)/\X.c g (j * 7)=some (.i num)/\X.c g (j * 7+1)=some (.bool wr)/\X.c g (j * 7+2)=some (.slice ba bg.length bc)/\X.c g (j * 7+3)=some (.i bv)/\X.c g (j * 7+4)=some (.slice la tl.length lc)/\X.c g (j * 7+5)=some (.slice ca ch.length cc)/\X.c g (j * 7+6)=some (.slice oa oth.length oc))
  ((refine HTX.out _ ?_;(repeat (first|exact B10|(refine GU ?_)|(refine KN ?_ (by first|omega|(simp;omega)|exact jU _) _)|(refine JI ?_ (by first|omega|(simp;omega)|exact jU _) _)))))
  ((go_at_call 66;(with_reducible refine jC (HF.out _ ?_) ?_);(first|exact B1.drew|exact(B1.alloc B1.size _).drew|exact B1.drew.alloc B1.size _);rintro e w' ⟨rfl,hw⟩;subst w'))
 all_goals
  obtain⟨W2,hW2⟩:=nM ((W1.alloc (.cells #[.i num,.bool wr,.slice ba bg.length bc,.i bv,.slice la tl.length lc,.slice ca ch.length cc,.slice oa oth.length oc] 119)).drew);have B2:bW W1 W2:=hW2▸(B10.alloc (jU _) _).drew;have x2:W2.heap[W1.heap.size]?=some (.cells #[.i num,.bool wr,.slice ba bg.length bc,.i bv,.slice la tl.length lc,.slice ca ch.length cc,.slice oa oth.length oc] 119):=by rw[<-hW2,FL];exact aA W1 _
  have b2:=HB2.out W2 B2;have hC:=HCP.out W2 B2;clear b6 c0 c1 c2 c3 c4 c5 c6;go_wp2_with (go_at_call 58;(with_reducible refine jC hC ?_);rintro e W3 ⟨v3,rfl,hO3,hB3,hl3⟩;obtain⟨a3,d3,rfl⟩:=aF hO3);have HX3:Hid (∀X,bW W3 X->X.heap[W1.heap.size]?=some (.cells #[.i num,.bool wr,.slice ba bg.length bc,.i bv,.slice la tl.length lc,.slice ca ch.length cc,.slice oa oth.length oc] 119)/\aD X (λk=>(Value.slice ca ch.length cc).ownBlock=some k) ca (ch.flatMap Ch.cells)/\X.c q 3=some (.i M.nv)/\X.heap[w.heap.size]?=some (.cells #[.n,.i 0] 32)/\bW w X):=by
   intro X hX;have l2:=(gL x2);have hX2:bW W2 X:=hB3.trans (hX.mono hB3.size);have hX1:bW W1 X:=B2.trans (hX2.mono B2.size);exact⟨(hX2.block _ l2).trans x2,HCH.out X hX1,(HB2.out X hX1).2,(hX1.block _ (by have:=HZ.out;omega)).trans HX0.out,B1.trans (hX1.mono B1.size)⟩
  have z3:=hB3.size;have z2:=B2.size;clear hC hW2 x2 b2;go_loopw [6,7] (λlv i wr=>∃(m:Nat) (a:Option Addr) (d:Nat),i=.i m/\m<=ch.length/\lv=.slice a ((ch.take m).foldl eE M.now).length d/\Hid (wr.ownsRow 0 71 2 (.slice a ((ch.take m).foldl eE M.now).length d) ((ch.take m).foldl eE M.now).length (aG ((ch.take m).foldl eE M.now))/\bW W3 wr/\(∀k,(Value.slice a ((ch.take m).foldl eE M.now).length d).ownBlock=some k->w.heap.size<=k))) (λ_ i _=>ch.length-(intOf i).toNat)
  case atStart=>exact⟨0,a3,d3,rfl,AH _,rfl,hO3,AC _ _,λk hk=>by have:=hl3 k hk;have:=B1.size;omega⟩
  case round =>
   obtain⟨m,va,vd,rfl,hm,rfl,HH⟩:=hrel;obtain⟨hO,hBw,hli⟩:=HH.out;obtain⟨xx,hrc,hq3,x0,hBX⟩:=HX3.out wr hBw;obtain⟨y0,y1,y2,y3,y4,y5,y6⟩:=qGc xx;have hlen:=HLN.out m hm;rcases BS m ch.length with hlt|hge
   ·have hji:(m:Int)<(ch.length:Int):=by omega
    obtain⟨cb,co,rfl,hcb,d0,d1,d2⟩:=hrc.ch hlt;have hs:=qAs eE M.now ch m hlt;obtain⟨Lm,hLm⟩:=nM ((ch.take m).foldl eE M.now);rw[hLm]at hO hli hlen hs⊢;have HLS:Hid ((ch.take (m+1)).foldl eE M.now=eE Lm ch[m]):=hs;obtain⟨ck,cv,cg,hcm⟩:∃ck cv cg,ch[m]=⟨ck,cv,cg⟩:=⟨_,_,_,rfl⟩;rw[hcm]at d0 d1 d2 HLS;dsimp only at d0 d1 d2;obtain⟨W4,hW4,B4,x4,-⟩:=al1 wr (.cells #[.string ck,.string cv,.bool cg] 131);obtain⟨u0,u1,u2⟩:=eQ x4;have hO4:=CG (w:=wr) hO (.cells #[.string ck,.string cv,.bool cg] 131);rw[hW4]at hO4;have hKv:=KM hO4;have HEND:Hid (∀(v':Value) (X:World),X.ownsRow 0 71 2 v' (eE Lm ⟨ck,cv,cg⟩).length (aG (eE Lm ⟨ck,cv,cg⟩))->bW W4 X->(∀k,v'.ownBlock=some k->W4.heap.size<=k)->∃(m':Nat) (a:Option Addr) (d:Nat),Value.i ((m:Int)+1)=.i m'/\m'<=ch.length/\v'=.slice a ((ch.take m').foldl eE M.now).length d/\Hid (X.ownsRow 0 71 2 (.slice a ((ch.take m').foldl eE M.now).length d) ((ch.take m').foldl eE M.now).length (aG ((ch.take m').foldl eE M.now))/\bW W3 X/\(∀k,(Value.slice a ((ch.take m').foldl eE M.now).length d).ownBlock=some k->w.heap.size<=k))):=by
     intro v' X hO' hB' hl';obtain⟨a',d',rfl⟩:=aF hO';refine⟨m+1,a',d',by simp,by omega,by rw[HLS.out],?_⟩;rw[HLS.out];exact⟨hO',hBw.trans ((B4.trans (hB'.mono B4.size)).mono hBw.size),λk hk=>by have:=hl' k hk;have:=B4.size;have:=hBX.size;omega⟩
    clear hs hLm hcm y0 y1 y2 y3 y4 y6 hq3 x0 hrc;cases cg with
    |true =>
     have hW:=Wu (.slice va Lm.length vd) Lm ck _ W4 hKv (λk hk=>aM hO4 hk) hlen;go_wp2_with (go_at_call 108;(with_reducible refine jC hW ?_);rintro e X5 ⟨v5,rfl,hO5,hB5,hl5⟩);exact⟨HEND.out v5 X5 hO5 hB5 hl5,by simp[intOf];omega⟩
    |false =>
     have ufr:=aB x4;have hset:W4.setCell ⟨wr.heap.size,2,none⟩ (.bool false)=W4:=eD x4 rfl;have hW:=Hk (.slice va Lm.length vd) Lm ck cv _ W4 hKv (λk hk=>aM hO4 hk) hlen;go_wp2_with (go_at_call 70;(with_reducible refine jC hW ?_);rintro e X5 ⟨v5,rfl,hO5,hB5,hl5⟩);exact⟨HEND.out v5 X5 hO5 hB5 hl5,by simp[intOf];omega⟩
   ·obtain rfl:m=ch.length:=by omega
    have HLT:Hid ((ch.take ch.length).foldl eE M.now=ch.foldl eE M.now):=by show _=_;rw[BG]
    generalize (ch.take ch.length).foldl eE M.now=Lm at hO hli HLT⊢;obtain⟨z0,z1⟩:=bS x0;have zfr:=aB x0;have hji:¬((ch.length:Nat):Int)<(ch.length:Int):=by omega
    have hvw:IntKind.i64.wrap (M.nv+1)=M.nv+1:=by rw[CO];omega
    have xf:=aC (aC x0 0 (.slice va Lm.length vd)) 1 (.i (M.nv+1));have FF:Fr (Bl.one w.heap.size) wr ((wr.setCell ⟨w.heap.size,0,none⟩ (.slice va Lm.length vd)).setCell ⟨w.heap.size,1,none⟩ (.i (M.nv+1))):=((AF (Bl.one w.heap.size) wr).setCell (p:=⟨w.heap.size,0,none⟩) (.inl rfl) _).setCell (p:=⟨w.heap.size,1,none⟩) (.inl rfl) _;have hOf:=aS hO (FF.on (Z:=λk=>(Value.slice va Lm.length vd).ownBlock=some k) (λk hk=>⟨aM hO hk,λe=>by simp only[Bl.one]at e;subst e;exact aQ hO x0 (by decide) hk⟩)) (λk hk=>hk);have HF:Hid ((ch.foldl eE M.now).length=Lm.length/\aG (ch.foldl eE M.now)=aG Lm):=by rw[<-HLT.out];exact⟨rfl,rfl⟩
    go_wp2;refine BI (v:=.agg #[.slice va Lm.length vd,.i (M.nv+1)]) ?_ rfl ⟨_,rfl,?_,?_,hli⟩
    ·exact ER (p:=4) rfl _ _ w.heap.size _ _ _ _ rfl (by simpa using xf) Tryz.underlying32 rfl (by kernel_rfl)
    ·rw[HF.out.1,HF.out.2];exact hOf
    ·exact hBX.trans (FF.below hBX.size (oK (by omega)))
def iT(ch:List Ch)(oth:List ByteArray):Bool:=ch.any (λc=>oth.any (λy=>decide (y=c.key)))
theorem xN{a b}:iT a b=true↔∃c∈a,c.key∈b:=by simp[iT]
theorem Zc (h:aZ w K q M)(x j t)(ak:cC M.ts x (some (j,t)))(U:M.ts.length<=8)(bb:t.ch.length<=1000000)(bc:t.oth.length<=1000000):
  cL 77 #[.p q 2,.i x] w λe w'=>e=.returned (.bool (iT t.ch t.oth))/\bW w w':=by
 have an:Hid (∀X,bW w X->cL 66 #[.p q 2,.i x] X λe w'=>e=.returned (.i (j:Int))/\w'=X):=λX y=>gI h ak U X y;have a5:=ak.1;have bu:=(AD.1 a5).1;have B:t∈M.ts:=BL a5;have⟨H,I,P,_⟩:=(h.each t B).bg;have⟨V,W,F,_⟩:=(h.each t B).l;have⟨p,m,Q⟩:=aF (h.each t B).ch;have⟨r,l,R⟩:=aF (h.each t B).oth;have⟨Y,u,E,J,G,a,b,c0,vl,c1,c2⟩:=t;dsimp only at P F Q R bb bc⊢;subst P F Q R;have⟨g,c,af,b3⟩:=h.txCells a5;have a9:Hid (∀X,bW w X->Bt X q j M ⟨Y,u,E,J,G,a,b,.slice H E.length I,.slice V G.length W,.slice p a.length m,.slice r b.length l⟩ g c):=b3;have z:bW w w:=AC _ _;have am:Hid (∀X,bW w X->aD X (λk=>(Value.slice p a.length m).ownBlock=some k) p (a.flatMap Ch.cells)/\aD X (λk=>(Value.slice r b.length l).ownBlock=some k) r (b.map .string)/\a.length<=m/\b.length<=l):=λX y=>by
  have⟨bl,bn,ac,b4,be⟩:=bR ((h.below y).each _ B).ch;have⟨bm,ab,F,b5,bf⟩:=bR ((h.below y).each _ B).oth;simp only[AP,CT]at ac F;have⟨P,Q⟩:=ac;have⟨R,b1⟩:=F;subst P Q R b1;exact⟨be,bf,b4,b5⟩
 have⟨au,av,aw,ab,ax,ay,az,b0⟩:=a9.out w z;go_enter Tryz.func77,Tryz.ntmps77;go_wp2;go_region_held3 (λX=>X.c q 6=some (.q g M.ts.length c)/\X.c g (j * 7)=some (.i Y)/\X.c g (j * 7+1)=some (.bool u)/\X.c g (j * 7+2)=some (.slice H E.length I)/\X.c g (j * 7+3)=some (.i J)/\X.c g (j * 7+4)=some (.slice V G.length W)/\X.c g (j * 7+5)=some (.slice p a.length m)/\X.c g (j * 7+6)=some (.slice r b.length l))
  ((apply a9.out _;(repeat (first|exact z|(apply GU)|(refine KN ?_ (by first|omega|(simp;omega)|exact jU _) _)|(refine JI ?_ (by first|omega|(simp;omega)|exact jU _) _)))))
  ((go_at_call 66;(with_reducible refine jC (an.out _ ?_) ?_);(first|exact z.drew|exact(z.alloc (jU _) _).drew|exact z.drew.alloc (jU _) _);rintro e w' ⟨rfl,bz⟩;subst w'))
 all_goals
  have⟨o,a4⟩:=nM ((w.alloc (.cells #[.i Y,.bool u,.slice H E.length I,.i J,.slice V G.length W,.slice p a.length m,.slice r b.length l] 119)).drew);have a8:bW w o:=a4▸(z.alloc (jU _) _).drew;have al:o.heap[w.heap.size]?=some (.cells #[.i Y,.bool u,.slice H E.length I,.i J,.slice V G.length W,.slice p a.length m,.slice r b.length l] 119):=by rw[<-a4,FL];exact aA w _
  have aa:Hid (∀X,bW o X->X.c w.heap.size 5=some (.slice p a.length m)/\X.c w.heap.size 6=some (.slice r b.length l)/\aD X (λk=>(Value.slice p a.length m).ownBlock=some k) p (a.flatMap Ch.cells)/\aD X (λk=>(Value.slice r b.length l).ownBlock=some k) r (b.map .string)/\a.length<=m/\b.length<=l/\bW w X):=λX y=>by
   have ae:=qGc ((y.block _ (gL al)).trans al);have T:=a8.trans (y.mono a8.size);have⟨bh,bi,bj,bk⟩:=am.out X T;exact⟨ae.2.2.2.2.2.1,ae.2.2.2.2.2.2,bh,bi,bj,bk,T⟩
  clear au av aw ab ax ay az b0;go_wp2;go_loopw [6,7] (λd k u=>∃i:Nat,d=.i i/\i<=a.length/\Hid (bW o u/\∀n (U:n<a.length),n<i->(a[n]).key ∉ b)) (λd _ _=>a.length-(intOf d).toNat)
  case atStart=>exact⟨0,rfl,AH _,by rw[a4];exact AC _ _,λn U a2=>absurd a2 (GX _)⟩
  case round =>
   obtain⟨i,rfl,bv,ao⟩:=hrel;have⟨ad,aj⟩:=ao.out;have⟨C,D,a6,a7,bo,bx,T⟩:=aa.out _ ad;rcases BS i a.length with ag|bp
   ·have b7:(i:Int)<(a.length:Int):=by omega
    go_wp2;go_loopw [7] (λk u=>∃n:Nat,k=.i n/\n<=b.length/\Hid (bW o u/\∀d (s:d<b.length),d<n->b[d]≠(a[i]).key)) (λk _=>b.length-(intOf k).toNat)
    case atStart=>exact⟨0,rfl,AH _,ad,λn U a2=>absurd a2 (GX _)⟩
    case round =>
     obtain⟨n,rfl,bw,aq⟩:=hrel;clear C D a6 a7;have⟨a3,ai⟩:=aq.out;have⟨C,D,a6,a7,_,_,b2⟩:=aa.out _ a3;rcases BS n b.length with ah|bq
     ·have b8:(n:Int)<(b.length:Int):=by omega
      obtain⟨L,N,rfl,_,O,_⟩:=a6.ch ag;obtain⟨Z,a0,rfl,_,S⟩:=a7.at (f:=Value.string) ah;have br:n<l:=by omega
      by_cases A:(a[i]).key=b[n]
      ·have a1:Hid (iT a b=true):=xN.2 ⟨a[i],AB ag,by rw[A];exact AB ah⟩
       have ba:((a[i]).key.toList==(b[n]).toList)=true:=by rw[A];exact beq_self_eq_true _
       go_wp2;go_region_held3 (λX=>X.c w.heap.size 5=some (.slice (some ⟨L,N,none⟩) a.length m)/\X.c w.heap.size 6=some (.slice (some ⟨Z,a0,none⟩) b.length l)/\X.c L (N+i * 3)=some (.string (a[i]).key)/\X.c Z (a0+n)=some (.string b[n]))
        ((first|(with_reducible exact⟨C,D,O,S⟩)|(simp[C,D,O,S])))
        (fail)
       all_goals go_wp2
       all_goals go_ret
       all_goals exact⟨by rw[a1.out];rfl,b2.drew⟩
      ·have ba:=DH.2 (λe=>A (iB e))
       have ar:Hid (∀d (s:d<b.length),d<n+1->b[d]≠(a[i]).key):=λd s bt=>by
        rcases BS d n with v|v
        ·exact ai d s v
        ·obtain rfl:d=n:=by omega
         exact λe=>A e.symm
       go_wp2;go_region_held3 (λX=>X.c w.heap.size 5=some (.slice (some ⟨L,N,none⟩) a.length m)/\X.c w.heap.size 6=some (.slice (some ⟨Z,a0,none⟩) b.length l)/\X.c L (N+i * 3)=some (.string (a[i]).key)/\X.c Z (a0+n)=some (.string b[n]))
        ((first|(with_reducible exact⟨C,D,O,S⟩)|(simp[C,D,O,S])))
        (fail)
       all_goals go_wp2
       all_goals exact⟨⟨n+1,by simp,by omega,a3.drew,ar.out⟩,by simp[intOf];omega⟩
     ·have b8:¬(n:Int)<(b.length:Int):=by omega
      have ap:Hid (∀d (s:d<a.length),d<i+1->(a[d]).key ∉ b):=λd s bs=>by
       rcases BS d i with v|v
       ·exact aj d s v
       ·obtain rfl:d=i:=by omega
        intro bd;have⟨bg,b9,b6⟩:=AU bd;exact ai bg b9 (by omega) b6
      go_wp2;exact⟨⟨i+1,by simp,by omega,a3,ap.out⟩,by simp[intOf];omega⟩
   ·have b7:¬(i:Int)<(a.length:Int):=by omega
    have a1:Hid (iT a b=false):=by
     refine KU.2 (λv=>?_);have⟨c,af,A⟩:=xN.1 v;obtain⟨d,s,rfl⟩:=AU af;exact aj d s (by omega) A
    go_wp2;go_ret;exact⟨by rw[a1.out];rfl,T⟩
