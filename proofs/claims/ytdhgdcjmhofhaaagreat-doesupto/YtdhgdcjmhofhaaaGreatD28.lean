import Derived.Test.YtdhgdcjmhofhaaaGreatD27
set_option linter.all false
set_option maxRecDepth 100000
set_option maxHeartbeats 8000000
namespace Go.Proofs.YtdhgdcjmhofhaaaGreat.Tree
open Go.RowKit Pages
variable {B m n p:Nat} {K:List ByteArray} {P:Program} {S:Bl} {b:Type} {e:TypeId} {g:Pg} {l:List (Nat×Pg)} {o:Option (Nat×T)} {w w':World} {xs:List Value}
theorem Rb{fs}:∀{l:List (Nat×Pg)}{p r:Nat},fA fs p r l->2<=p->∀x∈l,2<=x.1
 |[],_,_,_,_,x,a=>by simp at a
 |y :: l,p,r,h,hp,x,a=>by
  have⟨k,m,d,e,n,j,f,g,b⟩:=h;rcases AR.1 a with rfl|a
  ·omega
  ·rcases qEv d e with c|c
   ·have:j=0:=by omega
    subst this;rw[g.1 rfl]at b;cases l with
    |nil=>simp at a
    |cons z l=>have⟨_,o,_⟩:=b;omega
   ·rw[f]at c
    exact Rb b (fO c).1 x a
theorem qHm {fs es s}(h:aU fs 0 (.leaf p es) s)(f:2<=p):∀q∈T.pages 0 (.leaf p es),2<=q:=by
 intro q b;simp only[T.pages,AR,AV]at b;rcases b with rfl|⟨i,g,b⟩
 ·exact f
 ·obtain⟨j,c,rfl⟩:=AY.1 b
  obtain⟨_,_,⟨_,a,_⟩|⟨k,a,r,o,l,d,m,n,e⟩⟩:=jL h i g
  ·grind
  ·rw[d]at a
   exact Rb e (fO a).1 j c
theorem Nc{fs}:∀{h:Nat}{t:T}{s:Sp},aU fs h t s->2<=t.place->∀q∈T.pages h t,2<=q
 |0,.leaf p es,s,H,hp=>qHm H hp
 |0,.branch _ _ _,s,H,_=>H.elim
 |h+1,.leaf _ _,s,H,_=>by simp[aU]at H
 |h+1,.branch p ks kids,s,H,hp=>by
  have⟨_,_,_,_,e⟩:=dG H;have⟨g,f,j,_,i,_⟩:=H;intro q a;simp only[T.pages,AR,AV]at a;rcases a with rfl|⟨c,b,a⟩
  ·exact hp
  ·have⟨l,k⟩:=lX (s:=s) (ks:=ks) b
   have d:=Pj f j (c.place:Int) (by grind);exact Nc (e _ k) (fO d).1 q a
theorem Hw {fs root}(d:bJ fs root o)(g:oV o)(c:root=0\/bH (root:Nat)=true):∀q∈eA o,2<=q:=by
 cases o with
 |none=>simp[eA]
 |some x =>
  have⟨e,h⟩:=x;have⟨f,a,b⟩:=d;apply Nc b;rw[a];exact(fO (c.resolve_left (by omega))).1
def dK(n:Nat)(u:List Bool):List Nat:=(List.range' 2 (n-2)).filter (λp=>!(u.getD p true))
theorem yE {u}(h:p∈dK n u):2<=p/\p<n/\¬on u p:=by
 simp only[dK,DZ,KY]at h;have⟨c,a⟩:=h;refine⟨by omega,by omega,λb=>?_⟩;unfold on at b;grind
theorem Pl(n u):(dK n u).Nodup:=EF _ (List.nodup_range' (s:=2) (n:=n-2))
theorem Ut {u}{ps:List Nat}(e:n<=u.length)(d:∀p,on u p->p∈ps):n-2<=(dK n u).length+ps.length:=by
 have a:=Kq (l:=List.range' 2 (n-2)) (m:=dK n u++ps) (List.nodup_range') (λp c=>by
  rw[KY]at c;simp only[AO];by_cases a:on u p
  ·exact .inr (d p a)
  ·refine .inl ?_
   simp only[dK,DZ,KY];refine⟨c,?_⟩;have b:p<u.length:=by omega
   rw[DJ,jQ b];unfold on at a;grind)
 grind
theorem Ck {P:List b->Prop}(c:P [])(d:∀l x,P l->P (l++[x]))(l):P l:=by
 have e:∀a:List b,P a.reverse:=by
  intro a;induction a with
  |nil=>exact c
  |cons x a ih=>grind
 have:=e l.reverse;rwa[GS]at this
theorem Ee(l x p):uD (l++[x]) p=if x.1=p then some x.2 else uD l p:=by
 unfold uD;grind
theorem qHo:∀ (l:List (Nat×ByteArray)) (s:List ByteArray) (p:Nat),(∀ x∈l,x.1<s.length)→(laid s l).getD p ⟨#[]⟩=(uD l p).getD (s.getD p ⟨#[]⟩):=by
 intro l;induction l using Ck with
 |c=>intro s p _;rfl
 |d l x ih =>
  intro s p h;have e:laid s (l++[x])=(laid s l).set x.1 x.2:=by simp [laid]
  rw [e,Ee,DJ,List.getElem?_set];have hx:=h x (by simp);by_cases hp:x.1=p
  ·rw [AW hp,AW hp,AW (by rw [dY];omega)];rfl
  ·rw [AQ hp,AQ hp,← DJ]
   exact ih s p (λy hy=>h y (by simp [hy]))
theorem tG(fs:Fs)(h:fs.fits)(p):fs.synced.at p=fs.at p:=qHo fs.late fs.safe p h
theorem qK {fs:Fs}(h:fs.fits):fs.synced.has p g↔fs.has p g:=by
 unfold Fs.has;rw[tG fs h];show p<(laid fs.safe fs.late).length/\_↔_
 rw[dY]
theorem Kh(fs:Fs)(q d p):(fs.put q d).at p=if q=p then d else fs.at p:=by
 unfold Fs.at Fs.put;simp only[Ee];split<;>rfl
def Fs.puts(fs:Fs)(l:List (Nat×Pg)):Fs:={fs with late:=fs.late++l.map (λy=>(y.1,y.2.encS))}
theorem Mw(fs:Fs):fs.puts []=fs:=by simp[Fs.puts]
theorem Hq(fs:Fs)(l a):fs.puts (l++[a])=(fs.puts l).put a.1 a.2.encS:=by simp[Fs.puts,Fs.put]
theorem Kf:∀ (l:List (Nat×Pg)) (fs:Fs) (p:Nat),(p ∉ l.map (·.1)→(fs.puts l).at p=fs.at p)∧((l.map (·.1)).Nodup→∀ y∈l,y.1=p→(fs.puts l).at p=y.2.encS):=by
 intro l;induction l using Ck with
 |c=>intro fs p;rw [Mw];exact⟨λ_=>rfl,λ_ y hy=>by simp at hy⟩
 |d l x ih =>
  intro fs p;rw [Hq,Kh];obtain⟨i1,i2⟩:=ih fs p;constructor
  ·intro h
   rw [BM,AO] at h;rw [AQ (λe=>h (.inr (by simp [e])))];exact i1 (λh'=>h (.inl h'))
  ·intro hn y hy hyp
   rw [BM] at hn;obtain⟨n1,n2,n3⟩:=List.nodup_append.1 hn;rcases AO.1 hy with hy|hy
   ·have:x.1≠p:=λe=>n3 y.1 (AY.2 ⟨y,hy,rfl⟩) x.1 (by simp) (by rw [hyp,e])
    rw [AQ this];exact i2 n1 y hy hyp
   ·rw [AS] at hy
    subst hy;rw [AW hyp]
theorem qDe {fs:Fs}(e:(l.map (·.1)).Nodup)(c:∀a∈l,a.2.encE=0)(f:∀a∈l,a.2.ver=0)(d:∀a∈l,a.1<fs.safe.length):∀a∈l,(fs.puts l).has a.1 a.2:=by
 intro a b;refine⟨d a b,?_⟩;rw[(Kf l fs a.1).2 e a b rfl];exact Qf a.2 (by grind) (c a b)
theorem Zd {fs:Fs}(a:p ∉ l.map (·.1))(h:fs.has p g):(fs.puts l).has p g:=by
 refine⟨h.1,?_⟩;rw[(Kf l fs p).1 a];exact h.2
theorem Mx {fs:Fs}{q p d}(a:q≠p)(h:fs.has p g):(fs.put q d).has p g:=by
 refine⟨h.1,?_⟩;rw[Kh,AQ a];exact h.2
def Fs.made(fs:Fs)(l:List (Nat×Pg))(m:Nat)(mt:Pg):Fs:=(((fs.puts l).synced).put m mt.encS).synced
variable {fs:Fs}
theorem Zy {mt Z}(u:fs.fits)(v:(l.map (·.1)).Nodup)(t:∀a∈l,a.2.encE=0)(w:∀a∈l,a.2.ver=0)(k:∀a∈l,a.1<fs.safe.length/\a.1≠m)(d:m<fs.safe.length)(n:∀a∈l,a.1∈Z)(o:m∈Z):
  Laid fs (fs.made l m mt) Z l/\(fs.made l m mt).at m=mt.encS/\(fs.made l m mt).late=[]/\(fs.made l m mt).safe.length=fs.safe.length/\∀p,p ∉ Z->(fs.made l m mt).at p=fs.at p:=by
 have i:(fs.puts l).fits:=by
  intro q c;simp only[Fs.puts,AO,AY]at c;rcases c with c|⟨a,b,rfl⟩
  ·exact u q c
  ·exact(k a b).1
 have r:(fs.puts l).synced.safe.length=fs.safe.length:=dY _ _;have f:(((fs.puts l).synced).put m mt.encS).fits:=by
  intro q c;simp only[Fs.put,Fs.synced,jE,AS]at c;subst c;show m<(laid _ _).length
  rw[dY];exact d
 refine⟨⟨λa b=>(qK f).2 (Mx (k a b).2.symm ((qK i).2 (qDe v t w (λa b=>(k a b).1) a b))),λp g e s=>?_⟩,?_,rfl,?_,λp e=>?_⟩
 ·have j:p ∉ l.map (·.1):=λd=>by
   grind
  exact(qK f).2 (Mx (λh:m=p=>e (h▸o)) ((qK i).2 (Zd j s)))
 ·show(Fs.synced _).at m=_
  rw[tG _ f,Kh,AW rfl]
 ·show(laid _ _).length=_
  rw[dY];exact r
 ·show(Fs.synced _).at p=_
  have j:p ∉ l.map (·.1):=λd=>by
   grind
  rw[tG _ f,Kh,AQ (λh:m=p=>e (h▸o)),tG _ i,(Kf l fs p).1 j]
theorem qGq {fs b root}(a:bJ fs root o)(d:oV o)(c:∀p∈eA o,∀g,fs.has p g->b.has p g):bJ b root o:=by
 cases o with
 |none=>exact a
 |some x=>exact⟨a.1,a.2.1,Sj a.2.2 c⟩
structure Tr (K:List ByteArray) (fs:Fs) (o:Option (Nat×T)):Prop where
 rooted:bJ fs (rootOf o) o
 flat:oV o
 keys:qKt K o
 root:rootOf o=0\/bH (rootOf o:Nat)=true
theorem Tr.stays {fs a}(h:Tr K fs o)(b:∀p∈eA o,∀g,fs.has p g->a.has p g):Tr K a o:=⟨qGq h.rooted h.flat b,h.flat,h.keys,h.root⟩
def pH(fs:Fs)(p ver root:Nat):Prop:=(fs.at p=gY 256/\ver=0/\root=0)\/Rz (fs.at p) (dR ver root)
structure lD (K:List ByteArray) (n:Nat) (fs:Fs) (v:Nat) (o ao:Option (Nat×T)):Prop where
 late:fs.late=[]
 len:fs.safe.length=n
 meta0:pH fs (v % 2) v (rootOf o)
 meta1:∃v',pH fs ((v+1) % 2) v' (rootOf ao)/\(v'+1=v\/(v'=v/\rootOf ao=rootOf o))
 sure:Tr K fs o
 ahead:Tr K fs ao
 size:∀s∈fs.safe,s.size=256
theorem yA:∀(a:List (Nat×ByteArray)) (b:List ByteArray),(∀s∈b,s.size=256)->(∀x∈a,x.2.size=256)->∀s∈laid b a,s.size=256
 |[],_,h,_=>h
 |x :: a,b,h,h'=>yA a (b.set x.1 x.2) (λs d=>(EA d).elim (h s) (λc=>c▸h' x (by simp))) (λf e=>h' f (by simp[e]))
theorem Zx {mt}(h:∀s∈fs.safe,s.size=256)(d:fs.late=[])(c:∀b∈l,b.2.encE=0)(e:mt.encE=0):∀s∈(fs.made l m mt).safe,s.size=256:=by
 refine yA _ _ (yA _ _ h (λg a=>?_)) (λg a=>?_)
 ·simp only[Fs.puts,d,jE,AY]at a
  obtain⟨b,f,rfl⟩:=a;exact sV _ (c b f)
 ·simp only[Fs.put,Fs.synced,jE,AS]at a
  subst a;exact sV _ e
def bZ(o:Option (Nat×T))(cs:List Ch)(fr:List Nat):Option (Nat×T)×List (Nat×Pg):=bO (iG o cs) fr
structure rN (K:List ByteArray) (n:Nat) (fs:Fs) (o:Option (Nat×T)) (cs:List Ch) (fr:List Nat):Prop where
 tree:Tr K fs o
 rise:cJ cs
 good:∀c∈cs,c.good
 free:∀p∈fr,2<=p/\p<n
 small:n<=4096
 len:fs.safe.length=n
 nodup:fr.Nodup
 away:∀p∈eA o,p ∉ fr
 size:(aX o).length+cs.length<=1000000
structure Vw (K:List ByteArray) (n:Nat) (fs:Fs) (o:Option (Nat×T)) (cs:List Ch) (fr:List Nat):Prop extends rN K n fs o cs fr where
 room:(bZ o cs fr).2.length<=fr.length
theorem rN.place {cs fr}(h:rN K n fs o cs fr):∀p∈fr,bH (p:Nat)=true:=λp a=>by
 have:=h.free p a;have:=h.small;simp only[bH,AN,BQ];omega
theorem wQ {v o ao cs fr}(S:lD K n fs v o ao)(P:Vw K n fs o cs fr)(N:v+1<9223372036854775808)(M:2<=n):
  lD K n (fs.made (bZ o cs fr).2 ((v+1) % 2) (dR (v+1:Nat) (rootOf (bZ o cs fr).1))) (v+1) (bZ o cs fr).1 o /\
  (∀c∈(bZ o cs fr).2,c.2.encE=0)/\(bZ o cs fr).2.map (·.1)=fr.take (bZ o cs fr).2.length /\
  (aX (bZ o cs fr).1).map En.kv=(bD (aX o) cs).map En.kv /\
  ∀o',Tr K fs o'->(∀p∈eA o',p ∉ fr)->Tr K (fs.made (bZ o cs fr).2 ((v+1) % 2) (dR (v+1:Nat) (rootOf (bZ o cs fr).1))) o':=by
 have u:=P.room;unfold bZ at u⊢;have i:=P.place;have C:=Hw P.tree.rooted P.tree.flat P.tree.root;have L:(v+1) % 2<2:=Nat.mod_lt _ (by decide);have t:∀(o':Option (Nat×T)),Tr K fs o'->(∀p∈eA o',p ∉ fr)->∀p∈eA o',p ∉ (v+1) % 2 :: fr:=λo' d a p h k=>by
  have C:=Hw d.rooted d.flat d.root p h;rcases AR.1 k with b|b
  ·omega
  ·exact a p h b
 have e:=qAd (El P.tree.rooted P.rise P.good) fr u i ((v+1) % 2 :: fr) (λc f p h=>t o P.tree P.away p (Up P.tree.rooted P.rise c f p h));have q:=e.enc;have j:=e.places;have w:=qCb j;have A:fs.fits:=λO y=>by rw[S.late]at y;simp at y
 have⟨r,F,G,H,I⟩:=Zy (fs:=fs) (l:=(bO (iG o cs) fr).2) (m:=(v+1) % 2) (mt:=dR (v+1:Nat) (rootOf (bO (iG o cs) fr).1)) (Z:=(v+1) % 2 :: fr) A
  (by rw[j];exact P.nodup.sublist (FK _ _)) q e.ver (λc f=>by have:=P.free _ (w c f);rw[P.len];omega) (by rw[P.len];omega) (λc f=>KJ _ (w c f)) (by simp)
 have⟨J,z⟩:=e.stands _ r;have x:∀o',Tr K fs o'->(∀p∈eA o',p ∉ fr)->Tr K (fs.made (bO (iG o cs) fr).2 ((v+1) % 2) (dR (v+1:Nat) (rootOf (bO (iG o cs) fr).1))) o':=λo' d a=>d.stays (λp i g B=>r.keep p g (t o' d a p i) B);have s:=Qe (v+1:Nat) (rootOf (bO (iG o cs) fr).1) (by omega) (z.imp (λb=>by rw[b];rfl) id);refine⟨⟨G,H.trans P.len,?_,⟨v,?_,.inl (by omega)⟩,⟨J,trivial,trivial,z⟩,x o P.tree P.away,Zx S.size S.late q s⟩,q,j,e.kv,x⟩
 ·refine .inr ?_
  show Rz (Fs.at _ _) _
  rw[F];exact Qf _ (by show((v+1:Nat):Int)<_;omega) s
 ·have E:(v+1+1) % 2=v % 2:=by omega
  rw[E];have D:v % 2 ∉ (v+1) % 2 :: fr:=by
   intro k;rcases AR.1 k with b|b
   ·omega
   ·have:=P.free _ b;omega
  unfold pH;rw[I _ D];exact S.meta0
theorem qCt (w T b E a zero z bytes)(h:P.underlying T=some (.slice a))(g:P.underlying b=some (.int .i64))(hi:(P.info? a).map (λi=>(i.zero,i.size,i.bytes))=some (some zero,z,bytes))(D:zero.cells.size=z)(H:0<z)(m)(p:0<m)(G:m<=140737488355328)(k:m * bytes<=140737488355328):
  ∃c w',(Builtin.append_ #[T,b] E #[.n,.i m]).run P w=.ok (.q w.heap.size m c) w'/\m<=c/\w'.ownsRow 0 a z (.q w.heap.size 0 c) 0 []/\Fr Bl.none w w':=by
 obtain⟨I,o,A,B,C⟩:=EZ hi;have x:IntKind.i64.wrap (m:Int)=(m:Int):=by simp[IntKind.wrap,IntKind.bits,IntKind.signed];omega
 have q:¬((m:Int)<0):=by omega
 have r:¬((281474976710656:Int)<(m:Int) * (bytes:Int)):=by
  have:((m * bytes:Nat):Int)=(m:Int) * (bytes:Int):=by simp
  omega
 have j:∀d:World,Sem.run P (asIntOf (Value.int IntKind.i64 (m:Int))) d=.ok (.i64,(m:Int)) d:=λ_=>rfl;have u:¬m=0:=by omega
 have v:¬(m * z=0):=by rw[Nat.mul_eq_zero];omega
 have y:¬z=0:=by omega
 have s:¬((m:Int)<=0):=by omega
 have t:max (m:Int) 0=(m:Int):=by omega
 have f:¬(9223372036854775807<(m:Int)):=by omega
 have F:=JH (need:=m) (old:=0) (bytes:=bytes) p k;have e:¬(281474976710656<Builtin.nextslicecap m 0 * bytes):=by omega
 have n:=LT w m 0 a;have l:=LC w m 0 a (by unfold maxLen;omega);refine⟨grownCap w m 0 a,w.drew.alloc (.cells (Builtin.zeroCells zero.cells m++Builtin.zeroCells zero.cells (grownCap w m 0 a-m)) a),?_,n,?_,?_⟩
 ·simp[Builtin.append_,CV h,CV g,sizeOf,typeInfo,o,A,B,C,asInt,j,x,q,r,zeroValue,u,v,y,s,t,f,e,Question.forced,newRow,grownCap,Builtin.firstCells]
 ·refine⟨by simp,.inr ⟨w.heap.size,_,_,rfl,AH _,heap_alloc_new w.drew _,AH _,l,?_,by simp⟩⟩
  simp[Builtin.zeroCells,D];rw[<-Nat.add_mul];congr 1;omega
 ·exact(AF _ w).drew.alloc _
theorem Vz {ops e o a Q}(w)(r:o.guard=none)(f x T d b zero z bytes)(u:o.op=.call {callee:=.builtin .append,args:=#[f,x],argTypes:=#[T,d]})(p:P.underlying T=some (.slice b))(l:P.underlying d=some (.int .i64))(hi:(P.info? b).map (λi=>(i.zero,i.size,i.bytes))=some (some zero,z,bytes))(C:zero.cells.size=z)(A:0<z)(m:Nat)(y:a.eval f=.n)(B:a.eval x=.i m)(t:0<m)(s:m<=140737488355328)(q:m * bytes<=140737488355328)(h:∀c w',m<=c->w'.ownsRow 0 b z (.q w.heap.size 0 c) 0 []->Fr Bl.none w w'->wpList P ops Q e (a.put o.dst (.q w.heap.size m c)) w'):
  wpList P ops Q (o :: e) a w:=by
 refine EN r λK n=>?_;have⟨c,w',v,g,j,k⟩:=qCt (P:=P) w T d o.type b zero z bytes p l hi C A m t s q;unfold Oper.wp execOp;simp only[u,resolve,invoke,builtin,DY,DT,DF,DI,BD,CX,y,B,v];exact n _ _ (h c w' g j k)
theorem qAo(m:Nat)(w)(g:m<=4000000):
  cL 222 #[.n,.i m] w λe w'=>∃v,e=.returned v/\w'.ownsRow 0 69 4 v 0 []/\bW w w'/\∀k,v.ownBlock=some k->w.heap.size<=k:=by
 go_enter Tryz.func222,Tryz.ntmps222;by_cases hm:0<m
 ·have f:(0:Int)<(m:Int):=by omega
  go_wp2_with (at_builtin;apply Vz w rfl (.tmp 20) (.tmp 21) 67 3 69 _ 4 48 rfl Tryz.underlying67 Tryz.underlying3 Ei rfl (by decide) m rfl rfl hm (by omega) (by omega);intro c h d b a);go_ret;exact⟨_,rfl,b,a.below0,by simp[Value.ownBlock]⟩
 ·obtain rfl:m=0:=by omega
  go_wp2;go_ret;exact⟨_,rfl,AL _ _ _ _,AC _ _,by simp[Value.ownBlock]⟩
theorem Mo (w T p a zero z bytes)(d:P.underlying T=some (.slice a))(hi:(P.info? a).map (λi=>(i.zero,i.size,i.bytes))=some (some zero,z,bytes))(v n xs)(m:w.ownsRow 0 a z v n xs)(b o):
  (Builtin.append_ #[T,T] p #[v,.slice b 0 o]).run P w=.ok v w:=by
 have⟨s,e,f,h,j⟩:=EZ hi;have⟨_,k⟩:=m;rcases k with⟨rfl,rfl⟩|⟨g,c,q,rfl,_,r,l,_⟩
 ·cases b<;>simp[Builtin.append_,CV d,sizeOf,typeInfo,e,f,h,j,Builtin.lenOf,Builtin.firstCells,loadCells,loadCellsFrom]
 ·cases b<;>simp[Builtin.append_,CV d,sizeOf,typeInfo,e,f,h,j,Builtin.lenOf,Builtin.firstCells,loadCells,loadCellsFrom,l,storeCells]
theorem Wh {ops e o a Q}(w)(k:o.guard=none)(f x T b zero z bytes)(l:o.op=.call {callee:=.builtin .append,args:=#[f,x],argTypes:=#[T,T]})(j:P.underlying T=some (.slice b))(hi:(P.info? b).map (λi=>(i.zero,i.size,i.bytes))=some (some zero,z,bytes))(v n xs)(p:a.eval f=v)(q:w.ownsRow 0 b z v n xs)(c d)(r:a.eval x=.slice c 0 d)(h:wpList P ops Q e (a.put o.dst v) w):
  wpList P ops Q (o :: e) a w:=by
 refine EN k λK g=>?_;unfold Oper.wp execOp;simp only[l,resolve,invoke,builtin,DY,DT,DF,DI,BD,CX,p,r,Mo (P:=P) w T o.type b zero z bytes j hi v n xs q c d];exact g _ _ h
theorem aD.val {a e j u}(h:aD w S a e)(d:e[j]?=some u):∃b c,a=some ⟨b,c,none⟩/\S b/\w.c b (c+j)=some u:=by
 rcases h with h|⟨b,c,f,g,i⟩
 ·subst h;simp at d
 ·exact⟨b,c,f,g,i j u d⟩
def lens{α:Type}(qs:List (Pc α)):Nat:=(qs.map (·.l.length)).sum
theorem qT{a}(qs:List (Pc a))(j)(h:j<qs.length):lens (qs.take (j+1))=lens (qs.take j)+qs[j].l.length:=by
 unfold lens;rw[AK h,BM,List.sum_append];simp only[BD,CX,List.sum_cons,List.sum_nil,DR]
theorem Bj{a}(qs:List (Pc a))(j):lens (qs.take j)<=lens qs:=by
 have:qs.map (·.l.length)=(qs.take j).map (·.l.length)++(qs.drop j).map (·.l.length):=by rw[<-BM,CB]
 unfold lens;rw[this,List.sum_append];exact JP _ _
theorem Gu(a b):aT (a++b)=aT a++aT b:=by simp[aT]
theorem nW(a):(aT a).length=a.length * 4:=by rw[sW];exact Eu a (Qg a)
theorem Ey(a):∀u∈aT a,u.oneCell'=true:=by
 intro u c;simp[aT,Ent.cells]at c;obtain⟨d,_,b|b|b|b⟩:=c<;>subst b<;>rfl
theorem nR(a):∀u∈aL a,u.oneCell'=true:=by
 intro u c;simp[aL,MN.cells]at c;obtain⟨d,_,b|b|b|b|b⟩:=c<;>subst b<;>rfl
theorem Qs(qs ga gc S w)(hR:aD w S ga (qs.map Pc.val))(hq:∀q∈qs,q.l.length<=q.c/\aD w S q.a (aT q.l))(hS:∀b,S b->b<w.heap.size)(hn:lens qs<=1000000)(hql:qs.length<=1000000)(hgc:qs.length<=gc):
  cL 220 #[.slice ga qs.length gc] w λe w'=>∃v,e=.returned v/\w'.ownsRow 0 69 4 v (lens qs) (aT (qs.flatMap (·.l)))/\bW w w'/\∀k,v.ownBlock=some k->w.heap.size<=k:=by
 have hG:=qAo (lens qs) w (by omega);go_enter Tryz.func220,Tryz.ntmps220;go_wp2;go_loopw [3,11] (λa b wr=>∃j:Nat,a=.i (lens (qs.take j))/\b=.i j/\j<=qs.length/\wr=w) (λ_ b _=>qs.length-(intOf b).toNat)
 case atStart=>exact⟨0,by simp[lens],rfl,AH _,rfl⟩
 case round =>
  obtain⟨j,rfl,rfl,hj,hwr⟩:=hrel;subst wr;by_cases hlt:j<qs.length
  ·obtain⟨Q,hQ⟩:=nM (qs[j])
   obtain⟨gb,go,hga,hgb,hcell⟩:=hR.val (j:=j) (u:=.slice Q.a Q.l.length Q.c) (by rw[BN,jQ hlt,hQ];rfl);subst hga;have hle1:=Bj qs (j+1);have htk:=qT qs j hlt;rw[hQ]at htk;obtain⟨n,hn'⟩:∃n,lens (qs.take j)=n:=⟨_,rfl⟩;rw[hn']at htk;obtain⟨m,hm'⟩:∃m,Q.l.length=m:=⟨_,rfl⟩;rw[hm']at htk hcell;have hnm:n+m<=1000000:=by omega
   have HTK:Hid (lens (qs.take (j+1))=n+m):=htk;simp only[hn'];clear htk hle1 hn' hm' hQ hG hR hq;have hnn:¬((n:Int)+(m:Int)<0):=by omega
   go_wp2;go_roundw
   case rel=>exact⟨j+1,by rw[HTK.out];congr 1,by go_num,by omega,by first|trivial|rfl⟩
   case measure=>simp[intOf];omega
  ·obtain rfl:j=qs.length:=by omega
   have HTL:Hid (qs.take qs.length=qs):=BG;simp only[BG];obtain⟨N,hN⟩:=nM (lens qs);have HN:Hid (lens qs=N):=hN;rw[hN]at hG hn;simp only[hN];clear hN;go_wp2_with (go_at_call 222;refine hG.mono ?_;clear hG;rintro e w1 ⟨v,rfl,ho1,hb1,hl1⟩);go_loopw [6,27] (λa b wr=>∃j:Nat,b=.i j/\j<=qs.length/\wr.ownsRow 0 69 4 a (lens (qs.take j)) (aT ((qs.take j).flatMap (·.l)))/\bW w wr/\∀k,a.ownBlock=some k->w.heap.size<=k) (λ_ b _=>qs.length-(intOf b).toNat)
   case atStart=>exact⟨0,rfl,AH _,by simpa[lens,aT] using ho1,hb1,hl1⟩
   case round =>
    obtain⟨j,rfl,hj2,ho,hb,hk⟩:=hrel;obtain⟨aa,ac,rfl⟩:=aF ho;by_cases hlt2:j<qs.length
    ·obtain⟨Q,hQ⟩:=nM (qs[j])
     have hQm:Q∈qs:=hQ▸AB hlt2;obtain⟨gb,go,hga,hgb,hcell⟩:=(hR.on (vV hb hS)).val (j:=j) (u:=.slice Q.a Q.l.length Q.c) (by rw[BN,jQ hlt2,hQ];rfl);subst hga;have hle1:=Bj qs (j+1);have htk:=qT qs j hlt2;rw[hQ]at htk;have htk2:(qs.take (j+1)).flatMap (·.l)=(qs.take j).flatMap (·.l)++Q.l:=by rw[AK hlt2,hQ];simp
     obtain⟨n,hn'⟩:∃n,lens (qs.take j)=n:=⟨_,rfl⟩;rw[hn']at htk ho;simp only[hn']at hk;have hle2:n+Q.l.length<=1000000:=by have:=HN.out;omega
     have HTK:Hid (lens (qs.take (j+1))=n+Q.l.length):=htk;have HTK2:Hid (aT ((qs.take (j+1)).flatMap (·.l))=aT ((qs.take j).flatMap (·.l))++aT Q.l):=by show _=_;rw[htk2,Gu]
     simp only[hn'];have hQr:=(hq Q hQm).2.on (vV hb hS);clear htk htk2 hle1 hn' hQ;obtain⟨Qa,Qc,Ql⟩:=Q;simp only at hcell hle2 hQr HTK HTK2;by_cases hl0:0<Ql.length
     ·obtain⟨rb,ro,rfl,hrb⟩:=hQr.addr (yG hl0)
      have hnews:∀i u,(aT Ql)[i]?=some u->wr.cell? ((⟨rb,ro,none⟩:Addr).add i)=some u:=by
       intro i u hu;obtain⟨b,off,hbo,_,hc⟩:=hQr.val hu;simp only[AX,CA,DA]at hbo;obtain⟨rfl,rfl⟩:=hbo;have e:(⟨rb,ro,none⟩:Addr).add i=⟨rb,ro+i,none⟩:=by unfold Addr.add;split<;>simp_all
       rw[e];exact hc
      go_wp2_with (at_builtin;refine wZ wr rfl (.tmp 31) (.tmp 32) 67 69 _ 4 48 rfl Tryz.underlying67 Ei rfl (by decide) (.slice aa n ac) n (aT ((qs.take j).flatMap (·.l))) rfl ho ⟨rb,ro,none⟩ Ql.length Qc (aT Ql) rfl (nW Ql) hnews (Ey Ql) (by omega) (by omega) ?_;intro v3 w3 A3;obtain⟨g3,k3,rfl⟩:=A3.shape hl0);go_roundw
      case rel =>
       refine⟨j+1,by go_num,by omega,by rw[HTK.out,HTK2.out];exact A3.row,hb.trans (A3.fr.below hb.size hk),?_⟩;intro k h;rcases A3.lies k h with h|h
       ·exact hk k h
       ·exact vJ hb.size h
      case measure=>simp[intOf];omega
     ·obtain rfl:=AG (by omega:Ql.length=0)
      simp only[jN]at hcell;go_wp2_with (at_builtin;refine Wh wr rfl (.tmp 31) (.tmp 32) 67 69 _ 4 48 rfl Tryz.underlying67 Ei (.slice aa n ac) n (aT ((qs.take j).flatMap (·.l))) rfl ho Qa Qc rfl ?_);go_roundw
      case rel=>exact⟨j+1,by go_num,by omega,by rw[HTK.out,HTK2.out];simpa[aT] using ho,hb,hk⟩
      case measure=>simp[intOf];omega
    ·obtain rfl:j=qs.length:=by omega
     simp only[BG]at ho hk⊢;go_wp2;go_ret;exact⟨_,rfl,ho,hb,hk⟩
theorem qAn(m:Nat)(w)(g:m<=4000000):
  cL 223 #[.n,.i m] w λe w'=>∃v,e=.returned v/\w'.ownsRow 0 242 5 v 0 []/\bW w w'/\∀k,v.ownBlock=some k->w.heap.size<=k:=by
 go_enter Tryz.func223,Tryz.ntmps223;by_cases hm:0<m
 ·have f:(0:Int)<(m:Int):=by omega
  go_wp2_with (at_builtin;apply Vz w rfl (.tmp 20) (.tmp 21) 239 3 242 _ 5 88 rfl Tryz.underlying239 Tryz.underlying3 iF rfl (by decide) m rfl rfl hm (by omega) (by omega);intro c h d b a);go_ret;exact⟨_,rfl,b,a.below0,by simp[Value.ownBlock]⟩
 ·obtain rfl:m=0:=by omega
  go_wp2;go_ret;exact⟨_,rfl,AL _ _ _ _,AC _ _,by simp[Value.ownBlock]⟩
theorem Qr(qs ga gc S w)(hR:aD w S ga (qs.map Pc.val))(hq:∀q∈qs,q.l.length<=q.c/\aD w S q.a (aL q.l))(hS:∀b,S b->b<w.heap.size)(hn:lens qs<=1000000)(hql:qs.length<=1000000)(hgc:qs.length<=gc):
  cL 221 #[.slice ga qs.length gc] w λe w'=>∃v,e=.returned v/\w'.ownsRow 0 242 5 v (lens qs) (aL (qs.flatMap (·.l)))/\bW w w'/\∀k,v.ownBlock=some k->w.heap.size<=k:=by
 have hG:=qAn (lens qs) w (by omega);go_enter Tryz.func221,Tryz.ntmps221;go_wp2;go_loopw [3,11] (λa b wr=>∃j:Nat,a=.i (lens (qs.take j))/\b=.i j/\j<=qs.length/\wr=w) (λ_ b _=>qs.length-(intOf b).toNat)
 case atStart=>exact⟨0,by simp[lens],rfl,AH _,rfl⟩
 case round =>
  obtain⟨j,rfl,rfl,hj,hwr⟩:=hrel;subst wr;by_cases hlt:j<qs.length
  ·obtain⟨Q,hQ⟩:=nM (qs[j])
   obtain⟨gb,go,hga,hgb,hcell⟩:=hR.val (j:=j) (u:=.slice Q.a Q.l.length Q.c) (by rw[BN,jQ hlt,hQ];rfl);subst hga;have hle1:=Bj qs (j+1);have htk:=qT qs j hlt;rw[hQ]at htk;obtain⟨n,hn'⟩:∃n,lens (qs.take j)=n:=⟨_,rfl⟩;rw[hn']at htk;obtain⟨m,hm'⟩:∃m,Q.l.length=m:=⟨_,rfl⟩;rw[hm']at htk hcell;have hnm:n+m<=1000000:=by omega
   have HTK:Hid (lens (qs.take (j+1))=n+m):=htk;simp only[hn'];clear htk hle1 hn' hm' hQ hG hR hq;have hnn:¬((n:Int)+(m:Int)<0):=by omega
   go_wp2;go_roundw
   case rel=>exact⟨j+1,by rw[HTK.out];congr 1,by go_num,by omega,by first|trivial|rfl⟩
   case measure=>simp[intOf];omega
  ·obtain rfl:j=qs.length:=by omega
   have HTL:Hid (qs.take qs.length=qs):=BG;simp only[BG];obtain⟨N,hN⟩:=nM (lens qs);have HN:Hid (lens qs=N):=hN;rw[hN]at hG hn;simp only[hN];clear hN;go_wp2_with (go_at_call 223;refine hG.mono ?_;clear hG;rintro e w1 ⟨v,rfl,ho1,hb1,hl1⟩);go_loopw [6,27] (λa b wr=>∃j:Nat,b=.i j/\j<=qs.length/\wr.ownsRow 0 242 5 a (lens (qs.take j)) (aL ((qs.take j).flatMap (·.l)))/\bW w wr/\∀k,a.ownBlock=some k->w.heap.size<=k) (λ_ b _=>qs.length-(intOf b).toNat)
   case atStart=>exact⟨0,rfl,AH _,by simpa[lens,aL] using ho1,hb1,hl1⟩
   case round =>
    obtain⟨j,rfl,hj2,ho,hb,hk⟩:=hrel;obtain⟨aa,ac,rfl⟩:=aF ho;by_cases hlt2:j<qs.length
    ·obtain⟨Q,hQ⟩:=nM (qs[j])
     have hQm:Q∈qs:=hQ▸AB hlt2;obtain⟨gb,go,hga,hgb,hcell⟩:=(hR.on (vV hb hS)).val (j:=j) (u:=.slice Q.a Q.l.length Q.c) (by rw[BN,jQ hlt2,hQ];rfl);subst hga;have hle1:=Bj qs (j+1);have htk:=qT qs j hlt2;rw[hQ]at htk;have htk2:(qs.take (j+1)).flatMap (·.l)=(qs.take j).flatMap (·.l)++Q.l:=by rw[AK hlt2,hQ];simp
     obtain⟨n,hn'⟩:∃n,lens (qs.take j)=n:=⟨_,rfl⟩;rw[hn']at htk ho;simp only[hn']at hk;have hle2:n+Q.l.length<=1000000:=by have:=HN.out;omega
     have HTK:Hid (lens (qs.take (j+1))=n+Q.l.length):=htk;have HTK2:Hid (aL ((qs.take (j+1)).flatMap (·.l))=aL ((qs.take j).flatMap (·.l))++aL Q.l):=by show _=_;rw[htk2,gS]
     simp only[hn'];have hQr:=(hq Q hQm).2.on (vV hb hS);clear htk htk2 hle1 hn' hQ;obtain⟨Qa,Qc,Ql⟩:=Q;simp only at hcell hle2 hQr HTK HTK2;by_cases hl0:0<Ql.length
     ·obtain⟨rb,ro,rfl,hrb⟩:=hQr.addr (xV hl0)
      have hnews:∀i u,(aL Ql)[i]?=some u->wr.cell? ((⟨rb,ro,none⟩:Addr).add i)=some u:=by
       intro i u hu;obtain⟨b,off,hbo,_,hc⟩:=hQr.val hu;simp only[AX,CA,DA]at hbo;obtain⟨rfl,rfl⟩:=hbo;have e:(⟨rb,ro,none⟩:Addr).add i=⟨rb,ro+i,none⟩:=by unfold Addr.add;split<;>simp_all
       rw[e];exact hc
      go_wp2_with (at_builtin;refine wZ wr rfl (.tmp 31) (.tmp 32) 239 242 _ 5 88 rfl Tryz.underlying239 iF rfl (by decide) (.slice aa n ac) n (aL ((qs.take j).flatMap (·.l))) rfl ho ⟨rb,ro,none⟩ Ql.length Qc (aL Ql) rfl (iD Ql) hnews (nR Ql) (by omega) (by omega) ?_;intro v3 w3 A3;obtain⟨g3,k3,rfl⟩:=A3.shape hl0);go_roundw
      case rel =>
       refine⟨j+1,by go_num,by omega,by rw[HTK.out,HTK2.out];exact A3.row,hb.trans (A3.fr.below hb.size hk),?_⟩;intro k h;rcases A3.lies k h with h|h
       ·exact hk k h
       ·exact vJ hb.size h
      case measure=>simp[intOf];omega
     ·obtain rfl:=AG (by omega:Ql.length=0)
      simp only[jN]at hcell;go_wp2_with (at_builtin;refine Wh wr rfl (.tmp 31) (.tmp 32) 239 242 _ 5 88 rfl Tryz.underlying239 iF (.slice aa n ac) n (aL ((qs.take j).flatMap (·.l))) rfl ho Qa Qc rfl ?_);go_roundw
      case rel=>exact⟨j+1,by go_num,by omega,by rw[HTK.out,HTK2.out];simpa[aL] using ho,hb,hk⟩
      case measure=>simp[intOf];omega
    ·obtain rfl:j=qs.length:=by omega
     simp only[BG]at ho hk⊢;go_wp2;go_ret;exact⟨_,rfl,ho,hb,hk⟩
theorem cK {W a c}(b:Below B W a)(d:B<=W.heap.size)(e:bW a c):Below B W c:=b.trans (e.mono (vJ d b.size))
theorem mJ(m:MN)(es ms S w)(M:m.en=es.length)(R:m.kn=ms.length)(N:es.length<=m.ec)(T:ms.length<=m.kc)(K:aD w S m.ea (aT es))(J:aD w S m.ka (aL ms))(r:∀b,S b->b<w.heap.size)(Z:es.length<=1000000)(a0:ms.length<=1000000)(O:∀x∈es,x.fits)(P:∀x∈ms,x.fits):
  cL 215 #[m.val] w λe w'=>e=.returned (.bool (m.place==0&&decide (tot esz es+tot ksz ms<62)))/\bW w w':=by
 have⟨Y,Q,h,t,a5,u,v,a7,y⟩:=m;simp only at M R N T K J;subst M R;obtain⟨d,L,G,o,-⟩:=al1 w (.cells #[.string Y,.string Q,.i h,.slice t es.length u,.slice v ms.length y] 242);have⟨a8,a9,aa,ab,ac⟩:=cU o;have a2:tot esz es<=427000000:=by have:=oW esz es 427 (λx F=>qB (O x F));omega
 have a3:tot ksz ms<=27000000:=by have:=oW ksz ms 27 (λx F=>pW (P x F));omega
 have a6:∀b,S b->b<d.heap.size:=λb g=>jY (r b g) G.size;have l:∀W,bW w W->cL 212 #[.slice t es.length u,.func (.func 203) #[] #[]] W λe w'=>e=.returned (.i (tot esz es))/\bW W w':=λW s=>Cg t u es S W (K.on (vV s r)) (λb g=>jY (r b g) s.size) Z N O;have n:∀W,bW w W->cL 217 #[.slice v ms.length y,.func (.func 208) #[] #[]] W λe w'=>e=.returned (.i (tot ksz ms))/\bW W w':=λW s=>Cf v y ms S W (J.on (vV s r)) (λb g=>jY (r b g) s.size) a0 T P;have⟨i,V⟩:=nM (tot esz es);have⟨j,X⟩:=nM (tot ksz ms);simp only[V,X]at a2 a3 l n⊢;clear V X;have H:=l;have I:=n;clear l n;have q:∀W,Below (w.heap.size+1) d W->bW w W:=λW g=>G.trans (g.mono (DL _));have l:=λW g=>H W (q W g);have n:=λW g=>I W (q W g);clear H I;have f:w.heap.size+1<=d.heap.size:=(gL o);have a:Below (w.heap.size+1) d d:=AC _ _;go_enter Tryz.func215,Tryz.ntmps215;by_cases hp:h=0
 ·have a1:((h:Int)==0)=true:=by simp[hp]
  have U:(h==0)=true:=by simp[hp]
  clear hp;by_cases hlt:i+j<62
  ·have z:Hid (decide (IntKind.i64.wrap ((i:Int)+(j:Int))<62)=true):=by show _=_;rw[CO,JF];· omega
   have p:Hid ((h==0&&decide (i+j<62))=true):=by show _=_;simp[U,hlt]
   go_wp2;go_region_with (first|(go_at_call 212;apply(l _ (by first|exact a|exact a.drew|exact a.drew.drew)).mono;rintro e k ⟨rfl,c⟩;have a:Below (w.heap.size+1) d k:=(by first|exact cK a f c|exact cK a.drew f c|exact cK a.drew.drew f c);have⟨A,B,C,D,E⟩:=cU ((a.block w.heap.size (DD _)).trans o))|(go_at_call 217;apply(n _ (by first|exact a|exact a.drew|exact a.drew.drew)).mono;rintro e k ⟨rfl,c⟩;have a:Below (w.heap.size+1) d k:=(by first|exact cK a f c|exact cK a.drew f c|exact cK a.drew.drew f c);have⟨A,B,C,D,E⟩:=cU ((a.block w.heap.size (DD _)).trans o)))
   all_goals go_wp2
   all_goals go_ret
   all_goals exact⟨by rw[p.out];exact BZ (λb=>Ending.returned (Value.bool b)) z,q _ (by first|exact a|exact a.drew|exact a.drew.drew)⟩
  ·have z:Hid (decide (IntKind.i64.wrap ((i:Int)+(j:Int))<62)=false):=by show _=_;rw[CO,FD];· omega
   have p:Hid ((h==0&&decide (i+j<62))=false):=by show _=_;simp[U,hlt]
   go_wp2;go_region_with (first|(go_at_call 212;apply(l _ (by first|exact a|exact a.drew|exact a.drew.drew)).mono;rintro e k ⟨rfl,c⟩;have a:Below (w.heap.size+1) d k:=(by first|exact cK a f c|exact cK a.drew f c|exact cK a.drew.drew f c);have⟨A,B,C,D,E⟩:=cU ((a.block w.heap.size (DD _)).trans o))|(go_at_call 217;apply(n _ (by first|exact a|exact a.drew|exact a.drew.drew)).mono;rintro e k ⟨rfl,c⟩;have a:Below (w.heap.size+1) d k:=(by first|exact cK a f c|exact cK a.drew f c|exact cK a.drew.drew f c);have⟨A,B,C,D,E⟩:=cU ((a.block w.heap.size (DD _)).trans o)))
   all_goals go_wp2
   all_goals go_ret
   all_goals exact⟨by rw[p.out];exact BZ (λb=>Ending.returned (Value.bool b)) z,q _ (by first|exact a|exact a.drew|exact a.drew.drew)⟩
 ·have a1:((h:Int)==0)=false:=by simp[hp]
  have p:Hid ((h==0&&decide (i+j<62))=false):=by show _=_;simp[hp]
  go_wp2;go_region
  all_goals go_wp2
  all_goals go_ret
  all_goals exact⟨by rw[p.out];rfl,q _ (by first|exact a|exact a.drew|exact a.drew.drew)⟩
theorem Kk {z g n c}(h:w.ownsRow B e z (.q g n c) n xs)(o:m<=n):w.ownsRow B e z (.q g m c) m (xs.take (m * z)):=by
 obtain⟨d,f⟩:=h;have p:=FM z o;refine⟨by rw[AZ,d];omega,?_⟩;rcases f with⟨a,_⟩|⟨s,r,b,a,i,l,t,j,k,q⟩
 ·simp at a
 ·simp only[AP,AX,CA,DA,CT]at a
  obtain⟨rfl,rfl⟩:=a;refine .inr ⟨g,c,b,rfl,i,l,by omega,j,k,?_⟩;rw[<-q,List.take_take,GB p]
inductive Nd where
 |mk (s:Sp) (place:Nat) (es:List En) (kids:List Nd)
def Nd.sp:Nd->Sp|.mk s _ _ _=>s
def Nd.kids:Nd->List Nd|.mk _ _ _ ks=>ks
variable {ns:List Nd}
inductive fZ (w:World) (S:Bl):Nd->MN->Prop
 |mk (s:Sp) (place:Nat) (es:List En) (kids:List Nd) (m:MN) (ms:List MN) (h1:m.lo=s.lo) (h2:m.hi=s.hi) (h3:m.place=place) (h4:m.en=es.length) (h5:m.kn=kids.length) (h6:es.length<=m.ec) (h7:kids.length<=m.kc)
   (h8:aD w S m.ea (aT es)) (h9:aD w S m.ka (aL ms)) (h10:ms.length=kids.length) (h11:∀(i:Nat) (k:Nd) (x:MN),kids[i]?=some k->ms[i]?=some x->fZ w S k x):fZ w S (.mk s place es kids) m
theorem fZ.on {n m}(h:fZ w S n m)(a:On S w w'):fZ w' S n m:=by
 induction h with
 |mk s place es kids m ms h1 h2 h3 h4 h5 h6 h7 h8 h9 h10 h11 ih=>exact .mk s place es kids m ms h1 h2 h3 h4 h5 h6 h7 (h8.on a) (h9.on a) h10 ih
theorem fZ.mono {S S' n m}(h:fZ w S n m)(a:∀k,S k->S' k):fZ w S' n m:=by
 induction h with
 |mk s place es kids m ms h1 h2 h3 h4 h5 h6 h7 h8 h9 h10 h11 ih=>exact .mk s place es kids m ms h1 h2 h3 h4 h5 h6 h7 (h8.mono a) (h9.mono a) h10 ih
def bG(w:World)(S:Bl)(ns:List Nd)(ms:List MN):Prop:=ms.length=ns.length/\∀(i:Nat) (k:Nd) (x:MN),ns[i]?=some k->ms[i]?=some x->fZ w S k x
theorem bG.on {ms}(h:bG w S ns ms)(c:On S w w'):bG w' S ns ms:=⟨h.1,λd e f a b=>(h.2 d e f a b).on c⟩
theorem bG.mono {S S' ms}(h:bG w S ns ms)(c:∀k,S k->S' k):bG w S' ns ms:=⟨h.1,λd k e a b=>(h.2 d k e a b).mono c⟩
theorem bG.nil(w S):bG w S [] []:=⟨rfl,λb c d a _=>by simp at a⟩
theorem bG.append {ns ns' ms ms'}(h:bG w S ns ms)(c:bG w S ns' ms'):bG w S (ns++ns') (ms++ms'):=by
 refine⟨by rw[jK,jK,h.1,c.1],λd e f a b=>?_⟩;by_cases hi:d<ns.length
 ·rw[BT hi]at a
  rw[BT (by rw[h.1];exact hi)]at b;exact h.2 d e f a b
 ·rw[BJ (by omega)]at a
  rw[BJ (by rw[h.1];omega),h.1]at b;exact c.2 _ e f a b
theorem bG.take {ms}(h:bG w S ns ms)(n):bG w S (ns.take n) (ms.take n):=by
 refine⟨by rw[AZ,AZ,h.1],λc d e a b=>?_⟩;rw[DS]at a b;split at a
 ·rename_i hi
  rw[AW hi]at b;exact h.2 c d e a b
 ·simp at a
theorem bG.drop {ms}(h:bG w S ns ms)(n):bG w S (ns.drop n) (ms.drop n):=by
 refine⟨by rw[BH,BH,h.1],λe c d a b=>?_⟩;rw[GD]at a b;exact h.2 _ c d a b
theorem bG.one {n m}(h:fZ w S n m):bG w S [n] [m]:=⟨rfl,λc d e a b=>by
 grind⟩
def xZ(es:List En):Nd:=.mk ⟨iI es,⟨#[]⟩⟩ 0 es []
theorem qHl {q}(b:q.l.length<=q.c)(c:aD w S q.a (aT q.l)):fZ w S (xZ q.l) (lL q):=
 .mk _ 0 q.l [] (lL q) [] rfl rfl rfl rfl rfl b (AH _) c (.inl rfl) rfl (λd e f a _=>by simp at a)
theorem xY {qs:List (Pc En)}(h:∀q∈qs,q.l.length<=q.c/\aD w S q.a (aT q.l)):bG w S ((qs.map (·.l)).map xZ) (qs.map lL):=by
 refine⟨by simp,λc d e a b=>?_⟩;rw[FN,BN]at a;rw[BN]at b;cases hq:qs[c]? with
 |none=>grind
 |some q =>
  rw[hq]at a b;simp at a b;subst a b;have:=h q (BL hq);exact qHl this.1 this.2
def Ev(ns:List Nd):ByteArray:=match ns with|[]=>⟨#[]⟩|n :: _=>n.sp.lo
def Ft(ks:List Nd):Nd:=.mk ⟨Ev ks,⟨#[]⟩⟩ 0 [] ks
theorem fZ.lo {n m}(h:fZ w S n m):m.lo=n.sp.lo:=by cases h;assumption
theorem bG.first {ms}(h:bG w S ns ms):Bq ms=Ev ns:=by
 cases ns with
 |nil=>have:=AG (h.1.trans rfl);subst this;rfl
 |cons n ns =>
  cases ms with
  |nil=>have:=h.1;grind
  |cons m ms=>exact(h.2 0 n m rfl rfl).lo
theorem qIe {q ks}(b:q.l.length<=q.c)(c:aD w S q.a (aL q.l))(a:bG w S ks q.l):fZ w S (Ft ks) (lQ q):=
 .mk _ 0 [] ks (lQ q) q.l a.first rfl rfl rfl a.1 (AH _) (by rw[<-a.1];exact b) (.inl rfl) c a.1 a.2
def uW(n:Nd):Nat:=n.sp.lo.size+3
theorem Hz {ms}(h:bG w S ns ms):ns.map uW=ms.map ksz:=by
 apply EH;intro a;rw[BN,BN];cases hn:ns[a]? with
 |none =>
  have:ms[a]?=none:=by
   rw[LY]at hn⊢;rw[h.1];exact hn
  grind
 |some n =>
  have b:ms[a]?=some (ms[a]'(by rw[h.1];exact ((AD.1 hn).1))):=jQ _;rw[b];have:=(h.2 a n _ hn b).lo;simp[uW,ksz,this]
theorem Bc (a)(l:List b):tot a l=(l.map a).sum:=rfl
theorem Jy{b β}(f g a):∀(l:List b) (m:List β) (c:Nat),l.map f=m.map g->shN f a l c=shN g a m c
 |[],[],_,_=>rfl
 |[],_ :: _,_,h=>by simp at h
 |_ :: _,[],_,h=>by simp at h
 |x :: l,y :: m,c,h=>by
  simp only[BD,GC]at h;simp only[shN,h.1,Jy f g a l m _ h.2]
theorem Xa:∀(k:Nat) (ns:List Nd) (ms:List MN),bG w S ns ms->(kY uW k ns).length=(kY ksz k ms).length/\∀(i:Nat) (p:List Nd) (q:List MN),(kY uW k ns)[i]?=some p->(kY ksz k ms)[i]?=some q->bG w S p q
 |0,ns,ms,h=>⟨rfl,λi p q a _=>by simp[kY]at a⟩
 |k+1,ns,ms,h=>by
  have c:=Hz h;have e:tot uW ns=tot ksz ms:=by rw[Bc,Bc,c]
  have d:shN uW (tot ksz ms) ns 0=shN ksz (tot ksz ms) ms 0:=Jy _ _ _ _ _ _ c;simp only[kY,e,d,<-h.1];split
  ·grind
  ·have⟨f,g⟩:=Xa k _ _ (h.drop (shN ksz (tot ksz ms) ms 0))
   refine⟨by rw[jB,jB,f],λi p q a b=>?_⟩;cases i with
   |zero=>simp at a b;subst a b;exact h.take _
   |succ i=>grind
theorem qEe {ms}(h:bG w S ns ms):(dP uW ns).length=(dP ksz ms).length/\∀(i:Nat) (p:List Nd) (q:List MN),(dP uW ns)[i]?=some p->(dP ksz ms)[i]?=some q->bG w S p q:=by
 unfold dP;rw[h.1];exact Xa _ ns ms h
theorem Fo {w w':World}{ms}{qs:List (Pc MN)}(h:bG w' S ns ms)(d:qs.map (·.l)=dP ksz ms)(j:∀q∈qs,q.l.length<=q.c/\aD w' S q.a (aL q.l)):bG w' S ((dP uW ns).map Ft) (qs.map lQ):=by
 have⟨e,f⟩:=qEe h;have g:qs.length=(dP ksz ms).length:=by grind
 refine⟨by rw[AE,AE,e,g],λc k l a b=>?_⟩;rw[BN]at a b;cases hp:(dP uW ns)[c]? with
 |none=>grind
 |some p =>
  cases hx:qs[c]? with
  |none=>rw[hx]at b;simp at b
  |some q =>
   rw[hp]at a;rw[hx]at b;simp at a b;subst a b;have i:(dP ksz ms)[c]?=some q.l:=by rw[<-d,BN,hx];rfl
   have:=j q (BL hx);exact qIe this.1 this.2 (f c p q.l hp i)
theorem dI {z g n c:Nat}(h:w.ownsRow B e z (.q g n c) n xs)(k)(s:k<xs.length)(u):(w.setCell ⟨g,k,none⟩ u).ownsRow B e z (.q g n c) n (xs.set k u):=by
 have⟨b,d⟩:=h;refine⟨by grind,?_⟩;rcases d with⟨a,_⟩|⟨r,p,q,a,f,l,m,i,j,o⟩
 ·simp at a
 ·simp only[AP,AX,CA,DA,CT]at a
  obtain⟨rfl,rfl⟩:=a;refine .inr ⟨g,c,_,rfl,f,aC l k u,m,i,by grind,?_⟩;rw[LU,List.take_set,o]
theorem vY {z g n c a b d f i}(h:w.ownsRow B e z (.q g n c) n (xs++[a,b,d,f,i]))(k)(r:xs.length=k)(m:MN):
  (((((w.setCell ⟨g,k,none⟩ (.string m.lo)).setCell ⟨g,k+1,none⟩ (.string m.hi)).setCell ⟨g,k+2,none⟩ (.i m.place)).setCell ⟨g,k+3,none⟩ (.slice m.ea m.en m.ec)).setCell ⟨g,k+4,none⟩ (.slice m.ka m.kn m.kc)).ownsRow B e z (.q g n c) n (xs++m.cells):=by
 subst r;have l:=dI (dI h xs.length (by simp) (.string m.lo)) (xs.length+1) (by simp) (.string m.hi);have p:=dI (dI l (xs.length+2) (by simp) (.i m.place)) (xs.length+3) (by simp) (.slice m.ea m.en m.ec);have q:=dI p (xs.length+4) (by simp) (.slice m.ka m.kn m.kc);simpa[List.set_append,MN.cells] using q
abbrev MN.obj(m:MN):Obj:=.cells #[.string m.lo,.string m.hi,.int .i64 m.place,.slice m.ea m.en m.ec,.slice m.ka m.kn m.kc] 242
abbrev Kn:Obj:=.cells #[.string ⟨#[]⟩,.string ⟨#[]⟩,.int .i64 0,.slice none 0 0,.slice none 0 0] 242
theorem Dw(β root h j i)(m:MN)(L:((m.place:Int)==0)=true)(w):
  cL 219 #[.agg (tA β root h j i),.agg #[.string m.lo,.string m.hi,.i m.place,.slice m.ea m.en m.ec,.slice m.ka m.kn m.kc]] w λe w'=>e=.returned (.agg #[.string m.lo,.string m.hi,.i m.place,.slice m.ea m.en m.ec,.slice m.ka m.kn m.kc])/\bW w w':=by
 have⟨b,k⟩:=nM (w.alloc (.cells (tA β root h j i) 90));have⟨c,f⟩:=nM (b.alloc m.obj);have⟨a,g⟩:=nM (c.alloc Kn);have l:b.heap.size=w.heap.size+1:=by rw[<-k];simp
 have z:c.heap.size=w.heap.size+1+1:=by rw[<-f];simp[l]
 have y:a.heap[w.heap.size+1]?=some m.obj:=by rw[<-l];exact g▸aI _ (f▸aA b _)
 have d:a.heap[w.heap.size+1+1]?=some Kn:=by rw[<-z];exact g▸aA c _
 have⟨A,B,C,D,E⟩:=cU y;obtain⟨F,G,H,I,J⟩:=cU d;have K:=aB d;have u:=aC (aC (aC (aC (aC d 0 (.string m.lo)) 1 (.string m.hi)) 2 (.i m.place)) 3 (.slice m.ea m.en m.ec)) 4 (.slice m.ka m.kn m.kc);obtain⟨o,q,r,s,t⟩:=cU (w:=(((((a.setCell ⟨w.heap.size+1+1,0,none⟩ (.string m.lo)).setCell ⟨w.heap.size+1+1,1,none⟩ (.string m.hi)).setCell ⟨w.heap.size+1+1,2,none⟩ (.i m.place)).setCell ⟨w.heap.size+1+1,3,none⟩ (.slice m.ea m.en m.ec)).setCell ⟨w.heap.size+1+1,4,none⟩ (.slice m.ka m.kn m.kc))) (by simpa using u);have n:Hid (bW w (((((a.setCell ⟨w.heap.size+1+1,0,none⟩ (.string m.lo)).setCell ⟨w.heap.size+1+1,1,none⟩ (.string m.hi)).setCell ⟨w.heap.size+1+1,2,none⟩ (.i m.place)).setCell ⟨w.heap.size+1+1,3,none⟩ (.slice m.ea m.en m.ec)).setCell ⟨w.heap.size+1+1,4,none⟩ (.slice m.ka m.kn m.kc))):=by
  have x:bW w a:=by rw[<-g,<-f,<-k];exact((bA _ _).alloc (by simp) _).alloc (by simp;omega) _
  exact((((x.setCell (p:=⟨w.heap.size+1+1,0,none⟩) (by simp;omega) _).setCell (p:=⟨w.heap.size+1+1,1,none⟩) (by simp;omega) _).setCell (p:=⟨w.heap.size+1+1,2,none⟩) (by simp;omega) _).setCell (p:=⟨w.heap.size+1+1,3,none⟩) (by simp;omega) _).setCell (p:=⟨w.heap.size+1+1,4,none⟩) (by simp;omega) _
 go_enter Tryz.func219,Tryz.ntmps219;go_wp2;refine BI (v:=.agg #[.string m.lo,.string m.hi,.i m.place,.slice m.ea m.en m.ec,.slice m.ka m.kn m.kc]) ?_ rfl ⟨rfl,n⟩;simp[results,Tryz.results219,go_sem,o,q,r,s,t]
open Go.Shelf
attribute [local go_sem] CM
theorem mF.cell{w w' B b o u}(f:mF B w w')(h:w.cell? ⟨b,o,none⟩=some u):w'.cell? ⟨b,o,none⟩=some u:=by
 have:∃c d e,w.heap[b]?=some (.cells c d e):=by
  cases a:w.heap[b]? with
  |none=>simp[World.cell?,a]at h
  |some x =>
   cases x with
   |cells c d e=>exact⟨c,d,e,rfl⟩
   |_=>simp[World.cell?,a]at h
 have⟨c,d,e,a⟩:=this;rw[CF (w:=w) ((f.cells _ _ _ _ a).trans a.symm)];exact h
theorem aD.took{w w' S a c B}(h:aD w S a c)(g:mF B w w'):aD w' S a c:=by
 rcases h with h|⟨b,k,d,f,e⟩
 ·exact .inl h
 ·exact .inr ⟨b,k,d,f,λj l i=>g.cell (e j l i)⟩
theorem Ag{g:Pg}{es}(h:g.ents=es.map (·.e)):g.ents.flatMap Ent.cells=aT es:=by rw[aT,h]
theorem Tt(β sv lv fs)(b9:(fs.life==0)=false)(root t v u)(m:MN)(ce:((m.place:Int)==0)=false)(es w)(be:aU fs 0 (.leaf m.place es) ⟨m.lo,m.hi⟩)(ab:aH w β sv lv fs):
  cL 219 #[.agg (tA β root t v u),.agg #[.string m.lo,.string m.hi,.i m.place,.slice m.ea m.en m.ec,.slice m.ka m.kn m.kc]] w λe w' =>
   ∃f h,e=.returned (.agg #[.string m.lo,.string m.hi,.i 0,.slice f es.length h,.n])/\aD w' (New w w') f (aT es)/\es.length<=h/\bW w w':=by
 obtain⟨g,Y,F,B,bc,b8,cd⟩:=be;obtain⟨c,y,T,bx,aj,ai,d8⟩:=al3 w (.cells (tA β root t v u) 90) m.obj Kn; obtain⟨d4,d5,d6⟩:=eQ bx;obtain⟨cu,cv,cw,cx,cy⟩:=cU aj;have b7:aH c β sv lv fs:=ab.on (vV T ab.lies);obtain⟨am,bv,bw⟩:=gB Y;have b5:0<g.ents.length:=by rw[B,AE];exact BR.2 bc
 have aa:g.ents.length=es.length:=by rw[B,AE]
 have ac:∀e∈g.ents,(⟨m.lo,m.hi⟩:Sp).has e.key=true:=λe a9=>by rw[B,AY]at a9;obtain⟨x,H,rfl⟩:=a9;exact b8 x H
 have a7:=tM β sv lv fs root t v u m.place ⟨m.lo,m.hi⟩ g c b7 b9 Y (by simp[F]) (by simp[F]) b5 (ac _ (AB _)) (ac _ (AB _)) am bw;obtain⟨bn,ae⟩:=rZ Y F;have av:Hid (g.kids=[]):=ae;have ar:Hid (g.ents=es.map (·.e)):=B;have a4:Hid (g.ents.length=es.length):=aa;clear F B bn ae aa;refine(BK (n:=0)).1 (CN Tryz.func219 rfl trivial ?_ rfl);simp only[Tryz.ntmps219,jA,jB,jN,Nat.reduceAdd,Nat.reduceSub,jR,jO,jP,jT,jE,jF];gi_wp2_with (first
  |(refine⟨trivial,rfl,?_⟩;gi_at_call 144;refine(BK.2 a7).mono ?_;clear a7;rintro e i ⟨d7,rfl,⟨L,J,f,M,K,h,rfl,ag,ah,a1,O⟩,a8⟩;obtain⟨d,X,-,a2,-⟩:=al1 i (pgO g L J f M K h);obtain⟨cg,ch,ci,cj,ck,cl,cm,cn⟩:=bM a2;have a5:Fr Bl.none c d:=(AA a8).trans (X▸(AF _ i).alloc _);have ak:=a5.heap aj (λa=>a);obtain⟨cz,d0,d1,d2,d3⟩:=cU ak;have al:=aI (.cells #[.string m.lo,.string m.hi,.i 0,.slice f g.ents.length h,.n] 242) ak;obtain⟨bq,br,bs,bt,bu⟩:=cU al;have an:=aI (.cells #[.string m.lo,.string m.hi,.i 0,.slice f g.ents.length h,.n] 242) a2;obtain⟨bf,bg,bh,bi,bj,bk,bl,bm⟩:=bM an;have a6:=mZ g ⟨m.lo,m.hi⟩ L J f M K h (d.alloc (.cells #[.string m.lo,.string m.hi,.i 0,.slice f g.ents.length h,.n] 242)))
  |(refine⟨trivial,rfl,?_⟩;gi_at_call 145;refine(BK.2 a6).mono ?_;clear a6;rintro e r ⟨rfl,a3,R,E⟩))
 clear bq br bs bt bu bf bg bh bi bj bk bl bm;obtain⟨o,z,-,ao,c2⟩:=al1 d (.cells #[.string m.lo,.string m.hi,.i 0,.slice f g.ents.length h,.n] 242);rw[z]at a3 R E al an;have b1:Fr Bl.none c o:=a5.trans (z▸(AF _ d).alloc _)
 rw[c2]at a3 R;have V:Fr Bl.none c r:=b1.trans (AA E);have da:i.heap.size<d.heap.size:=(gL a2);have c1:d.heap.size<o.heap.size:=(gL ao);have d9:=a8.size;have db:d.heap.size+1+1<r.heap.size:=(gL R);have N:On (New c i) i r:=((X▸(CJ _ i).alloc (λj b=>b.2) _:On (New c i) i d).trans (z▸(CJ _ d).alloc (λj b=>by have:=b.2;omega) _:On (New c i) d o)).trans (vV E (λj b=>by have:=b.2;omega));let Rd:Bl:=λj=>j=d.heap.size+1\/j=d.heap.size+1+1\/New c i j;have bd:=mY (d.heap.size+1+1) (d.heap.size+1) ⟨m.lo,m.hi⟩ g.kind g.ver g.root g.next L J f M K g.ents.length h g.data g.keys g.kids Rd r R a3 ((ag.on N).mono (λj b=>.inr (.inr b))) ((ah.on N).mono (λj b=>.inr (.inr b))) (.inr (.inl rfl)) (.inl rfl) am bv O.1 O.2.1;have ad:parts ⟨m.lo,m.hi⟩ g.keys g.kids=[]:=by rw[av.out];cases g.keys<;>rfl
 have aw:Hid (parts ⟨m.lo,m.hi⟩ g.keys g.kids=[]):=ad;clear ad;let I:List (Int×Sp)->Bl->World->Prop:=λa0 U W=>True/\U=Bl.none;refine fF (P:=Tryz.prog) (Has:=rI) (Rd:=Rd) rfl (enters_of Tryz.func167 (by kernel_rfl) rfl) bd (λx az S W b4=>by rw[b4];rfl) I (λ_ _ _ _=>False) ?_ (λ_ _ _ _ _ a=>a.elim) ?_ (λ_ _ _ _ a=>a.elim) Bl.none ⟨trivial,rfl⟩ ?_ ?_ ?_ (λ_ _ _ _ _ _ _ _ _ a=>a.elim)
 ·rintro a0 U W c3 ⟨_,rfl⟩ cc
  exact⟨trivial,rfl⟩
 ·rintro a0 U W ⟨_,rfl⟩ j b
  exact b.elim
 ·rintro j (rfl|rfl|b)
  ·exact⟨λa=>a,by omega⟩
  ·exact⟨λa=>a,by omega⟩
  ·exact⟨λa=>a,by have:=b.2;omega⟩
 ·intro l a0 x ct az S ay W H
  rw[aw.out]at H;simp at H
 ·rintro D ay W b2 cb ⟨_,rfl⟩ s ca b3;have c0:=s.heap ((E.block _ c1).trans ao) (λa=>a);have Q:=s.heap (V.heap ai (λa=>a)) (λa=>a);obtain⟨co,cp,cq,cr,cs⟩:=cU c0;obtain⟨c4,c5,c6,c7,c8⟩:=cU Q;have c9:=aB Q;have ba:Marks w.heap.size [mk D] W:=(FJ w.heap.size r).cons (λD' _ a=>s.heap a (λe=>e)) (by have:=T.size;omega) b3 b2;have ap:Fr Bl.none w W:=(AA T).trans (V.trans s);have dc:r.heap.size<=W.heap.size:=s.size;have dd:c.heap.size<=r.heap.size:=V.size;have bp:aD W (New c i) f (g.ents.flatMap Ent.cells):=(a1.on N).on (s.on (λj b=>⟨by have:=b.2;omega,λa=>a⟩));have b6:=O.2.2;have bo:Hid (aD i (New c i) f (g.ents.flatMap Ent.cells)):=a1;have au:Hid (es.length<=h):=by have:=a4.out;show _<=_;omega
  have b0:=aC (aC (aC (aC (aC Q 0 (.string m.lo)) 1 (.string m.hi)) 2 (.i 0)) 3 (.slice f g.ents.length h)) 4 .n;clear ag ah a1 bp b6 O;gi_wp2;obtain⟨k,A⟩:=nM (((((W.setCell ⟨w.heap.size+1+1,0,none⟩ (.string m.lo)).setCell ⟨w.heap.size+1+1,1,none⟩ (.string m.hi)).setCell ⟨w.heap.size+1+1,2,none⟩ (.i 0)).setCell ⟨w.heap.size+1+1,3,none⟩ (.slice f g.ents.length h)).setCell ⟨w.heap.size+1+1,4,none⟩ .n);have C:Fr (Bl.one (w.heap.size+1+1)) W k:=by
   rw[<-A];exact((((((AF (Bl.one (w.heap.size+1+1)) W).setCell (p:=⟨w.heap.size+1+1,0,none⟩) (.inl rfl) _).setCell (p:=⟨w.heap.size+1+1,1,none⟩) (.inl rfl) _).setCell (p:=⟨w.heap.size+1+1,2,none⟩) (.inl rfl) _).setCell (p:=⟨w.heap.size+1+1,3,none⟩) (.inl rfl) _).setCell (p:=⟨w.heap.size+1+1,4,none⟩) (.inl rfl) _)
  have bz:k.heap[w.heap.size+1+1]?=some (.cells #[.string m.lo,.string m.hi,.i 0,.slice f g.ents.length h,.n] 242):=by rw[<-A];simpa using b0
  have bb:Marks w.heap.size [mk D] k:=ba.on (λD' _ a=>C.heap a (λe=>by simp only[Bl.one]at e;subst e;rw[Q]at a;simp at a));have aq:Fr Bl.none w k:=ap.grow C (λj b=>.inr (by simp only[Bl.one]at b;omega));have de:w.heap.size+1+1<c.heap.size:=(gL ai);have ax:aD k (New w k) f (aT es):=by
   have q:=(bo.out.on N).on (s.on (λj b=>⟨by have:=b.2;omega,λa=>a⟩));have af:=q.on (C.on (Z:=New c i) (λj b=>⟨by have:=b.2;omega,λe=>by simp only[Bl.one]at e;have:=b.1;omega⟩));rw[Ag ar.out]at af;exact af.mono (λj b=>⟨by have:=b.1;omega,by have:=b.2;have:=C.size;omega⟩)
  refine qIo (p:=4) rfl (w.heap.size+1+1) _ _ _ rfl (A▸bz) Tryz.underlying242 rfl (by kernel_rfl) (A▸bb) ?_;intro w' G;rw[A]at G;refine⟨f,h,by rw[<-a4.out],?_,au.out,(aq.took G (jU _)).below0⟩;have cf:=G.size;exact aD.took (ax.mono (λj b=>⟨b.1,by have:=b.2;omega⟩)) G
variable {K:List ByteArray} {cs:List Ch} {fs:Fs} {n:Nat} {o:Option (Nat×T)}
def cW(cs:List Ch)(c:Ch):List Ch:=if fnd cs c.key=true then cs.set (cZ cs c.key) c else cs.take (cZ cs c.key)++c :: cs.drop (cZ cs c.key)
theorem uZ {k}(h:fnd cs k=true)(f:cJ cs):∃a:cZ cs k<cs.length,(cs[cZ cs k]).key=k:=by
 unfold fnd at h;split at h
 ·rename_i c hc
  have⟨a,d⟩:=AD.1 hc;refine⟨a,?_⟩;have e:lt k c.key=false:=by grind
  have b:=qL f (jU _) a;rw[d]at b⊢;exact kU b e
 ·simp at h
theorem Ca (b:cJ cs)(c):cW cs c=cs.take (cZ cs c.key)++c :: cs.drop (cZ cs c.key+if fnd cs c.key=true then 1 else 0):=by
 unfold cW;by_cases h:fnd cs c.key=true
 ·rw[AW h,AW h]
  have⟨a,_⟩:=uZ h b;rw[KS,AW a]
 grind
theorem Ld (d:cJ cs)(k):∀c∈cs.drop (cZ cs k+if fnd cs k=true then 1 else 0),lt k c.key=true:=by
 intro c b;by_cases h:fnd cs k=true
 ·rw[AW h]at b
  have⟨l,j⟩:=uZ h d;have⟨g,f,a⟩:=AU b;rw[GG]at a;rw[BH]at f;have:=(BB.1 d) (cZ cs k) (cZ cs k+1+g) l (by omega) (by omega);grind
 ·rw[AQ h]at b
  have⟨g,f,a⟩:=AU b;rw[GG]at a;rw[BH]at f;have i:lt (cs[cZ cs k+0+g]'(by omega)).key k=false:=qL d (by omega) (by omega);rw[a]at i;rcases Nw c.key k with e|e
  ·exfalso
   exact h ((Bo d k).2 ⟨c,BO b,Nx e (Di.1 i)⟩)
  ·exact e
theorem mQ (d:cJ cs)(c):cJ (cW cs c):=by
 rw[Ca d];refine CI.2 ⟨d.sublist (FK _ _),BC.2 ⟨Ld d c.key,d.sublist (EX _ _)⟩,?_⟩;intro a g b e;have f:=Bd g;rcases AR.1 e with rfl|e
 ·exact f
 ·exact eV f (Ld d c.key b e)
theorem gH (b:cJ cs)(c x):x∈cW cs c↔x=c\/(x∈cs/\x.key≠c.key):=by
 rw[Ca b];simp only[AO,AR];constructor
 ·rintro(a|a|a)
  ·exact .inr ⟨CZ a,Np (Bd a)⟩
  ·grind
  ·exact .inr ⟨BO a,(Np (Ld b c.key x a)).symm⟩
 ·rintro(a|⟨f,g⟩)
  ·grind
  ·rcases(xX (cZ cs c.key)).1 f with a|a
   ·grind
   ·refine .inr (.inr ?_)
    by_cases hf:fnd cs c.key=true
    ·rw[AW hf]
     have⟨e,d⟩:=uZ hf b;rw[CC e]at a;grind
    grind
theorem qBs (a:cJ cs)(c):(cW cs c).length<=cs.length+1/\0<(cW cs c).length:=by
 unfold cW;split
 ·rename_i h
  have⟨b,_⟩:=uZ h a;grind
 grind
theorem qBu {P:Ch->Prop}(d:cJ cs){c}(h:∀x∈cs,P x)(b:P c):∀x∈cW cs c,P x:=λx e=>by
 rcases(gH d c x).1 e with rfl|⟨a,_⟩
 ·exact b
 grind
def valOf(es:List En)(k:ByteArray):Option (List UInt8):=(es.find? (λx=>decide (x.e.key=k))).map En.value
theorem iA{es}(j:cM es){k v}:valOf es k=some v↔∃x∈es,x.e.key=k/\x.value=v:=by
 unfold valOf;constructor
 ·intro a
  rw[JW]at a;grind
 ·intro⟨x,l,c,o⟩
  cases hf:es.find? (λx=>decide (x.e.key=k)) with
  |none =>
   grind
  |some y =>
   have b:=List.find?_some hf;have g:y.e.key=k:=by grind
   have:y=x:=by
    obtain⟨d,h,rfl⟩:=AU l;obtain⟨e,i,rfl⟩:=AU (FU hf);rcases GH d e with a|a|a
    ·have:=BB.1 j d e h i a
     rw[c,g,cF]at this;cases this
    ·subst a;rfl
    ·have:=BB.1 j e d i h a
     rw[c,g,cF]at this;cases this
   rw[this,LN,o]
theorem qDr {es:List En}(d:cM es)(e:cJ cs)(k:ByteArray):valOf (bD es cs) k=match cs.find? (λc=>decide (c.key=k)) with
  |some c=>if c.gone=true then none else some c.val.data.toList
  |none=>valOf es k:=by
 have n:=mT d e;cases hf:cs.find? (λc=>decide (c.key=k)) with
 |some c =>
  have o:=FU hf;have m:c.key=k:=by grind
  have y:∀b∈cs,b.key=k->b=c:=by
   intro b x l;obtain⟨r,u,rfl⟩:=AU x;obtain⟨s,w,rfl⟩:=AU o;rcases GH r s with i|i|i
   ·have:=BB.1 e r s u w i
    rw[l,m,cF]at this;cases this
   ·subst i;rfl
   ·have:=BB.1 e s r w u i
    rw[l,m,cF]at this;cases this
  simp only;split
  ·rename_i hg
   cases hv:valOf (bD es cs) k with
   |none=>rfl
   |some v =>
    have⟨f,j,a,_⟩:=(iA n).1 hv;rcases(fT d e f).1 j with⟨b,g,h,rfl⟩|⟨g,h⟩
    ·have:=y b g a
     grind
    grind
  ·rename_i hg
   refine(iA n).2 ⟨chE c,(fT d e _).2 (.inl ⟨c,o,by grind,rfl⟩),m,?_⟩;rfl
 |none =>
  have t:∀c∈cs,c.key≠k:=λc p l=>by
   grind
  simp only;cases hv:valOf es k with
  |none =>
   cases hv2:valOf (bD es cs) k with
   |none=>rfl
   |some v =>
    have⟨f,j,a,q⟩:=(iA n).1 hv2;rcases(fT d e f).1 j with⟨b,g,h,rfl⟩|⟨g,h⟩
    ·exact absurd a (t b g)
    ·rw[(iA d).2 ⟨f,g,a,q⟩]at hv;cases hv
  |some v =>
   have⟨f,j,a,q⟩:=(iA d).1 hv;exact(iA n).2 ⟨f,(fT d e f).2 (.inr ⟨j,λc p=>by grind⟩),a,q⟩
theorem Hx{n p}:¬on (List.replicate n false) p:=by
 unfold on;rw[List.getElem?_replicate];split<;>simp
theorem uQ(n o):Au (List.replicate n false) o:=by
 cases o with
 |none=>trivial
 |some x=>exact λc b a=>absurd a Hx
theorem zB {r d o o' u}(h:bJ fs r o)(b:bJ fs d o')(c:fs.safe.length<=u.length)(a:Au u o):Au (marks u (eA o')) o:=by
 cases o' with
 |none=>exact a
 |some x' =>
  cases o with
  |none=>trivial
  |some x=>exact Shut.after h.2.2 b.2.2 c a
def cQ(os:List (Option (Nat×T))):List Bool:=marks (List.replicate 4096 false) (os.flatMap eA)
theorem tC(a):(cQ a).length=4096:=by unfold cQ;rw[gE,EQ]
theorem Cc(a o):cQ (a++[o])=marks (cQ a) (eA o):=by
 unfold cQ;rw[BU,kT,AJ,List.flatMap_nil,EV]
theorem Sg (e:fs.safe.length<=4096):∀(a:List (Option (Nat×T))),(∀o∈a,bJ fs (rootOf o) o)->∀o,bJ fs (rootOf o) o->Au (cQ a) o:=by
 intro a;induction a using Ck with
 |c=>intro _ o _;exact uQ 4096 o
 |d a x ih =>
  intro b o c;rw[Cc];exact zB c (b x (by simp)) (by rw[tC];exact e) (ih (λo' d=>b o' (by simp[d])) o c)
theorem Mb{c p}:on (cQ c) p↔p∈c.flatMap eA/\p<4096:=by
 unfold cQ;rw[Dh];constructor
 ·rintro(d|⟨a,b⟩)
  ·exact absurd d Hx
  grind
 grind
theorem Md (h:Tr K fs o):∀p∈eA o,p<fs.safe.length:=by
 cases o with
 |none=>simp[eA]
 |some x=>exact Nb h.rooted.2.2
theorem qDk {a}(j:fs.safe.length=n)(k:n<=4096)(g:∀o'∈a,Tr K fs o')(f:o∈a)(m:cJ cs)(h:∀c∈cs,c.good)(l:(aX o).length+cs.length<=1000000):
  rN K n fs o cs (dK n (cQ a))/\∀o'∈a,∀p∈eA o',p ∉ dK n (cQ a):=by
 have e:∀o'∈a,∀p∈eA o',p ∉ dK n (cQ a):=λo' d p b i=>by
  have q:=Md (g o' d) p b;exact(yE i).2.2 (Mb.2 ⟨AV.2 ⟨o',d,b⟩,by omega⟩)
 exact⟨⟨g o f,m,h,λp b=>⟨(yE b).1,(yE b).2.1⟩,k,j,Pl _ _,e o f,l⟩,e⟩
theorem qDt:∀(a:List (Option (Nat×T))),(∀o∈a,Tr K fs o)->(a.flatMap eA).length<=tot (λo=>2 * (aX o).length+ovs (aX o)) a
 |[],_=>by simp
 |o :: a,h=>by
  have c:=Ti (h o (by simp)).rooted;have d:=qDt a (λo' b=>h o' (by simp[b]));rw[AJ,jK,cG];omega
theorem Zf {a}(e:n<=4096)(h:∀o'∈a,Tr K fs o')(g:Tr K fs o)(i:cJ cs)(b:∀c∈cs,c.good)(f:(dK n (cQ a)).length<(bZ o cs (dK n (cQ a))).2.length):
  n<2+(2 * (bD (aX o) cs).length+ovs (bD (aX o) cs))+tot (λo=>2 * (aX o).length+ovs (aX o)) a:=by
 have j:=Ut (n:=n) (u:=cQ a) (ps:=a.flatMap eA) (by rw[tC];exact e) (λp d=>(Mb.1 d).1);have k:=qDt a h;have l:=Tz (El g.rooted i b) (dK n (cQ a));unfold bZ at f;omega
theorem Wn(K fs):Tr K fs none:=⟨rfl,trivial,trivial,.inl rfl⟩
theorem Hh(K n)(d:2<=n):lD K n ⟨List.replicate n (gY 256),[],-1,-1,0⟩ 0 none none:=by
 have a:∀p,p<n->(⟨List.replicate n (gY 256),[],-1,-1,0⟩:Fs).at p=gY 256:=λp b=>by
  simp[Fs.at,uD,List.getElem?_replicate,b]
 exact⟨rfl,by simp,.inl ⟨a _ (by omega),rfl,rfl⟩,⟨0,.inl ⟨a _ (by omega),rfl,rfl⟩,.inr ⟨rfl,rfl⟩⟩,Wn _ _,Wn _ _,λs c=>by rw[List.eq_of_mem_replicate c];exact yP 256⟩
