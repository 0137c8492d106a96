import Derived.Shelf.RegionOpenPlain
import Derived.Test.YtdhgdcjmhofhaaaGreatD25
set_option linter.all false
set_option maxRecDepth 100000
set_option maxHeartbeats 8000000
namespace Go.Proofs.YtdhgdcjmhofhaaaGreat.Tree
open Go.RowKit Pages
structure Hi (w:World) (b:Nat) (p v:Value) (l:List UInt8):Prop where
 box:w.heap[b]?=some (.cells #[p,v] 157)
 row:w.ownsRow 0 5 1 v l.length (Lib.byteCells l)
def fpB(b:Nat)(v:Value):Bl:=λk=>k=b\/v.ownBlock=some k
def Sx:∃j,Tryz.prog.info? 157=some j/\j.size=2:=by
 have:(Tryz.prog.info? 157).map (·.size)=some 2:=by kernel_rfl
 have⟨j,a,b⟩:=FM.1 this;exact⟨j,a,b⟩
def qIf:liesAt Tryz.prog Tryz.prog.depth 157 (2 / Tryz.prog.cellsOf 157) 0 157 1=true:=by kernel_rfl
def Xa(b w)(c:w.c b 0=some (.p b 0)):
  cL 140 #[.p b 0] w λe w'=>e=.r (.tuple #[])/\w'=w:=by
 have⟨f,a,d⟩:=Sx;go_enter Tryz.func140,Tryz.ntmps140;go_wp2;rw[Lib.run_neq_ptr_same w _ Tryz.underlying155 a];go_wp2;go_end0;exact⟨rfl,rfl⟩
def qDc(b w)(f:w.c b 0=some (.pointer none))(c:w.shape? b=some (157,2))(g:w.frozen? (aD b 0)=false):
  cL 140 #[.p b 0] w λe w'=>e=.r (.tuple #[])/\w'=w.setCell (aD b 0) (.p b 0):=by
 have⟨h,a,d⟩:=Sx;go_enter Tryz.func140,Tryz.ntmps140;go_wp2;rw[Lib.run_to_unsafe w (aD b 0) Tryz.underlying155 Tryz.underlying183 a (by rw[d];decide) c (Nat.zero_lt_succ 1)];simp only[Result.andThen];rw[MP];go_wp2;rw[run_callFunc_extern Tryz.func163 (by kernel_rfl) (by kernel_rfl) (by kernel_rfl) (e:=Extern.AbiNoEscape.same) (by kernel_rfl)];rw[Lib.run_noEscape];simp only[Result.andThen];rw[MP];go_wp2;rw[Lib.run_from_unsafe w (aD b 0) Tryz.underlying183 Tryz.underlying155 a c qIf];simp only[Result.andThen];rw[MP];go_wp2;go_end0;exact⟨rfl,rfl⟩
def qDd(b p v l w)(h:Hi w b p v l)(g:p=.pointer none\/p=.p b 0):
  cL 140 #[.p b 0] w λe w'=>e=.r (.tuple #[])/\Hi w' b (.p b 0) v l/\Fr (Bl.one b) w w':=by
 have c:w.c b 0=some p:=by simp[World.cell?,h.box]
 rcases g with rfl|rfl
 .apply(qDc b w c (by simp[World.shape?,h.box]) (aA h.box 0)).m
  rintro e w' ⟨rfl,rfl⟩;refine⟨rfl,⟨by simpa using aB h.box 0 (.p b 0),?_⟩,(AE (Bl.one b) w).s b 0⟩;exact aS h.row ((CN (λd=>v.ownBlock=some d) w).setCell (p:=(aD b 0)) (λa=>(aP h.row h.box (by decide)) a) _) (λd a=>a)
 .apply(Xa b w c).m
  rintro e w' ⟨rfl,rfl⟩;exact⟨rfl,h,AE _ _⟩
def qCf:∃i,Tryz.prog.info? 5=some i/\i.zero=some (.int .u8 0)/\i.size=1/\i.bytes=1:=by
 have:(Tryz.prog.info? 5).map (λi=>(i.zero,i.size,i.bytes))=some (some (.int .u8 0),1,1):=by kernel_rfl
 have⟨i,b,a⟩:=FM.1 this;simp only[LD]at a;exact⟨i,b,a.1,a.2.1,a.2.2⟩
def qIs(w c v n xs)(f:w.ownsRow 0 5 1 v n xs)(s)(y:n+s.size<=1000000):
  ∃v' w',(Builtin.append_ #[108,9] c #[v,.t s]).run Tryz.prog w=.ok v' w'/\fF 5 1 v n xs (Lib.strCells s) s.size w v' w':=by
 have⟨h,d,j,k,l⟩:=qCf;have⟨v',w',e,o,p,q⟩:=Lib.run_append_own_string (P:=Tryz.prog) w 0 108 9 c 5 h Tryz.underlying108 Tryz.underlying9 d j k l v n xs f s (by unfold maxLen;omega) (by omega) (AG _);refine⟨v',w',e,o,(AE _ w).grown p (λx b=>.inl b),λx b=>?_⟩;have u:xs.length=n:=by simpa using f.1
 rcases f.2 with⟨rfl,rfl⟩|⟨g,i,m,rfl,z,r,C,A,B,D⟩
 .by_cases hm:s.size=0
  .rw[q.2 ⟨rfl,hm⟩]at b
   simp[Value.ownBlock]at b
  .have a:=run_append_nil_string (P:=Tryz.prog) w 108 9 c 5 h (.int .u8 0) Tryz.underlying108 Tryz.underlying9 d j s (by omega) (by omega) (by rw[l];omega)
   rw[e]at a;simp only[KR]at a;rw[a.1]at b;simp[Value.ownBlock]at b;exact .inr (by omega)
 .by_cases hroom:n+s.size<=i
  .have a:=Lib.run_append_room_string (P:=Tryz.prog) w 108 9 c 5 h Tryz.underlying108 Tryz.underlying9 d k g n i m r s hroom (by omega)
   rw[e]at a;simp only[KR]at a;rw[a.1]at b;exact .inl (by simpa[Value.ownBlock] using b)
  .have a:=Lib.run_append_grow_string (P:=Tryz.prog) w 108 9 c 5 h (.int .u8 0) Tryz.underlying108 Tryz.underlying9 d j (aD g 0) n i xs (by rw[k];simpa using u) (DG (w:=w) f (g:=g) rfl) s (by omega) (by omega) (by rw[l];exact JO (by omega) (by omega));rw[e]at a;simp only[KR]at a;rw[a.1]at b;simp[Value.ownBlock]at b;exact .inr (by omega)
def qLc{ops b o a Q}(w)(g:o.guard=none)(c x)(i:o.op=.call {callee:=.builtin .append,args:=#[c,x],argTypes:=#[108,9]})(v n xs)(l:a.eval c=v)(j:w.ownsRow 0 5 1 v n xs)(s)(m:a.eval x=.t s)(f:n+s.size<=1000000)(h:∀v' w',fF 5 1 v n xs (Lib.strCells s) s.size w v' w'->wpList Tryz.prog ops Q b (a.put o.dst v') w'):wpList Tryz.prog ops Q (o :: b) a w:=by
 refine EU g λK e=>?_;have⟨v',w',k,d⟩:=qIs w o.type v n xs j s f;unfold Oper.wp execOp;simp only[i,resolve,invoke,builtin,EG,DZ,DJ,DM,BH,DB,l,m,k];exact e _ _ (h v' w' d)
def Xi(b p v l s w)(h:Hi w b p v l)(A:p=.pointer none\/p=.p b 0)(I:l.length+s.size<=1000000):
  cL 100 #[.p b 0,.t s] w λe w'=>(∃r,e=.r r)/\∃v',Hi w' b (.p b 0) v' (l++s.data.toList)/\Fr (fpB b v) w w'/\aJ w (fpB b v) (fpB b v'):=by
 obtain⟨g,i,rfl⟩:=aG h.row;have u:=qDd b p _ l w h A;go_enter Tryz.func100,Tryz.ntmps100;go_wp2_with (first
  |(go_at_call 140;apply Calls.m u;rintro e k ⟨rfl,d,t⟩;have C:k.c b 0=some (.p b 0):=(by simp[World.cell?,d.box]);have D:k.c b 1=some (.s g l.length i):=(by simp[World.cell?,d.box]);have y:=aP d.row d.box (by decide))
  |(at_builtin;refine qLc k rfl _ _ rfl _ _ _ rfl d.row s rfl (by omega) ?_;intro v' c m;have j:cW c b #[.p b 0,.s g l.length i] 157:=m.fr.heap d.box y;have E:c.c b 0=some (.p b 0):=(by simp[World.cell?,j]);have G:c.c b 1=some (.s g l.length i):=(by simp[World.cell?,j]);have H:c.frozen? (aD b 1)=false:=aA j 1;have n:=m.row;have o:Hid (fF 5 1 (.s g l.length i) l.length (Lib.byteCells l) (Lib.strCells s) s.size k v' c):=m;obtain⟨J,q,rfl⟩:=aG n;clear m))
 go_ret2;have x:=aB j 1 (.s J (l.length+s.size) q);have z:=aP n j (by decide);have F:Fr (fpB b (.s g l.length i)) w c:=((t.m (λf a=>.inl (.inl a))):Fr (fpB b (.s g l.length i)) w k).t (o.o.fr.m (λf a=>.inl (.inr a)));refine⟨⟨_,rfl⟩,.s J (l.length+s.size) q,⟨by simpa using x,?_⟩,F.s b 1 (.inl (.inl rfl)),?_⟩
 .have B:(l++s.data.toList).length=l.length+s.size:=by simp
  rw[B,Lib.byteCells_append,<-Lib.strCells_eq];exact aS n ((CN (λf=>Value.ownBlock _=some f) c).setCell (p:=(aD b 1)) (λa=>z a) _) (λf a=>a)
 .rintro f (rfl|a)
  .exact .inl (.inl rfl)
  .rcases o.o.lies f a with h|h
   .exact .inl (.inr h)
   .exact .inr (vJ t.size h)
def Fr.freeze{Y a w}(h:Fr Y a w){p}(b:Y p.block\/a.heap.size<=p.block)(n):Fr Y a (w.freeze p n):=by
 unfold World.freeze;split
 .exact h
 .refine⟨h.os,h.tape,h.output,by simpa using h.size,λd f c=>?_⟩
  show(w.heap.modify _ _)[d]?=_
  rw[KJ,AR (λe=>by subst e;rcases b with b|b;exact c b;omega)];exact h.block d f c
def Ss(b p v l w)(h:Hi w b p v l)(d:l≠[])(C:l.length<=1000000):
  cL 101 #[.p b 0] w λe w'=>e=.r (.t ⟨l.toArray⟩)/\Fr (λk=>v.ownBlock=some k) w w':=by
 have m:l.length≠0:=by simpa using d
 have f:=h.row;obtain⟨g,a,c,rfl,z,i,D,A,B,E⟩:∃g a c,v=.q g l.length a/\0<=g/\w.heap[g]?=some (.cells c 5 (0,0))/\l.length<=a/\a<=maxLen/\c.size=a * 1/\c.toList.take (l.length * 1)=Lib.byteCells l:=by
  rcases f.2 with⟨_,q⟩|⟨g,a,c,n,r⟩
  .exact absurd q m
  .exact⟨g,a,c,n,r⟩
 have u:w.drew.cell? (aD b 1)=some (.q g l.length a):=by
  have:w.drew.heap[b]?=some (.cells #[p,.q g l.length a] 157 (0,0)):=h.box;simp[World.cell?,this]
 have x:(Builtin.unsafeSliceData_ #[108] 187 #[.q g l.length a]).run Tryz.prog w.drew=.ok (.p g 0) w.drew :=
  Lib.run_unsafeSliceData_row _ _ _ _ _ _ (by omega)
 have y:(Builtin.unsafeString_ #[187,3] 9 #[.p g 0,.i l.length]).run Tryz.prog w.drew=.ok (.t ⟨l.toArray⟩) (w.drew.freeze (aD g 0) l.length):=by
  apply Lib.run_unsafeString_row w.drew 187 3 9 5 Tryz.underlying187 (by kernel_rfl) g c.size (by have j:w.drew.heap[g]?=some (.cells c 5 (0,0)):=i;simp[World.shape?,j]) l d (by omega) (by omega);intro s t o;have:=DG (w:=w) f (g:=g) rfl s (.int .u8 t.toNat) (by simp[Lib.byteCells,o]);exact this
 have F:Tryz.prog.follows .mixedOrders=true:=by kernel_rfl
 go_enter Tryz.func101,Tryz.ntmps101;go_wp2;go_region_o
 all_goals (go_wp2;go_ret;exact⟨rfl,Fr.freeze (Y:=λk=>(Value.q g l.length a).ownBlock=some k) (AE _ w).drew (p:=(aD g 0)) (.inl rfl) _⟩)
open Go.Shelf
attribute [local go_sem] CM
def wF{fs}:∀(a:List (Nat×Pg)) (p g:Nat),fD fs p g a->(eW a).length=g
 |[],_,_,h=>h.symm
 |x :: l,p,g,h=>by
  have⟨_,e,_,_,f,d,_,_,b⟩:=h;have:=wF l d _ b;rw[eW,AK,jK];rw[eW]at this;rw[this];have c:x.2.data.data.toList.length=x.2.data.size:=by simp
  rw[c];omega
def Bw(a x):eW (a++[x])=eW a++x.2.data.data.toList:=by simp[eW]
def Xe(a b):(eW a).length<=(eW (a++b)).length:=by simp[eW]
def qDr(β root a c b k v size w):
  cL 48 #[.agg #[.p β 0,.i root,.s a c b],.agg #[.t k,.t v,.i size,.i 0]] w λe w'=>e=.r (.t v)/\bW w w':=by
 have d:Hid (bW w ((w.alloc (.cells #[.p β 0,.i root,.s a c b] 90)).alloc (.cells #[.t k,.t v,.i size,.i 0] 69))):=(bA _ _).alloc (by simp) _;go_enter Tryz.func48,Tryz.ntmps48;go_wp2;go_ret;exact⟨rfl,d⟩
def To(β sv lv fs)(b4:(fs.life==0)=false)(root o t s k v size j u w)(E:aF w β sv lv fs)(b7:0<j)(a6:fD fs j size u)(c0:0<size)(bz:size<=400):
  cL 48 #[.agg #[.p β 0,.i root,.s o t s],.agg #[.t k,.t v,.i size,.i j]] w λe w'=>e=.r (.t ⟨(eW u).toArray⟩)/\bW w w':=by
 have bu:((j:Int)==0)=false:=by simp;omega
 have V:=wF u j size a6;have⟨m,K⟩:=nM ((w.alloc (.cells (tA β root o t s) 90)).alloc (.cells #[.string k,.string v,.i size,.i j] 69));have X:m.heap.size=w.heap.size+2:=by rw[<-K];simp
 have bb:m.heap[w.heap.size]?=some (.cells (tA β root o t s) 90):=K▸aQ _ (aC w _);have a1:m.heap[w.heap.size+1]?=some (.cells #[.string k,.string v,.i size,.i j] 69):=by
  rw[<-K];have:=aC (w.alloc (.cells (tA β root o t s) 90)) (.cells #[.string k,.string v,.i size,.i j] 69);simpa using this
 have⟨f,C⟩:=nM (m.alloc (.cells #[.pointer none,.n] 157));have am:f.heap[w.heap.size+2]?=some (.cells #[.pointer none,.n] 157):=by rw[<-X];exact C▸aC m _
 have bc:f.heap[w.heap.size]?=some (.cells (tA β root o t s) 90):=C▸aQ _ bb;have an:f.heap[w.heap.size+1]?=some (.cells #[.string k,.string v,.i size,.i j] 69):=C▸aQ _ a1;have ah:f.heap.size=w.heap.size+3:=by rw[<-C];simp[X]
 have L:bW w f:=by rw[<-C,<-K];exact((bA _ _).alloc (by simp) _).alloc (by simp;omega) _
 have⟨bf,bm,bn,bo⟩:=kA a1;have⟨bg,bq,br,bs⟩:=kA an;have⟨bj,bw,bx⟩:=eC bc;have T:=Gt root β o t s k v size j f;have be:Hid (m.heap.size=w.heap.size+2/\f.heap.size=w.heap.size+3):=⟨X,ah⟩;rw[ah]at T;refine(AZ (n:=0)).1 (BX Tryz.func48 rfl trivial ?_ rfl);simp only[Tryz.ntmps48,jA,jB,jN,Nat.reduceAdd,Nat.reduceSub,jR,jO,jP,jT,jE,jF];gi_wp2_with (refine⟨trivial,rfl,?_⟩;gi_at_call 99;apply(AZ.2 T).m;rintro e G ⟨rfl,bd,af,b0⟩);have b1:bW f G:=b0;have N:Fr Bl.none f G:=AB b1;have a0:=N.heap am (λa=>a);have c5:=(gL af);let b:=w.heap.size+2;let Rc:Bl:=λk=>k=w.heap.size+3\/k=w.heap.size+3+1\/fpF β sv lv k;have b3:=Gs (w.heap.size+3+1) (w.heap.size+3) β sv lv fs root o t s k v size j u Rc G af bd ((E.on (vV L E.lies)).on (N.on (λk c=>⟨(E.on (vV L E.lies)).lies k c,λa=>a⟩))) b4 (.inr (.inl rfl)) (.inl rfl) (λk c=>.inr (.inr c)) (by omega) (.inr ⟨b7,a6⟩);let I:List (Nat×Pg)->Bl->World->Prop:=λd M W=>∃p h,Hi W b p h (eW d)/\(p=.pointer none\/p=.p b 0)/\(∀k,M k↔fpB b h k)/\(∀k,h.ownBlock=some k->w.heap.size<=k);have a7:=E.lies;refine fI (P:=Tryz.prog) (Has:=qIn) (Rd:=Rc) rfl (enters_of Tryz.func137 (by kernel_rfl) rfl) b3 (λx ao S W U=>by obtain⟨v,rfl,_⟩:=U;rfl) I (λ_ _ _ _=>False) ?_ (λ_ _ _ _ _ a=>a.elim) ?_ (λ_ _ _ _ a=>a.elim) (Bl.one b) ⟨.pointer none,.n,⟨a0,by simpa[eW,Lib.byteCells] using AL _ _ _ _⟩,.inl rfl,λk=>by simp[Bl.one,fpB,Value.ownBlock],by simp[Value.ownBlock]⟩ ?_ ?_ ?_ (λ_ _ _ _ _ _ _ _ _ a=>a.elim)
 .intro d M A B ⟨p,h,⟨Q,R⟩,F,i,y⟩ a9
  exact⟨p,h,⟨a9.heap Q ((i _).2 (.inl rfl)),aS R a9 (λk c=>(i k).2 (.inr c))⟩,F,i,y⟩
 .intro d M A ⟨p,h,⟨Q,R⟩,F,i,y⟩ k c
  rcases(i k).1 c with rfl|a
  .exact(gL Q)
  .exact aK R a
 .rintro k (rfl|rfl|c)
  .exact⟨λa=>by simp only[Bl.one,b]at a;omega,by omega⟩
  .exact⟨λa=>by simp only[Bl.one,b]at a;omega,by omega⟩
  .exact⟨λa=>by simp only[Bl.one,b]at a;have:=a7 k c;omega,by have:=a7 k c;omega⟩
 .intro l d x ae ao S ak W ba ⟨p,h,z,F,i,y⟩ U bk J az bp b5 a8 ⟨r,bv⟩
  obtain⟨c2,rfl,ac,aa,a2,ad,ab,a3,rfl,_⟩:=U;have⟨q,g⟩:=x;have bt:(eW d).length+g.data.size<=400:=by
   have aq:=Xe (d++[(q,g)]) ae;have ar:(eW (d++[(q,g)])).length=(eW d).length+g.data.size:=by rw[Bw,jK];simp
   have au:d++[(q,g)]++ae=u:=by rw[ba];simp
   rw[au,ar,V]at aq;omega
  have ai:Hid (eW (d++[(q,g)])=eW d++g.data.data.toList):=Bw d (q,g);have al:Fr Bl.none W (W.alloc (pgO g ac aa a2 ad ab a3)):=(AE _ W).alloc _;unfold iY;gi_wp2;refine⟨(AE _ W).alloc _,?_⟩;intro Y a5;have⟨c1,c8,c9,ca,cb,cc,cd,ce⟩:=bO (a5.heap (k:=W.heap.size) (aC W (pgO g ac aa a2 ad ab a3)) (DL b5));have O:=(al.m (λ_ a=>a.elim)).t a5.fr;have av:Hi Y b p h (eW d):=⟨O.heap z.box (λa=>by simp only[Bl.one]at a;exact a8 ((i _).2 (.inl a.symm))),aS z.row (O.on (Z:=λk=>h.ownBlock=some k) (λk c=>⟨aK z.row c,λa=>by simp only[Bl.one]at a;subst a;exact a8 ((i _).2 (.inr c))⟩)) (λk c=>c)⟩;have c4:=O.size;gi_wp2_with (refine⟨trivial,rfl,?_⟩;gi_at_call 100;apply(AZ.2 (Xi b p h (eW d) g.data Y av F (by omega))).m;rintro e aj ⟨⟨c3,rfl⟩,ag,aw,H,a4⟩);refine⟨fpB b ag,⟨_,ag,by rw[ai.o];exact aw,.inr rfl,λk=>FT,?_⟩,H.m (λk c=>.inl ((i k).2 c)),λk c=>(a4 k c).imp (λa=>(i k).2 a) id⟩;intro k c;rcases a4 k (.inr c) with(rfl|a)|a
  .show w.heap.size<=w.heap.size+2;omega
  .exact y k a
  .have:=J.size;omega
 .intro D ak W ax bl ⟨p,h,z,F,i,y⟩ J az ay
  gi_wp2_with (refine⟨trivial,rfl,?_⟩;gi_at_call 101;apply(AZ.2 (Ss b p h (eW u) W z (λa=>by rw[a]at V;simp at V;omega) (by omega))).m;rintro e aj ⟨rfl,H⟩);have b6:=((FQ w.heap.size G).cons (λD' _ a=>J.heap a (λe=>by simp only[Bl.one,b]at e;subst e;rw[a0]at a;simp at a)) (by omega) ay ax).on (λD' _ a=>H.heap a (λc=>by
   rcases z.row.2 with⟨ap,_⟩|⟨g,bh,bi,b9,_,b2,_⟩
   .rw[ap]at c;simp[Value.ownBlock]at c
   .rw[b9]at c
    simp[Value.ownBlock]at c;subst c;rw[b2]at a;simp at a))
  apply Rn rfl b6;intro w' b8;exact⟨rfl,(((((AB L:Fr Bl.none w f).t N).grow J (λk c=>.inr (by simp only[Bl.one,b]at c;omega))).grow H (λk c=>.inr (y k c))).took b8 (jU _)).below0⟩
def Dh(β sv lv fs)(root b d c)(X:En)(o:X.e.over≠0->(fs.life==0)=false)(w)(n:aF w β sv lv fs)(m:X.ok fs)(h:X.e.over≠0->X.e.size≠0):
  cL 48 #[.agg #[.p β 0,.i root,.s b d c],.agg #[.t X.e.key,.t X.e.val,.i X.e.size,.i X.e.over]] w λe w'=>e=.r (.t ⟨X.value.toArray⟩)/\bW w w':=by
 have⟨q,p,g,a,i,j⟩:=m;rcases j with⟨rfl,_⟩|⟨k,l⟩
 .have f:(⟨X.value.toArray⟩:ByteArray)=X.e.val:=by
   unfold En.value;rw[AU (by rw[a];rfl)]
  rw[f,a];exact qDr β root b d c X.e.key X.e.val X.e.size w
 .have f:X.value=eW X.ch:=by
   unfold En.value;rw[AR (by rw[a];omega)]
  rw[f,g,a];exact To β sv lv fs (o (by rw[a];omega)) root b d c X.e.key X.e.val q p X.ch w n k l (by have:=h (by rw[a];omega);rw[g]at this;omega) i
