import Derived.Shelf.RegionOpenPlain
import Derived.Test.YtdhgdcjmhofhaaaGreatD25
set_option linter.all false
set_option maxRecDepth 100000
set_option maxHeartbeats 8000000
namespace Go.Proofs.YtdhgdcjmhofhaaaGreat.Tree
open Go.RowKit Pages Tryz
structure Jq (w:World) (b:Nat) (p v:Value) (l:List UInt8):Prop where
 box:w.1[b]?=some (.cells #[p,v] 157)
 row:w.ownsRow 0 5 1 v l.length (Lib.byteCells l)
def fpB(b:Nat)(v:Value):Bl:=λk=>k=b\/v.ownBlock=some k
theorem Wk:∃j,prog.info? 157=some j/\j.size=2:=by
 have:(prog.info? 157).map (·.size)=some 2:=κ;have⟨j,a,b⟩:=GG.1 this;exact⟨j,a,b⟩
theorem qMt:liesAt prog prog.depth 157 (2 / prog.cellsOf 157) 0 157 1=true:=κ
theorem qAo(b w)(c:w.c b 0=some (.p b 0)):
  cL 140 #[.p b 0] w λe w'=>e=.r (.tuple #[])/\w'=w:=by
 have⟨f,a,d⟩:=Wk;go_enter func140,ntmps140;go_wp2;rw[Lib.run_neq_ptr_same w _ underlying155 a];go_wp2;go_end0;exact⟨rfl,rfl⟩
theorem qHg(b w)(f:w.c b 0=some (.pointer none))(c:w.shape? b=some (157,2))(g:w.frozen? (aD b 0)=false):
  cL 140 #[.p b 0] w λe w'=>e=.r (.tuple #[])/\w'=w.setCell (aD b 0) (.p b 0):=by
 have⟨h,a,d⟩:=Wk;go_enter func140,ntmps140;go_wp2;rw[Lib.run_to_unsafe w (aD b 0) underlying155 underlying183 a (by rw[d];decide) c (Nat.zero_lt_succ 1)];simp only[Result.andThen];rw[NJ];go_wp2;rw[run_callFunc_extern func163 κ κ κ (e:=Extern.AbiNoEscape.same) κ];rw[Lib.run_noEscape];simp only[Result.andThen];rw[NJ];go_wp2;rw[Lib.run_from_unsafe w (aD b 0) underlying183 underlying155 a c qMt];simp only[Result.andThen];rw[NJ];go_wp2;go_end0;exact⟨rfl,rfl⟩
theorem qHh(b p v l w)(h:Jq w b p v l)(g:p=.pointer none\/p=.p b 0):
  cL 140 #[.p b 0] w λe w'=>e=.r (.tuple #[])/\Jq w' b (.p b 0) v l/\Fr (Bl.one b) w w':=by
 have c:w.c b 0=some p:=by simp[World.cell?,h.box]
 rcases g with rfl|rfl
 .apply(qHg b w c (by simp[World.shape?,h.box]) (aF h.box 0)).m;rintro e w' ⟨rfl,rfl⟩;refine⟨rfl,⟨by simpa using aC h.box 0 (.p b 0),?_⟩,(AE (Bl.one b) w).s b 0⟩;exact aS h.row ((CM (λd=>v.ownBlock=some d) w).setCell (p:=(aD b 0)) (λa=>(aQ h.row h.box δ) a) _) (λd a=>a)
 .apply(qAo b w c).m;rintro e w' ⟨rfl,rfl⟩;exact⟨rfl,h,AE _ _⟩
theorem qGh:∃i,prog.info? 5=some i/\i.zero=some (.int .u8 0)/\i.size=1/\i.bytes=1:=by
 have:(prog.info? 5).map (λi=>(i.zero,i.size,i.bytes))=some (some (.int .u8 0),1,1):=κ;have⟨i,b,a⟩:=GG.1 this;simp only[KL]at a;exact⟨i,b,a.1,a.2.1,a.2.2⟩
theorem qNh(w c v n xs)(f:w.ownsRow 0 5 1 v n xs)(s)(y:n+s.size<=1000000):
  ∃v' w',(Builtin.append_ #[108,9] c #[v,.t s]).run prog w=.ok v' w'/\fO 5 1 v n xs (Lib.strCells s) s w v' w':=by
 have⟨h,d,j,k,l⟩:=qGh;have⟨v',w',e,o,p,q⟩:=Lib.run_append_own_string (P:=prog) w 0 108 9 c 5 h underlying108 underlying9 d j k l v n xs f s (by unfold maxLen;omega) ω (AG _);refine⟨v',w',e,o,(AE _ w).grown p (λx b=>.inl b),λx b=>?_⟩;have u:=by simpa using f.1
 rcases f.2 with⟨rfl,rfl⟩|⟨g,i,m,rfl,z,r,C,A,B,D⟩
 .by_cases hm:s.size=0
  .rw[q.2 ⟨rfl,hm⟩]at b;simp[Value.ownBlock]at b
  .have a:=run_append_nil_string (P:=prog) w 108 9 c 5 h (.int .u8 0) underlying108 underlying9 d j s ω ω (by rw[l];omega);rw[e]at a;simp only[LP]at a;rw[a.1]at b;simp[Value.ownBlock]at b;exact .inr ω
 .by_cases hroom:n+s<=i
  .have a:=Lib.run_append_room_string (P:=prog) w 108 9 c 5 h underlying108 underlying9 d k g n i m r s hroom ω;rw[e]at a;simp only[LP]at a;rw[a.1]at b;exact .inl (by simpa[Value.ownBlock] using b)
  .have a:=Lib.run_append_grow_string (P:=prog) w 108 9 c 5 h (.int .u8 0) underlying108 underlying9 d j (aD g 0) n i xs (by rw[k];simpa using u) (DH (w:=w) f (g:=g) rfl) s ω ω (l▸KG ω ω);rw[e]at a;simp only[LP]at a;rw[a.1]at b;simp[Value.ownBlock]at b;exact .inr ω
theorem qQb{ops:Array Oper}{b:List Oper}{o:Oper}{a:Act}{Q:Exit->Act->World->Prop}(w)(g:o.guard=none)(c x)(i:o.op=.call {callee:=.builtin .append,args:=#[c,x],argTypes:=#[108,9]})(v n xs)(l:a.eval c=v)(j:w.ownsRow 0 5 1 v n xs)(s)(m:a.eval x=.t s)(f:n+s.size<=1000000)(h:∀v' w',fO 5 1 v n xs (Lib.strCells s) s w v' w'->wpList prog ops Q b (a.put o.dst v') w'):wpList prog ops Q (o :: b) a w:=by
 refine FH g λK e=>?_;have⟨v',w',k,d⟩:=qNh w o.type v n xs j s f;unfold Oper.wp execOp;simp only[i,resolve,invoke,builtin,EK,ED,DN,DQ,BE,DB,l,m,k];exact e _ _ (h v' w' d)
theorem qAt(b p v l s w)(h:Jq w b p v l)(A:p=.pointer none\/p=.p b 0)(I:l.length+s.size<=1000000):
  cL 100 #[.p b 0,.t s] w λe w'=>(∃r,e=.r r)/\∃v',Jq w' b (.p b 0) v' (l++s.data.toList)/\Fr (fpB b v) w w'/\aI w (fpB b v) (fpB b v'):=by
 obtain⟨g,i,rfl⟩:=aG h.row;have u:=qHh b p _ l w h A;go_enter func100,ntmps100;go_wp2_with (first
  |(apply Calls.m u;rintro e k ⟨rfl,d,t⟩;have C:k.c b 0=some (.p b 0):=(by simp[World.cell?,d.box]);have D:k.c b 1=some (.s g l i):=(by simp[World.cell?,d.box]);have y:=aQ d.row d.box δ)
  |(at_builtin;refine qQb k rfl _ _ rfl _ _ _ rfl d.row s rfl ω ?_;intro v' c m;have j:=m.fr.heap d.box y;have E:c.c b 0=some (.p b 0):=(by simp[World.cell?,j]);have G:c.c b 1=some (.s g l i):=(by simp[World.cell?,j]);have H:=aF j 1;have n:=m.row;have o:Hid _:=m;obtain⟨J,q,rfl⟩:=aG n;clear m))
 go_ret2;have x:=aC j 1 (.s J (l+s) q);have z:=aQ n j δ;have F:=((t.m (λf a=>.inl (.inl a))):Fr (fpB b (.s g l i)) w k).t (o.o.fr.m (λf a=>.inl (.inr a)));refine⟨⟨_,rfl⟩,.s J (l+s) q,⟨by simpa using x,?_⟩,F.s b 1 (.inl (.inl rfl)),?_⟩
 .have B:(l++s.data.toList).length=l+s.size:=σ;rw[B,Lib.byteCells_append,<-Lib.strCells_eq];exact aS n ((CM (λf=>Value.ownBlock _=some f) c).setCell (p:=(aD b 1)) (λa=>z a) _) (λf a=>a)
 .rintro f (rfl|a)
  .exact .inl (.inl rfl)
  .rcases o.o.lies f a with h|h
   .exact .inl (.inr h)
   .exact .inr (vJ t.size h)
theorem Fr.freeze{Y:Bl}{a w:World}(h:Fr Y a w){p:Addr}(b:Y p.block\/a<=p.block)(n):Fr Y a (w.freeze p n):=by
 unfold World.freeze;split
 .exact h
 .refine⟨h.os,h.tape,h.output,by simpa using h.size,λd f c=>?_⟩;show(w.heap.modify _ _)[d]?=_;rw[JI,AQ (λe=>by subst e;rcases b with b|b;exact c b;omega)];exact h.block d f c
theorem Vz(b p v l w)(h:Jq w b p v l)(d:l≠[])(C:l.length<=1000000):
  cL 101 #[.p b 0] w λe w'=>e=.r (.t ⟨l.toArray⟩)/\Fr (λk=>v.ownBlock=some k) w w':=by
 have m:l.length≠0:=by simpa using d
 have f:=h.row;obtain⟨g,a,c,rfl,z,i,D,A,B,E⟩:∃g a c,v=.q g l a/\0<=g/\w.1[g]?=some (.cells c 5 (0,0))/\l<=a/\a<=maxLen/\c.size=a * 1/\c.toList.take (l * 1)=Lib.byteCells l:=by
  rcases f.2 with⟨_,q⟩|⟨g,a,c,n,r⟩
  .exact absurd q m
  .exact⟨g,a,c,n,r⟩
 have u:w.drew.cell? (aD b 1)=some (.q g l a):=by
  have:w.drew.1[b]?=some (.cells #[p,.q g l a] 157 (0,0)):=h.box;simp[World.cell?,this]
 have x:(Builtin.unsafeSliceData_ #[108] 187 #[.q g l a]).run prog w.drew=.ok (.p g 0) w.drew :=
  Lib.run_unsafeSliceData_row _ _ _ _ _ _ ω
 have y:=by
  apply Lib.run_unsafeString_row w.drew 187 3 9 5 underlying187 κ g c.size (by have j:w.drew.1[g]?=some (.cells c 5 (0,0)):=i;simp[World.shape?,j]) l d ω ω;intro s t o;have:=DH (w:=w) f (g:=g) rfl s (.int .u8 t.toNat) (by simp[Lib.byteCells,o]);exact this
 have F:prog.follows .mixedOrders=true:=κ;go_enter func101,ntmps101;go_wp2;go_region_o;all_goals (go_wp2;go_ret;exact⟨rfl,Fr.freeze (Y:=λk=>(Value.q g l a).ownBlock=some k) (AE _ w).drew (p:=(aD g 0)) (.inl rfl) _⟩)
open Go.Shelf
attribute [local go_sem] CE
theorem yD{fs:Fs}:∀(a:List (Nat×Pg)) (p g:Nat),eV fs p g a->(fB a)=g
 |[],_,_,h=>h.symm
 |x :: l,p,g,h=>by
  have⟨_,e,_,_,f,d,_,_,b⟩:=h;have:=yD l d _ b;rw[fB,AK,jK];rw[fB]at this;rw[this];have c:x.2.data.data.toList=x.2.data.size:=σ;rw[c];omega
theorem Dx(a x):fB (a++[x])=fB a++x.2.data.data.toList:=by simp[fB]
theorem qAs(a b):(fB a).length<=(fB (a++b)):=by simp[fB]
theorem qHw(β root a c b k v size w):
  cL 48 #[.agg #[.p β 0,.i root,.s a c b],.agg #[.t k,.t v,.i size,.i 0]] w λe w'=>e=.r (.t v)/\bW w w':=by
 have d:Hid (bW w ((w.alloc (.cells #[.p β 0,.i root,.s a c b] 90)).alloc (.cells #[.t k,.t v,.i size,.i 0] 69))):=(bA _ _).alloc σ _;go_enter func48,ntmps48;go_wp2;go_ret;exact⟨rfl,d⟩
theorem Xc(β sv lv fs)(b4:(fs.life==0)=false)(root o t s k v size j u w)(E:aA w β sv lv fs)(b7:0<j)(a6:eV fs j size u)(c0:0<size)(bz:size<=400):
  cL 48 #[.agg #[.p β 0,.i root,.s o t s],.agg #[.t k,.t v,.i size,.i j]] w λe w'=>e=.r (.t ⟨(fB u).toArray⟩)/\bW w w':=by
 have bu:((j:Int)==0)=false:=χ
 have V:=yD u j size a6;have⟨m,K⟩:=nM ((w.alloc (.cells #[.p β 0,.i root,.s o t s] 90)).alloc (.cells #[.t k,.t v,.i size,.i j] 69));have X:m.1.size=w+2:=by rw[<-K];simp
 have bb:=K▸aP _ (aB w _);have a1:m.1[w.1.size+1]?=some (.cells #[.t k,.t v,.i size,.i j] 69):=by
  rw[<-K];have:=aB (w.alloc (.cells #[.p β 0,.i root,.s o t s] 90)) (.cells #[.t k,.t v,.i size,.i j] 69);simpa using this
 have⟨f,C⟩:=nM (m.alloc (.cells #[.pointer none,.n] 157));have am:f.1[w.1.size+2]?=some (.cells #[.pointer none,.n] 157):=by rw[<-X];exact C▸aB m _
 have bc:=C▸aP _ bb;have an:=C▸aP _ a1;have ah:f.1.size=w+3:=by rw[<-C];simp[X]
 have L:bW w f:=by rw[<-C,<-K];exact((bA _ _).alloc σ _).alloc χ _
 have⟨bf,bm,bn,bo⟩:=kI a1;have⟨bg,bq,br,bs⟩:=kI an;have⟨bj,bw,bx⟩:=eM bc;have T:=Iz root β o t s k v size j f;rw[ah]at T;refine(BG (n:=0)).1 (CH func48 rfl trivial ?_ rfl);simp only[ntmps48,jA,jB,jN,Nat.reduceAdd,Nat.reduceSub,jR,jO,jP,jT,jE,jF];gi_wp2_with (refine⟨trivial,rfl,?_⟩;gi_at_call 99;apply(BG.2 T).m;rintro e G ⟨rfl,bd,af,b0⟩);have b1:=b0;have N:Fr Bl.none f G:=AB b1;have a0:=N.heap am (λa=>a);have c5:=(gL af);let b:=w.1.size+2;let Rc:Bl:=λk=>k=w+3\/k=w+3+1\/fpF β sv lv k;have b3:=Iy (w+3+1) (w+3) β sv lv fs root o t s k v size j u Rc G af bd ((E.bl L).on (N.on (λk c=>⟨(E.bl L).lies k c,λa=>a⟩))) b4 (.inr (.inl rfl)) (.inl rfl) (λk c=>.inr (.inr c)) ω (.inr ⟨b7,a6⟩);let I:List (Nat×Pg)->Bl->World->Prop:=λd M W=>∃p h,Jq W b p h (fB d)/\(p=.pointer none\/p=.p b 0)/\(∀k,M k↔fpB b h k)/\(∀k,h.ownBlock=some k->w<=k);have a7:=E.lies;refine gF (P:=prog) (Has:=Ec) (Rd:=Rc) rfl (enters_of func137 κ rfl) b3 (λx ao S W U=>by obtain⟨v,rfl,_⟩:=U;rfl) I (λ_ _ _ _=>False) ?_ (λ_ _ _ _ _ a=>a.elim) ?_ (λ_ _ _ _ a=>a.elim) (Bl.one b) ⟨.pointer none,.n,⟨a0,by simpa[fB,Lib.byteCells] using AO _ _ _ _⟩,.inl rfl,λk=>by simp[Bl.one,fpB,Value.ownBlock],ι⟩ ?_ ?_ ?_ (λ_ _ _ _ _ _ _ _ _ a=>a.elim)
 .intro d M A B ⟨p,h,⟨Q,R⟩,F,i,y⟩ a9
  exact⟨p,h,⟨a9.heap Q ((i _).2 (.inl rfl)),aS R a9 (λk c=>(i k).2 (.inr c))⟩,F,i,y⟩
 .intro d M A ⟨p,h,⟨Q,R⟩,F,i,y⟩ k c
  rcases(i k).1 c with rfl|a
  .exact(gL Q)
  .exact aL R a
 .rintro k (rfl|rfl|c)
  .exact⟨λa=>by simp only[Bl.one,b]at a;omega,ω⟩
  .exact⟨λa=>by simp only[Bl.one,b]at a;omega,ω⟩
  .exact⟨λa=>by simp only[Bl.one,b]at a;have:=a7 k c;omega,by have:=a7 k c;omega⟩
 .intro l d x ae ao S ak W ba ⟨p,h,z,F,i,y⟩ U bk J az bp b5 a8 ⟨r,bv⟩
  obtain⟨c2,rfl,ac,aa,a2,ad,ab,a3,rfl,_⟩:=U;have⟨q,g⟩:=x;have bt:(fB d).length+g.data.size<=400:=by
   have aq:=qAs (d++[(q,g)]) ae;have ar:(fB (d++[(q,g)])).length=(fB d).length+g.data.size:=by rw[Dx,jK];simp
   have au:d++[(q,g)]++ae=u:=by rw[ba];simp
   rw[au,ar,V]at aq;omega
  have ai:Hid (fB (d++[(q,g)])=fB d++g.data.data.toList):=Dx d (q,g);have al:Fr Bl.none W (W.alloc (pgO g ac aa a2 ad ab a3)):=(AE _ W).alloc _;unfold iM;gi_wp2;refine⟨(AE _ W).alloc _,?_⟩;intro Y a5;have⟨c1,c8,c9,ca,cb,cc,cd,ce⟩:=bU (a5.heap (k:=W.1.size) (aB W (pgO g ac aa a2 ad ab a3)) (DT b5));have O:=(al.m (λ_ a=>a.elim)).t a5.fr;have av:Jq Y b p h (fB d):=⟨O.heap z.box (λa=>by exact a8 ((i _).2 (.inl a.symm))),aS z.row (O.on (Z:=λk=>h.ownBlock=some k) (λk c=>⟨aL z.row c,λa=>by cases a;exact a8 ((i _).2 (.inr c))⟩)) (λk c=>c)⟩;have c4:=O.size;gi_wp2_with (refine⟨trivial,rfl,?_⟩;gi_at_call 100;apply(BG.2 (qAt b p h (fB d) g.data Y av F ω)).m;rintro e aj ⟨⟨c3,rfl⟩,ag,aw,H,a4⟩);refine⟨fpB b ag,⟨_,ag,ai.o▸aw,.inr rfl,λk=>GF,?_⟩,H.m (λk c=>.inl ((i k).2 c)),λk c=>(a4 k c).imp (λa=>(i k).2 a) id⟩;intro k c;rcases a4 k (.inr c) with(rfl|a)|a
  .show w.1.size<=w+2;omega
  .exact y k a
  .have:=J.size;omega
 .intro D ak W ax bl ⟨p,h,z,F,i,y⟩ J az ay;gi_wp2_with (refine⟨trivial,rfl,?_⟩;gi_at_call 101;apply(BG.2 (Vz b p h (fB u) W z (λa=>by rw[a]at V;simp at V;omega) ω)).m;rintro e aj ⟨rfl,H⟩);have b6:=((GC w G).cons (λD' _ a=>J.heap a (λe=>by simp only[Bl.one,b]at e;subst e;rw[a0]at a;simp at a)) ω ay ax).on (λD' _ a=>H.heap a (λc=>by
   rcases z.row.2 with⟨ap,_⟩|⟨g,bh,bi,b9,_,b2,_⟩
   .rw[ap]at c;simp[Value.ownBlock]at c
   .rw[b9]at c;simp[Value.ownBlock]at c;subst c;rw[b2]at a;simp at a))
  apply Uv rfl b6;intro w' b8;exact⟨rfl,(((((AB L:Fr Bl.none w f).t N).grow J (λk c=>.inr (by simp only[Bl.one,b]at c;omega))).grow H (λk c=>.inr (y k c))).took b8 (jU _)).below0⟩
theorem Fo(β sv lv fs)(root b d c)(X:En)(o:X.e.over≠0->(fs.life==0)=false)(w)(n:aA w β sv lv fs)(m:X.ok fs)(h:X.e.over≠0->X.e.size≠0):
  cL 48 #[.agg #[.p β 0,.i root,.s b d c],.agg #[.t X.e.key,.t X.e.val,.i X.e.size,.i X.e.over]] w λe w'=>e=.r (.t ⟨X.value.toArray⟩)/\bW w w':=by
 have⟨q,p,g,a,i,j⟩:=m;rcases j with⟨rfl,_⟩|⟨k,l⟩
 .have f:(⟨X.value.toArray⟩:ByteArray)=X.e.val:=by
   unfold En.value;rw[AU (by rw[a];rfl)]
  rw[f,a];exact qHw β root b d c X.e.key X.e.val X.e.size w
 .have f:X.value=fB X.ch:=by
   unfold En.value;rw[AQ (by rw[a];omega)]
  rw[f,g,a];exact Xc β sv lv fs (o (by rw[a];omega)) root b d c X.e.key X.e.val q p X.ch w n k l (by have:=h (by rw[a];omega);rw[g]at this;omega) i
