import Derived.Shelf.RegionOpenPlain
import Derived.Test.YtdhgdcjmhofhaaaGreatD27
set_option linter.all false
set_option maxRecDepth 100000
set_option maxHeartbeats 8000000
namespace Go.Proofs.YtdhgdcjmhofhaaaGreat.Tree
open Go.RowKit Pages
structure Gb (w:World) (b:Nat) (p v:Value) (l:List UInt8):Prop where
 box:w.heap[b]?=some (.cells #[p,v] 157)
 row:w.ownsRow 0 5 1 v l.length (Lib.byteCells l)
def fpB(b:Nat)(v:Value):Bl:=λk=>k=b\/v.ownBlock=some k
theorem Rp:∃j,Tryz.prog.info? 157=some j/\j.size=2:=by
 have:(Tryz.prog.info? 157).map (·.size)=some 2:=by kernel_rfl
 have⟨j,a,b⟩:=JW.1 this;exact⟨j,a,b⟩
theorem qGd:liesAt Tryz.prog Tryz.prog.depth 157 (2 / Tryz.prog.cellsOf 157) 0 157 1=true:=by kernel_rfl
theorem Vk(b w)(c:w.c b 0=some (.p b 0)):
  cL 140 #[.p b 0] w λe w'=>e=.returned (.tuple #[])/\w'=w:=by
 have⟨f,a,d⟩:=Rp;go_enter Tryz.func140,Tryz.ntmps140;go_wp2;rw[Lib.run_neq_ptr_same w _ Tryz.underlying155 a];go_wp2;go_end0;exact⟨rfl,rfl⟩
theorem qBg(b w)(f:w.c b 0=some (.pointer none))(c:w.shape? b=some (157,2))(g:w.frozen? ⟨b,0,none⟩=false):
  cL 140 #[.p b 0] w λe w'=>e=.returned (.tuple #[])/\w'=w.setCell ⟨b,0,none⟩ (.p b 0):=by
 have⟨h,a,d⟩:=Rp;go_enter Tryz.func140,Tryz.ntmps140;go_wp2;rw[Lib.run_to_unsafe w ⟨b,0,none⟩ Tryz.underlying155 Tryz.underlying183 a (by rw[d];decide) c (Nat.zero_lt_succ 1)];simp only[Result.andThen];rw[MA];go_wp2;rw[run_callFunc_extern Tryz.func163 (by kernel_rfl) (by kernel_rfl) (by kernel_rfl) (e:=Extern.AbiNoEscape.same) (by kernel_rfl)];rw[Lib.run_noEscape];simp only[Result.andThen];rw[MA];go_wp2;rw[Lib.run_from_unsafe w ⟨b,0,none⟩ Tryz.underlying183 Tryz.underlying155 a c qGd];simp only[Result.andThen];rw[MA];go_wp2;go_end0;exact⟨rfl,rfl⟩
theorem qBh(b p v l w)(h:Gb w b p v l)(g:p=.pointer none\/p=.p b 0):
  cL 140 #[.p b 0] w λe w'=>e=.returned (.tuple #[])/\Gb w' b (.p b 0) v l/\Fr (Bl.one b) w w':=by
 have c:w.c b 0=some p:=by simp[World.cell?,h.box]
 rcases g with rfl|rfl
 ·apply(qBg b w c (by simp[World.shape?,h.box]) (aB h.box 0)).mono
  rintro e w' ⟨rfl,rfl⟩;refine⟨rfl,⟨by simpa using aC h.box 0 (.p b 0),?_⟩,(AF (Bl.one b) w).setCell (p:=⟨b,0,none⟩) (.inl rfl) _⟩;exact aS h.row ((CJ (λd=>v.ownBlock=some d) w).setCell (p:=⟨b,0,none⟩) (λa=>(aQ h.row h.box (by decide)) a) _) (λd a=>a)
 ·apply(Vk b w c).mono
  rintro e w' ⟨rfl,rfl⟩;exact⟨rfl,h,AF _ _⟩
theorem qAj:∃i,Tryz.prog.info? 5=some i/\i.zero=some (.int .u8 0)/\i.size=1/\i.bytes=1:=by
 have:(Tryz.prog.info? 5).map (λi=>(i.zero,i.size,i.bytes))=some (some (.int .u8 0),1,1):=by kernel_rfl
 have⟨i,b,a⟩:=JW.1 this;simp only[GP]at a;exact⟨i,b,a.1,a.2.1,a.2.2⟩
theorem qGp(w c v n xs)(f:w.ownsRow 0 5 1 v n xs)(s)(y:n+s.size<=1000000):
  ∃v' w',(Builtin.append_ #[108,9] c #[v,.string s]).run Tryz.prog w=.ok v' w'/\fB 5 1 v n xs (Lib.strCells s) s.size w v' w':=by
 have⟨h,d,j,k,l⟩:=qAj;have⟨v',w',e,o,p,q⟩:=Lib.run_append_own_string (P:=Tryz.prog) w 0 108 9 c 5 h Tryz.underlying108 Tryz.underlying9 d j k l v n xs f s (by unfold maxLen;omega) (by omega) (AH _);refine⟨v',w',e,o,(AF _ w).grown p (λx b=>.inl b),λx b=>?_⟩;have u:xs.length=n:=by simpa using f.1
 rcases f.2 with⟨rfl,rfl⟩|⟨g,i,m,rfl,z,r,C,A,B,D⟩
 ·by_cases hm:s.size=0
  ·rw[q.2 ⟨rfl,hm⟩]at b
   simp[Value.ownBlock]at b
  ·have a:=run_append_nil_string (P:=Tryz.prog) w 108 9 c 5 h (.int .u8 0) Tryz.underlying108 Tryz.underlying9 d j s (by omega) (by omega) (by rw[l];omega)
   rw[e]at a;simp only[KG]at a;rw[a.1]at b;simp[Value.ownBlock]at b;exact .inr (by omega)
 ·by_cases hroom:n+s.size<=i
  ·have a:=Lib.run_append_room_string (P:=Tryz.prog) w 108 9 c 5 h Tryz.underlying108 Tryz.underlying9 d k g n i m r s hroom (by omega)
   rw[e]at a;simp only[KG]at a;rw[a.1]at b;exact .inl (by simpa[Value.ownBlock] using b)
  ·have a:=Lib.run_append_grow_string (P:=Tryz.prog) w 108 9 c 5 h (.int .u8 0) Tryz.underlying108 Tryz.underlying9 d j ⟨g,0,none⟩ n i xs (by rw[k];simpa using u) (DC (w:=w) f (g:=g) rfl) s (by omega) (by omega) (by rw[l];exact JH (by omega) (by omega));rw[e]at a;simp only[KG]at a;rw[a.1]at b;simp[Value.ownBlock]at b;exact .inr (by omega)
theorem qIu{ops b o a Q}(w)(g:o.guard=none)(c x)(i:o.op=.call {callee:=.builtin .append,args:=#[c,x],argTypes:=#[108,9]})(v n xs)(l:a.eval c=v)(j:w.ownsRow 0 5 1 v n xs)(s)(m:a.eval x=.string s)(f:n+s.size<=1000000)(h:∀v' w',fB 5 1 v n xs (Lib.strCells s) s.size w v' w'->wpList Tryz.prog ops Q b (a.put o.dst v') w'):wpList Tryz.prog ops Q (o :: b) a w:=by
 refine EN g λK e=>?_;have⟨v',w',k,d⟩:=qGp w o.type v n xs j s f;unfold Oper.wp execOp;simp only[i,resolve,invoke,builtin,DY,DT,DF,DI,BD,CX,l,m,k];exact e _ _ (h v' w' d)
theorem Vp(b p v l s w)(h:Gb w b p v l)(A:p=.pointer none\/p=.p b 0)(I:l.length+s.size<=1000000):
  cL 100 #[.p b 0,.string s] w λe w'=>(∃r,e=.returned r)/\∃v',Gb w' b (.p b 0) v' (l++s.data.toList)/\Fr (fpB b v) w w'/\aJ w (fpB b v) (fpB b v'):=by
 obtain⟨g,i,rfl⟩:=aF h.row;have u:=qBh b p _ l w h A;go_enter Tryz.func100,Tryz.ntmps100;go_wp2_with (first
  |(go_at_call 140;(with_reducible refine jC u ?_);rintro e k ⟨rfl,d,t⟩;have C:k.c b 0=some (.p b 0):=(by simp[World.cell?,d.box]);have D:k.c b 1=some (.slice g l.length i):=(by simp[World.cell?,d.box]);have y:=aQ d.row d.box (by decide))
  |(at_builtin;refine qIu k rfl _ _ rfl _ _ _ rfl d.row s rfl (by omega) ?_;intro v' c m;have j:c.heap[b]?=some (.cells #[.p b 0,.slice g l.length i] 157):=m.fr.heap d.box y;have E:c.c b 0=some (.p b 0):=(by simp[World.cell?,j]);have G:c.c b 1=some (.slice g l.length i):=(by simp[World.cell?,j]);have H:c.frozen? ⟨b,1,none⟩=false:=aB j 1;have n:=m.row;have o:Hid (fB 5 1 (.slice g l.length i) l.length (Lib.byteCells l) (Lib.strCells s) s.size k v' c):=m;obtain⟨ao,q,rfl⟩:=aF n;clear m))
 go_ret2;have x:=aC j 1 (.slice ao (l.length+s.size) q);have z:=aQ n j (by decide);have F:Fr (fpB b (.slice g l.length i)) w c:=((t.mono (λf a=>.inl (.inl a))):Fr (fpB b (.slice g l.length i)) w k).trans (o.out.fr.mono (λf a=>.inl (.inr a)));refine⟨⟨_,rfl⟩,.slice ao (l.length+s.size) q,⟨by simpa using x,?_⟩,F.setCell (p:=⟨b,1,none⟩) (.inl (.inl rfl)) _,?_⟩
 ·have B:(l++s.data.toList).length=l.length+s.size:=by simp
  rw[B,Lib.byteCells_append,<-Lib.strCells_eq];exact aS n ((CJ (λf=>Value.ownBlock _=some f) c).setCell (p:=⟨b,1,none⟩) (λa=>z a) _) (λf a=>a)
 ·rintro f (rfl|a)
  ·exact .inl (.inl rfl)
  ·rcases o.out.lies f a with h|h
   ·exact .inl (.inr h)
   ·exact .inr (vJ t.size h)
theorem Fr.freeze{Y a w}(h:Fr Y a w){p}(b:Y p.block\/a.heap.size<=p.block)(n):Fr Y a (w.freeze p n):=by
 unfold World.freeze;split
 ·exact h
 ·refine⟨h.os,h.tape,h.output,by simpa using h.size,λd f c=>?_⟩
  show(w.heap.modify _ _)[d]?=_
  rw[JZ,AQ (λe=>by subst e;rcases b with b|b;exact c b;omega)];exact h.block d f c
theorem Rl(b p v l w)(h:Gb w b p v l)(d:l≠[])(C:l.length<=1000000):
  cL 101 #[.p b 0] w λe w'=>e=.returned (.string ⟨l.toArray⟩)/\Fr (λk=>v.ownBlock=some k) w w':=by
 have m:l.length≠0:=by simpa using d
 have f:=h.row;obtain⟨g,a,c,rfl,z,i,D,A,B,E⟩:∃g a c,v=.q g l.length a/\0<=g/\w.heap[g]?=some (.cells c 5 (0,0))/\l.length<=a/\a<=maxLen/\c.size=a * 1/\c.toList.take (l.length * 1)=Lib.byteCells l:=by
  rcases f.2 with⟨_,q⟩|⟨g,a,c,n,r⟩
  ·exact absurd q m
  ·exact⟨g,a,c,n,r⟩
 have u:w.drew.cell? ⟨b,1,none⟩=some (.q g l.length a):=by
  have:w.drew.heap[b]?=some (.cells #[p,.q g l.length a] 157 (0,0)):=h.box;simp[World.cell?,this]
 have x:(Builtin.unsafeSliceData_ #[108] 187 #[.q g l.length a]).run Tryz.prog w.drew=.ok (.p g 0) w.drew :=
  Lib.run_unsafeSliceData_row _ _ _ _ _ _ (by omega)
 have y:(Builtin.unsafeString_ #[187,3] 9 #[.p g 0,.i l.length]).run Tryz.prog w.drew=.ok (.string ⟨l.toArray⟩) (w.drew.freeze ⟨g,0,none⟩ l.length):=by
  apply Lib.run_unsafeString_row w.drew 187 3 9 5 Tryz.underlying187 (by kernel_rfl) g c.size (by have j:w.drew.heap[g]?=some (.cells c 5 (0,0)):=i;simp[World.shape?,j]) l d (by omega) (by omega);intro s t o;have:=DC (w:=w) f (g:=g) rfl s (.int .u8 t.toNat) (by simp[Lib.byteCells,o]);exact this
 have F:Tryz.prog.follows .mixedOrders=true:=by kernel_rfl
 go_enter Tryz.func101,Tryz.ntmps101;go_wp2;go_region_o
 all_goals (go_wp2;go_ret;exact⟨rfl,Fr.freeze (Y:=λk=>(Value.q g l.length a).ownBlock=some k) (AF _ w).drew (p:=⟨g,0,none⟩) (.inl rfl) _⟩)
open Go.Shelf
attribute [local go_sem] CM
theorem vE{fs}:∀(a:List (Nat×Pg)) (p r:Nat),fA fs p r a->(eT a).length=r
 |[],_,_,h=>h.symm
 |x :: l,p,r,h=>by
  have⟨_,e,_,_,f,d,_,_,b⟩:=h;have:=vE l d _ b;rw[eT,AJ,jK];rw[eT]at this;rw[this];have c:x.2.data.data.toList.length=x.2.data.size:=by simp
  rw[c];omega
theorem Ao(a x):eT (a++[x])=eT a++x.2.data.data.toList:=by simp[eT]
theorem Vo(a b):(eT a).length<=(eT (a++b)).length:=by simp[eT]
theorem qBv(β root a c b k v size w):
  cL 48 #[.agg (tA β root a c b),.agg #[.string k,.string v,.i size,.i 0]] w λe w'=>e=.returned (.string v)/\bW w w':=by
 have d:Hid (bW w ((w.alloc (.cells (tA β root a c b) 90)).alloc (.cells #[.string k,.string v,.i size,.i 0] 69))):=(bA _ _).alloc (by simp) _;go_enter Tryz.func48,Tryz.ntmps48;go_wp2;go_ret;exact⟨rfl,d⟩
theorem Se(β sv lv fs)(b9:(fs.life==0)=false)(root o t s k v size j u w)(E:aH w β sv lv fs)(bd:0<j)(a6:fA fs j size u)(c6:0<size)(c5:size<=400):
  Calls Tryz.prog 48 #[.agg (tA β root o t s),.agg #[.string k,.string v,.int .i64 size,.int .i64 j]] w λe w'=>e=.returned (.string ⟨(eT u).toArray⟩)/\Below w.heap.size w w':=by
 have c3:((j:Int)==0)=false:=by simp;omega
 have V:=vE u j size a6;have⟨m,K⟩:=nM ((w.alloc (.cells (tA β root o t s) 90)).alloc (.cells #[.string k,.string v,.i size,.i j] 69));have X:m.heap.size=w.heap.size+2:=by rw[<-K];simp
 have bh:m.heap[w.heap.size]?=some (.cells (tA β root o t s) 90):=K▸aI _ (aA w _);have a1:m.heap[w.heap.size+1]?=some (.cells #[.string k,.string v,.i size,.i j] 69):=by
  rw[<-K];have:=aA (w.alloc (.cells (tA β root o t s) 90)) (.cells #[.string k,.string v,.i size,.i j] 69);simpa using this
 have⟨f,C⟩:=nM (m.alloc (.cells #[.pointer none,.slice none 0 0] 157));have ap:f.heap[w.heap.size+2]?=some (.cells #[.pointer none,.slice none 0 0] 157):=by rw[<-X];exact C▸aA m _
 have bi:f.heap[w.heap.size]?=some (.cells (tA β root o t s) 90):=C▸aI _ bh;have aq:f.heap[w.heap.size+1]?=some (.cells #[.string k,.string v,.i size,.i j] 69):=C▸aI _ a1;have ah:f.heap.size=w.heap.size+3:=by rw[<-C];simp[X]
 have L:Below w.heap.size w f:=by rw[<-C,<-K];exact((bA _ _).alloc (by simp) _).alloc (by simp;omega) _
 have⟨bl,bm,bn,bo⟩:=iM a1;have⟨bp,bq,br,bs⟩:=iM aq;have⟨bv,bw,bx⟩:=eQ bi;have T:=Fj root β o t s k v size j f;have ak:Hid (m.heap.size=w.heap.size+2/\f.heap.size=w.heap.size+3):=⟨X,ah⟩;rw[ah]at T;refine(BK (n:=0)).1 (CN Tryz.func48 rfl trivial ?_ rfl);simp only[Tryz.ntmps48,jA,jB,jN,Nat.reduceAdd,Nat.reduceSub,jR,jO,jP,jT,jE,jF];gi_wp2_with (refine⟨trivial,rfl,?_⟩;gi_at_call 99;apply(BK.2 T).mono;clear T;rintro e G ⟨rfl,bj,af,b4⟩);have b5:Below f.heap.size f G:=b4
 have N:Fr Bl.none f G:=AA b5;have a0:=N.heap ap (λa=>a);have ci:=(gL af);let b:=w.heap.size+2;let Rc:Bl:=λk=>k=w.heap.size+3\/k=w.heap.size+3+1\/fpF β sv lv k;have b8:=Fi (w.heap.size+3+1) (w.heap.size+3) β sv lv fs root o t s k v size j u Rc G af bj ((E.on (vV L E.lies)).on (N.on (λk c=>⟨(E.on (vV L E.lies)).lies k c,λa=>a⟩))) b9 (.inr (.inl rfl)) (.inl rfl) (λk c=>.inr (.inr c)) (by omega) (.inr ⟨bd,a6⟩);let I:List (Nat×Pg)->Bl->World->Prop:=λd M W=>∃p h,Gb W b p h (eT d)/\(p=.pointer none\/p=.p b 0)/\(∀k,M k↔fpB b h k)/\(∀k,h.ownBlock=some k->w.heap.size<=k);have a7:=E.lies;refine fF (P:=Tryz.prog) (Has:=qGl) (Rd:=Rc) rfl (enters_of Tryz.func137 (by kernel_rfl) rfl) b8 (λx ao S W U=>by obtain⟨v,rfl,_⟩:=U;rfl) I (λ_ _ _ _=>False) ?_ (λ_ _ _ _ _ a=>a.elim) ?_ (λ_ _ _ _ a=>a.elim) (Bl.one b) ⟨.pointer none,.slice none 0 0,⟨a0,by simpa[eT,Lib.byteCells] using AL _ _ _ _⟩,.inl rfl,λk=>by simp[Bl.one,fpB,Value.ownBlock],by simp[Value.ownBlock]⟩ ?_ ?_ ?_ (λ_ _ _ _ _ _ _ _ _ a=>a.elim)
 ·intro d M A B ⟨p,h,⟨Q,R⟩,F,i,y⟩ a9
  exact⟨p,h,⟨a9.heap Q ((i _).2 (.inl rfl)),aS R a9 (λk c=>(i k).2 (.inr c))⟩,F,i,y⟩
 ·intro d M A ⟨p,h,⟨Q,R⟩,F,i,y⟩ k c
  rcases(i k).1 c with rfl|a
  ·exact(gL Q)
  ·exact aM R a
 ·rintro k (rfl|rfl|c)
  ·exact⟨λa=>by simp only[Bl.one,b]at a;omega,by omega⟩
  ·exact⟨λa=>by simp only[Bl.one,b]at a;omega,by omega⟩
  ·exact⟨λa=>by simp only[Bl.one,b]at a;have:=a7 k c;omega,by have:=a7 k c;omega⟩
 ·intro l d x ae ao S am W bg ⟨p,h,z,F,i,y⟩ U bz J b1 c1 ba a8 ⟨r,c4⟩
  obtain⟨cf,rfl,ac,aa,a2,ad,ab,a3,rfl,_⟩:=U;have⟨q,g⟩:=x;have c2:(eT d).length+g.data.size<=400:=by
   have au:=Vo (d++[(q,g)]) ae;have av:(eT (d++[(q,g)])).length=(eT d).length+g.data.size:=by rw[Ao,jK];simp
   have aw:d++[(q,g)]++ae=u:=by rw[bg];simp
   rw[aw,av,V]at au;omega
  have aj:Hid (eT (d++[(q,g)])=eT d++g.data.data.toList):=Ao d (q,g);have an:Fr Bl.none W (W.alloc (pgO g ac aa a2 ad ab a3)):=(AF _ W).alloc _;unfold iN;gi_wp2;refine⟨(AF _ W).alloc _,?_⟩;intro Y a5;have⟨c7,c8,c9,ca,cb,cc,cd,ce⟩:=bM (a5.heap (k:=W.heap.size) (aA W (pgO g ac aa a2 ad ab a3)) (DK ba));have O:=(an.mono (λ_ a=>a.elim)).trans a5.fr;have ax:Gb Y b p h (eT d):=⟨O.heap z.box (λa=>by simp only[Bl.one]at a;exact a8 ((i _).2 (.inl a.symm))),aS z.row (O.on (Z:=λk=>h.ownBlock=some k) (λk c=>⟨aM z.row c,λa=>by simp only[Bl.one]at a;subst a;exact a8 ((i _).2 (.inr c))⟩)) (λk c=>c)⟩;have ch:=O.size;gi_wp2_with (refine⟨trivial,rfl,?_⟩;gi_at_call 100;apply(BK.2 (Vp b p h (eT d) g.data Y ax F (by omega))).mono;rintro e al ⟨⟨cg,rfl⟩,ag,ay,H,a4⟩);refine⟨fpB b ag,⟨_,ag,by rw[aj.out];exact ay,.inr rfl,λk=>EP,?_⟩,H.mono (λk c=>.inl ((i k).2 c)),λk c=>(a4 k c).imp (λa=>(i k).2 a) id⟩;intro k c;rcases a4 k (.inr c) with(rfl|a)|a
  ·show w.heap.size<=w.heap.size+2;omega
  ·exact y k a
  ·have:=J.size;omega
 ·intro D am W az c0 ⟨p,h,z,F,i,y⟩ J b1 b0
  gi_wp2_with (refine⟨trivial,rfl,?_⟩;gi_at_call 101;apply(BK.2 (Rl b p h (eT u) W z (λa=>by rw[a]at V;simp at V;omega) (by omega))).mono;rintro e al ⟨rfl,H⟩);have bc:=((FJ w.heap.size G).cons (λD' _ a=>J.heap a (λe=>by simp only[Bl.one,b]at e;subst e;rw[a0]at a;simp at a)) (by omega) b0 az).on (λD' _ a=>H.heap a (λc=>by
   rcases z.row.2 with⟨ar,_⟩|⟨g,bt,bu,bf,_,b7,_⟩
   ·rw[ar]at c;simp[Value.ownBlock]at c
   ·rw[bf]at c
    simp[Value.ownBlock]at c;subst c;rw[b7]at a;simp at a))
  apply Pz rfl bc;intro w' be;exact⟨rfl,(((((AA L:Fr Bl.none w f).trans N).grow J (λk c=>.inr (by simp only[Bl.one,b]at c;omega))).grow H (λk c=>.inr (y k c))).took be (jU _)).below0⟩
theorem Cd(β sv lv fs)(o:(fs.life==0)=false)(root b d c)(X:En)(w)(n:aH w β sv lv fs)(m:X.ok fs)(h:X.e.over≠0->X.e.size≠0):
  cL 48 #[.agg (tA β root b d c),.agg #[.string X.e.key,.string X.e.val,.i X.e.size,.i X.e.over]] w λe w'=>e=.returned (.string ⟨X.value.toArray⟩)/\bW w w':=by
 have⟨q,p,g,a,i,j⟩:=m;rcases j with⟨rfl,_⟩|⟨k,l⟩
 ·have f:(⟨X.value.toArray⟩:ByteArray)=X.e.val:=by
   unfold En.value;rw[AW (by rw[a];rfl)]
  rw[f,a];exact qBv β root b d c X.e.key X.e.val X.e.size w
 ·have f:X.value=eT X.ch:=by
   unfold En.value;rw[AQ (by rw[a];omega)]
  rw[f,g,a];exact Se β sv lv fs o root b d c X.e.key X.e.val q p X.ch w n k l (by have:=h (by rw[a];omega);rw[g]at this;omega) i
