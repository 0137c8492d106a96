import Derived.Test.YtdhgdcjmhofhaaaGreatD16
import Derived.Test.YtdhgdcjmhofhaaaGreatD40
import Derived.Test.YtdhgdcjmhofhaaaGreatD29
set_option linter.all false
set_option maxRecDepth 100000
set_option maxHeartbeats 8000000
namespace Go.Proofs.YtdhgdcjmhofhaaaGreat.Tree
open Go.RowKit Go.Shelf Pages
variable {P:Program} {Q:Exit->Act->World->Prop} {S:World->Prop} {a:Act} {i n s:Nat} {md:Region.Mode} {ops:Array Oper} {v:Value} {w:World}
attribute [local go_sem] CM
theorem qD {s i j o o' L}(g:Region.ready md ops L=[i,j])(l:ops[i]?=some o)(m:ops[j]?=some o')(h:∀K':Act->World->Prop,Go.Shut (∀a w,((L.setIfInBounds i true).getD s true=false->S w)->oG P md ops Q S s n (L.setIfInBounds i true) a w->K' a w)->if Region.wanted o (yielded ops a.tmps)=true then Oper.wp P o a w K' Q else K' (a.put o.dst undef) w)(k:∀K':Act->World->Prop,Go.Shut (∀a w,((L.setIfInBounds j true).getD s true=false->S w)->oG P md ops Q S s n (L.setIfInBounds j true) a w->K' a w)->if Region.wanted o' (yielded ops a.tmps)=true then Oper.wp P o' a w K' Q else K' (a.put o'.dst undef) w):oG P md ops Q S s (n+1) L a w:=by
 refine⟨λf=>(by rw[g]at f;cases f),λp e=>?_⟩;rw[g]at e;simp only[AR,FC,KI]at e;rcases e with rfl|rfl
 ·exact wpOp_step l (λK' b=>h K' (λa w c d=>b a w ⟨c,d⟩))
 ·exact wpOp_step m (λK' b=>k K' (λa w c d=>b a w ⟨c,d⟩))
theorem Fx {g}(hi:ops[i]?=some g)(m:∀(j:Nat) (o:Oper) cs b,ops[j]?=some o->o.op≠.select cs b)(r:∀c a w,Q (.panic c) (a.put g.dst v) w->Q (.panic c) a w)(h:i≠s):
  ∀(n:Nat) (L:Array Bool) (a:Act) (w:World),(∀j f,ops[j]?=some f->j≠i->L.getD j true=false->(∀e∈f.after,Region.binds md e=true->e.on≠i)->g.apart ops f=true)->i∈Region.ready md ops L->YieldsIf P ops (λ_=>True) g v a->(L.getD s true=false->S w)->oG P md ops Q S s n (L.setIfInBounds i true) (a.put g.dst v) w->oG P md ops Q S s (n+1) L a w
 |0,L,a,w,_,hr,hy,hS,H=>by
  refine⟨λd=>(by rw[d]at hr;cases hr),λj k=>?_⟩;by_cases e:j=i
  ·subst e;exact hy.wpOp hi trivial ⟨λd=>hS (by rwa[JR true h]at d),H⟩
  ·have:=GW k e
   rw[H.1]at this;cases this
 |n+1,L,a,w,hf,hr,hy,hS,H=>by
  refine⟨λd=>(by rw[d]at hr;cases hr),λj k=>?_⟩;by_cases e:j=i
  ·subst e;exact hy.wpOp hi trivial ⟨λd=>hS (by rwa[JR true h]at d),H⟩
  ·have⟨u,f,l,A⟩:=GV.1 k
   have F:∀e∈f.after,Region.binds md e=true->e.on≠i:=λe C B D=>vF (GV.1 hr).1 (D▸A e C B);refine wpOp_mono (λy w' p=>?_) (wpOp_putIf l (hf j f l e u F) (λcs b=>m i g cs b hi) (λcs b=>m j f cs b l) r hy (H.2 j (GW k e)));have t:(L.setIfInBounds j true).getD s true=false->S w':=λd=>p.2.1 (by rw[FZ _ _ (Ne.symm e),JR true h];exact d);refine⟨t,Fx hi m r h n (L.setIfInBounds j true) y w' (λq J G I x E=>hf q J G I ?_ E) (GW hr (Ne.symm e)) p.1 t ?_⟩
   ·by_cases hjq:j=q
    ·subst hjq;exact u
    ·rw[JR true hjq]at x;exact x
   ·rw[FZ _ _ e];exact p.2.2
theorem yM {b L}(hi:ops[i]?=some b)(e:(Region.noSelect ops&&Region.free md ops L i&&(Region.ready md ops L).contains i&&decide (i≠s))=true)(l:∀c a w,Q (.panic c) (a.put b.dst v) w->Q (.panic c) a w)(m:YieldsIf P ops (λ_=>True) b v a)(d:S w)(h:S w->oG P md ops Q S s n (L.setIfInBounds i true) (a.put b.dst v) w):oG P md ops Q S s (n+1) L a w:=by
 simp only[AN,BQ]at e;have⟨⟨⟨f,g⟩,j⟩,k⟩:=e;exact Fx hi (KQ f) l k n L a w (LR hi g) (by simpa using j) m (λ_=>d) (h d)
theorem kL {n l id}(s)(c:P.follows .mixedOrders=true)(d:mM ops=true)(b:∀a w,¬Q .outgrown a w)(h:oG P .any ops Q S s ops.size (Array.replicate ops.size false) a w.drew):(Code.region id ops true).wpIn (Fence.wide.inRound l) n P Q a w :=
 wpIn_region_any c (uI d b _ _ _ _ h.any)
theorem Zh {e z xs}(h:w.ownsRow 0 e z v n xs):∃a c,v=.slice a n c/\n<=c/\aD w (λk=>v.ownBlock=some k) a xs:=by
 obtain⟨a,c,rfl⟩:=aF h;have i:=h;have⟨j,l⟩:=h;rcases l with⟨b,m⟩|⟨g,q,r,b,t,y,o,u,x,A⟩
 ·simp only[AP]at b
  refine⟨a,c,rfl,by omega,.inl ?_⟩;have:xs.length=0:=by rw[j,m];simp
  exact AG this
 ·simp only[AP,CT]at b
  obtain⟨rfl,rfl⟩:=b;refine⟨_,c,rfl,o,.inr ⟨g,0,rfl,rfl,λB C p=>?_⟩⟩;have⟨s,d,_,_,f⟩:=kP i p;simp only[AX,CA,DA]at d;subst d;simpa using f
abbrev dZ(x:T×Sp):MN:=⟨x.2.lo,x.2.hi,x.1.place,none,0,0,none,0,0⟩
abbrev Ta(w:World)(g k:Nat)(m:MN):World:=((((w.setCell ⟨g,k,none⟩ (.string m.lo)).setCell ⟨g,k+1,none⟩ (.string m.hi)).setCell ⟨g,k+2,none⟩ (.int .i64 m.place)).setCell ⟨g,k+3,none⟩ (.slice m.ea m.en m.ec)).setCell ⟨g,k+4,none⟩ (.slice m.ka m.kn m.kc)
theorem qP(w g k m):Fr (Bl.one g) w (Ta w g k m):=
 (((((AF (Bl.one g) w).setCell (p:=⟨g,k,none⟩) (.inl rfl) _).setCell (p:=⟨g,k+1,none⟩) (.inl rfl) _).setCell (p:=⟨g,k+2,none⟩) (.inl rfl) _).setCell (p:=⟨g,k+3,none⟩) (.inl rfl) _).setCell (p:=⟨g,k+4,none⟩) (.inl rfl) _
theorem Ko(β sv lv fs)(dz:(fs.life==0)=false)(root a7 a9 a8)(m:MN)(fu:((m.place:Int)==0)=false)(h ks k w)(aj:aU fs (h+1) (.branch m.place ks k) ⟨m.lo,m.hi⟩)(c7:aH w β sv lv fs):
  cL 219 #[.agg (tA β root a7 a9 a8),.agg #[.string m.lo,.string m.hi,.i m.place,.slice m.ea m.en m.ec,.slice m.ka m.kn m.kc]] w λe w' =>
   ∃y z a3 a4,e=.returned (.agg #[.string m.lo,.string m.hi,.i 0,.slice y 0 z,.slice a3 k.length a4])/\aD w' (New w w') a3 (aL ((parts ⟨m.lo,m.hi⟩ ks k).map dZ))/\k.length<=a4/\bW w w':=by
 obtain⟨g,bb,bd,ah,be,e1,⟨dt,dk,dl⟩,fn⟩:=aj
 obtain⟨u,ae,am,eu,co,bl,ex⟩:=al3 w (.cells (tA β root a7 a9 a8) 90) m.obj Kn
 obtain⟨gw,gx,gy⟩:=eQ eu
 obtain⟨gl,gm,gn,gp,gq⟩:=cU co
 have dy:aH u β sv lv fs:=c7.on (vV am c7.lies)
 obtain⟨cs,ct,et⟩:=gB bb
 have c4:=oM β sv lv fs root a7 a9 a8 m.place ⟨m.lo,m.hi⟩ g u dy dz bb (by simp[bd]) (by rw[ah];exact dt) (by simp only[ah];exact dk) (by simp only[ah];exact dl) cs et
 have d3:Hid (g.keys=ks):=ah
 have d2:Hid (g.kids=k.map (λL=>(L.place:Int))):=be
 have d1:Hid (g.ents.length=0):=by rw[pN bb bd];exact rfl
 have fq:k.length<=1000:=by have:=ct;rw[be,AE]at this;exact this
 clear bd ah be e1
 refine(BK (n:=0)).1 (CN Tryz.func219 rfl trivial ?_ rfl)
 simp only[Tryz.ntmps219,jA,jB,jN,Nat.reduceAdd,Nat.reduceSub,jR,jO,jP,jT,jE,jF]
 gi_wp2_with (first
  |(refine⟨trivial,rfl,?_⟩;gi_at_call 144;refine(BK.2 c4).mono ?_;clear c4;rintro e H ⟨h5,rfl,⟨a3,b0,y,a4,b1,z,rfl,cl,cm,el,bk⟩,ba⟩;obtain⟨d,b8,-,bn,-⟩:=al1 H (pgO g a3 b0 y a4 b1 z);obtain⟨g8,g9,ga,gb,gc,gd,gi,gj⟩:=bM bn;have bv:Fr Bl.none u d:=(AA ba).trans (b8▸(AF _ H).alloc _);have cp:=bv.heap co (λh=>h);obtain⟨gr,gs,gt,gu,gv⟩:=cU cp;have cq:=aI (.cells #[.string m.lo,.string m.hi,.int .i64 0,.slice y g.ents.length z,.n] 242) cp;obtain⟨eo,ep,eq,er,es⟩:=cU cq;have cu:=aI (.cells #[.string m.lo,.string m.hi,.int .i64 0,.slice y g.ents.length z,.n] 242) bn;obtain⟨e7,e8,e9,ea,eb,ec,ed,ee⟩:=bM cu;have c3:=mZ g ⟨m.lo,m.hi⟩ a3 b0 y a4 b1 z (d.alloc (.cells #[.string m.lo,.string m.hi,.int .i64 0,.slice y g.ents.length z,.n] 242)))
  |(refine⟨trivial,rfl,?_⟩;gi_at_call 145;refine(BK.2 c3).mono ?_;clear c3;rintro e M ⟨rfl,bp,b3,aw⟩))
 clear eo ep eq er es e7 e8 e9 ea eb ec ed ee
 obtain⟨a0,af,-,cv,ez⟩:=al1 d (.cells #[.string m.lo,.string m.hi,.int .i64 0,.slice y g.ents.length z,.n] 242)
 rw[af]at bp b3 aw cq cu
 have ds:Fr Bl.none u a0:=bv.trans (af▸(AF _ d).alloc _)
 rw[ez]at bp b3
 have ar:Fr Bl.none u M:=ds.trans (AA aw)
 have hj:H.heap.size<d.heap.size:=(gL bn)
 have ey:d.heap.size<a0.heap.size:=(gL cv)
 have hi:=ba.size
 have hk:d.heap.size+1+1<M.heap.size:=(gL b3)
 have cj:On (New u H) H M:=((b8▸(CJ _ H).alloc (λb c=>c.2) _:On (New u H) H d).trans (af▸(CJ _ d).alloc (λb c=>by have:=c.2;omega) _:On (New u H) d a0)).trans (vV aw (λb c=>by have:=c.2;omega))
 let Rd:Bl:=λb=>b=d.heap.size+1\/b=d.heap.size+1+1\/New u H b
 have e4:=mY (d.heap.size+1+1) (d.heap.size+1) ⟨m.lo,m.hi⟩ g.kind g.ver g.root g.next a3 b0 y a4 b1 g.ents.length z g.data g.keys g.kids Rd M b3 bp ((cl.on cj).mono (λb c=>.inr (.inr c))) ((cm.on cj).mono (λb c=>.inr (.inr c))) (.inr (.inl rfl)) (.inl rfl) cs ct bk.1 bk.2.1
 have cf:parts ⟨m.lo,m.hi⟩ g.keys g.kids=(parts ⟨m.lo,m.hi⟩ ks k).map (λR=>((R.1.place:Int),R.2)):=by rw[d3.out,d2.out,mR]
 have b5:Hid (parts ⟨m.lo,m.hi⟩ g.keys g.kids=(parts ⟨m.lo,m.hi⟩ ks k).map (λR=>((R.1.place:Int),R.2))):=cf
 clear cf cl cm el bk
 have bs:Hid (u.heap.size=w.heap.size+3):=ex
 let NB:=d.heap.size
 let NO:Value->Obj:=λv=>.cells #[.string m.lo,.string m.hi,.int .i64 0,.slice y g.ents.length z,v] 242
 have cw:=(aw.block _ ey).trans cv
 let I:List (Int×Sp)->Bl->World->Prop:=λt Y W=>∃v,W.heap[NB]?=some (NO v)/\W.ownsRow 0 242 5 v t.length (aL (((parts ⟨m.lo,m.hi⟩ ks k).take t.length).map dZ))/\(∀b,v.ownBlock=some b->M.heap.size<=b)/\(∀b,Y b↔b=NB\/v.ownBlock=some b)
 refine fF (P:=Tryz.prog) (Has:=rI) (Rd:=Rd) rfl (enters_of Tryz.func167 (by kernel_rfl) rfl) e4 (λR bu S W b7=>by rw[b7];rfl) I (λ_ _ _ _=>False) ?_ (λ_ _ _ _ _ h=>h.elim) ?_ (λ_ _ _ _ h=>h.elim) (Bl.one NB) ⟨.n,cw,by simpa[aL] using AL _ _ _ _,by simp[Value.ownBlock],λb=>by simp[Bl.one,Value.ownBlock]⟩ ?_ ?_ ?_ (λ_ _ _ _ _ _ _ _ _ h=>h.elim)
 ·rintro t Y A B ⟨v,U,ac,au,V⟩ cb
  exact⟨v,cb.heap U ((V _).2 (.inl rfl)),aS ac cb (λb c=>(V b).2 (.inr c)),au,V⟩
 ·rintro t Y A ⟨v,U,ac,au,V⟩ b c
  rcases(V b).1 c with rfl|h
  ·exact(gL U)
  ·exact aM ac h
 ·rintro b (rfl|rfl|c)
  ·exact⟨λh=>by simp only[Bl.one,NB]at h;omega,by omega⟩
  ·exact⟨λh=>by simp only[Bl.one,NB]at h;omega,by omega⟩
  ·exact⟨λh=>by simp only[Bl.one,NB]at h;have:=c.2;omega,by have:=c.2;omega⟩
 ·
  rintro l t R gk bu f3 ap W bi ⟨v,ab,Q,ai,a1⟩ b7 fl aa dw fr ft e0 ⟨r,fv⟩
  have bc:t.length<k.length:=by
   have:=BZ List.length bi
   rw[b5.out]at this
   simp[cI]at this
   omega
  obtain⟨s,c9⟩:=nM (k[t.length]'bc)
  obtain⟨f,cd⟩:=nM ((⟨kV ⟨m.lo,m.hi⟩ ks t.length,pF ⟨m.lo,m.hi⟩ ks t.length⟩:Sp))
  have ay:=fH ⟨m.lo,m.hi⟩ ks k t.length bc
  rw[c9,cd]at ay
  have e6:R=((s.place:Int),f):=by
   have U:(parts ⟨m.lo,m.hi⟩ g.keys g.kids)[t.length]?=some R:=by rw[bi];simp
   rw[b5.out,BN,ay]at U
   simpa using U.symm
  have da:Hid (((parts ⟨m.lo,m.hi⟩ ks k).take (t.length+1)).map dZ=((parts ⟨m.lo,m.hi⟩ ks k).take t.length).map dZ++[dZ (s,f)]):=by
   show _=_
   rw[nG ay,BM];rfl
  obtain⟨G,ax⟩:=nM (((parts ⟨m.lo,m.hi⟩ ks k).take t.length).map dZ)
  have d5:Hid (((parts ⟨m.lo,m.hi⟩ ks k).take t.length).map dZ=G):=ax
  rw[ax]at Q
  have bf:t.length=G.length:=by rw[<-ax,AE,AZ,cI];omega
  subst e6
  have dx:bu=#[.int .i64 s.place,.agg #[.string f.lo,.string f.hi]]:=b7
  subst dx
  obtain⟨n,bg⟩:=nM (t.length)
  have d6:Hid (t.length=n):=bg
  rw[bg]at Q bf bc
  have f1:M.heap.size<=W.heap.size:=aa.size
  have f0:d.heap.size<W.heap.size:=(gL ab)
  have hm:w.heap.size<=W.heap.size:=by have:=am.size;have:=ar.size;omega
  have d4:Hid (n=G.length):=bf
  clear c9 cd ay bi ax bg bf
  unfold iN
  gi_wp2
  refine⟨(AF _ W).alloc _,?_⟩
  intro E c5
  have dg:Fr Bl.none W (W.alloc (.cells #[.string f.lo,.string f.hi] 154)):=(AF _ W).alloc _
  have ak:=c5.heap (aA W (.cells #[.string f.lo,.string f.hi] 154)) (by omega)
  have bz:Fr (Bl.one l) W E:=(dg.mono (λ_ h=>h.elim)).trans c5.fr
  have hg:=bz.size
  have hh:W.heap.size<E.heap.size:=(gL ak)
  have ck:On ap W E:=bz.on (λb c=>⟨by rcases(a1 b).1 c with rfl|h;exact f0;exact aM Q h,λe=>by simp only[Bl.one]at e;subst e;exact e0 c⟩)
  have b9:E.heap[NB]?=some (NO v):=ck.heap ab ((a1 _).2 (.inl rfl))
  have bh:=aS Q ck (λb c=>(a1 b).2 (.inr c))
  obtain⟨o,q,rfl⟩:=aF bh
  obtain⟨dm,dn⟩:=bS ak
  obtain⟨ef,eg,eh,ei,ch⟩:=cU b9
  have b4:Hid (∀a6 v',a6.heap[NB]?=some (NO v')->a6.ownsRow 0 242 5 v' (n+1) (aL (G++[dZ (s,f)]))->Fr (λb=>b=NB\/(Value.slice o n q).ownBlock=some b) E a6->(∀b,v'.ownBlock=some b->(Value.slice o n q).ownBlock=some b\/E.heap.size<=b)->∃bt,I (t++[((s.place:Int),f)]) bt a6/\Fr ap E a6/\aJ E ap bt):=by
   intro a6 v' U ac au V
   refine⟨λb=>b=NB\/v'.ownBlock=some b,⟨v',U,?_,λb c=>?_,λb=>EP⟩,au.mono (λb c=>.inl ((a1 b).2 c)),?_⟩
   ·rw[jK,AM,da.out,d5.out,d6.out];exact ac
   ·rcases V b c with h|h
    ·exact ai b h
    ·omega
   ·rintro b (c|c)
    ·exact .inl ((a1 b).2 (.inl c))
    ·exact(V b c).imp (λh=>(a1 b).2 (.inr h)) id
  gi_wp2
  have av:=(show(λX:World=>X.cell? ⟨W.heap.size,0,none⟩=some (.string f.lo)/\X.cell? ⟨W.heap.size,1,none⟩=some (.string f.hi)/\X.cell? ⟨d.heap.size,4,none⟩=some (.slice o n q)) E.drew from ⟨dm,dn,ch⟩)
  refine kL (S:=λX=>X.cell? ⟨W.heap.size,0,none⟩=some (.string f.lo)/\X.cell? ⟨W.heap.size,1,none⟩=some (.string f.hi)/\X.cell? ⟨d.heap.size,4,none⟩=some (.slice o n q)) 11 (by kernel_rfl) (by kernel_rfl) (λ_ _ h=>h) ?_
  refine tks [(0,.pointer (some ⟨d.heap.size,4,none⟩)),(1,.slice o n q),(2,.agg #[.string f.lo,.string f.hi]),(3,.int .i64 s.place),(4,.agg #[.string f.lo,.string f.hi,.int .i64 s.place,.n,.n]),(5,.int .i64 n)] (by assumption) ?_
  iterate 6 (refine⟨_,rfl,by kernel_rfl,λ_ _ _ h=>h,.inl ⟨by rfl,λw ad=>by(try dsimp only at ad);go_simp⟩,?_⟩;try simp only[pS])
  refine tke ?_
  have ev:=aI (.cells #[.string ⟨#[]⟩,.string ⟨#[]⟩,.int .i64 0,.n,.n] 242) ak
  obtain⟨dq,dr⟩:=bS ev
  have ej:=(cU (aI (.cells #[.string ⟨#[]⟩,.string ⟨#[]⟩,.int .i64 0,.n,.n] 242) b9)).2.2.2.2
  refine aR (i:=6) (by kernel_rfl) rfl (λK C=>?_)
  go_simp
  refine C.out _ _ (λ_=>⟨dq,dr,ej⟩) ?_
  clear C K
  try simp only[pS]
  refine aR (i:=7) (by kernel_rfl) rfl (λK C=>?_)
  refine iO E.drew rfl (.tmp 31) (.tmp 36) 239 242 _ 5 88 rfl Tryz.underlying239 iF rfl (by decide) (.slice o n q) n (aL G) (by simp[Act.eval,Act.put]) bh [.string ⟨#[]⟩,.string ⟨#[]⟩,.int .i64 0,.n,.n] (by simp[Act.eval,Act.put]) rfl (by simp[Value.oneCell']) (by omega) (by omega) ?_
  intro h4 F al
  obtain⟨x,a2,rfl⟩:=al.shape (by decide)
  have J:fB 242 5 (.slice o n q) n (aL G) [.string ⟨#[]⟩,.string ⟨#[]⟩,.int .i64 0,.n,.n] 1 E (.q x (n+1) a2) F:=⟨al.row,(AF _ E).drew.trans al.fr,al.lies⟩
  have bo:=J.fr.heap ak (aQ bh ak (by decide))
  obtain⟨c1,c2⟩:=bS bo
  have aq:F.heap[d.heap.size]?=some (NO (.slice o n q)):=J.fr.heap b9 (λe=>by have:=ai _ e;omega)
  obtain⟨ge,gf,gg,gh,cg⟩:=cU aq
  have bj:x≠d.heap.size:=λe=>by
   rcases J.lies x rfl with h|h
   ·have:=ai _ h;omega
   ·omega
  have ek:x≠W.heap.size:=λe=>aQ J.row bo (by decide) (by rw[e];rfl)
  have ff:=aB aq
  have c8:(aL G).length=n * 5:=by rw[iD,<-d4.out]
  have bl:=vY J.row (n * 5) c8 (dZ (s,f))
  have c6:aL (G++[dZ (s,f)])=aL G++(dZ (s,f)).cells:=by rw[gS];simp[aL]
  have br:Hid (aL (G++[dZ (s,f)])=aL G++(dZ (s,f)).cells):=c6
  have N:∀L,L<(n+1) * 5->(F.cell? ⟨x,L,none⟩).isSome=true/\F.frozen? ⟨x,L,none⟩=false:=λL aj=>eH J.row L aj
  have fp:(n:Int)<(n:Int)+1:=by omega
  have av:=(show(λX:World=>X.cell? ⟨W.heap.size,0,none⟩=some (.string f.lo)/\X.cell? ⟨W.heap.size,1,none⟩=some (.string f.hi)/\X.cell? ⟨d.heap.size,4,none⟩=some (.slice o n q)) F from ⟨c1,c2,cg⟩)
  refine C.out _ _ (λ_=>⟨c1,c2,cg⟩) ?_
  clear C K c6
  try simp only[pS]
  refine yM (i:=8) (v:=.pointer (some ⟨x,n * 5,none⟩)) rfl (by kernel_rfl) (λ_ _ _ h=>h) (.inl ⟨by rfl,λw ad=>by(try dsimp only at ad);go_simp⟩) (by assumption) (λav=>?_)
  try simp only[pS]
  refine yM (i:=10) (v:=.pointer (some ⟨d.heap.size,4,none⟩)) rfl (by kernel_rfl) (λ_ _ _ h=>h) (.inl ⟨by rfl,λw ad=>by(try dsimp only at ad);go_simp⟩) (by assumption) (λav=>?_)
  try simp only[pS]
  obtain⟨gz,fx⟩:=BE.1 (N (n * 5) (by omega)).1
  obtain⟨h0,fy⟩:=BE.1 (N (n * 5+1) (by omega)).1
  obtain⟨h1,fz⟩:=BE.1 (N (n * 5+2) (by omega)).1
  obtain⟨h2,g0⟩:=BE.1 (N (n * 5+3) (by omega)).1
  obtain⟨h3,g1⟩:=BE.1 (N (n * 5+4) (by omega)).1
  have fg:=(N (n * 5) (by omega)).2
  have fh:=(N (n * 5+1) (by omega)).2
  have fi:=(N (n * 5+2) (by omega)).2
  have fj:=(N (n * 5+3) (by omega)).2
  have fk:=(N (n * 5+4) (by omega)).2
  have bm:=qP F x (n * 5) (dZ (s,f))
  have b6:=bm.heap aq (λe=>bj (by simp only[Bl.one]at e;exact e.symm))
  obtain⟨f4,f5,f6,f7,dd⟩:=cU b6
  obtain⟨de,df⟩:=bS (bm.heap bo (λe=>ek (by simp only[Bl.one]at e;exact e.symm)))
  have fe:=aB b6
  have dh:=aC b6 4 (.q x (n+1) a2)
  have bw:Fr (Bl.one d.heap.size) (Ta F x (n * 5) (dZ (s,f))) ((Ta F x (n * 5) (dZ (s,f))).setCell ⟨d.heap.size,4,none⟩ (.q x (n+1) a2)):=(AF (Bl.one d.heap.size) _).setCell (p:=⟨d.heap.size,4,none⟩) (.inl rfl) _
  have ci:∀b,(Value.q x (n+1) a2).ownBlock=some b->¬Bl.one d.heap.size b:=λb c e=>by
   simp only[Bl.one]at e;subst e;exact bj (by simpa[Value.ownBlock] using c)
  have em:=eF bl bw ci
  have di:=aC aq 4 (.q x (n+1) a2)
  have bx:Fr (Bl.one d.heap.size) F (F.setCell ⟨d.heap.size,4,none⟩ (.q x (n+1) a2)):=(AF (Bl.one d.heap.size) F).setCell (p:=⟨d.heap.size,4,none⟩) (.inl rfl) _
  have cn:=eF J.row bx ci
  have en:=vY cn (n * 5) c8 (dZ (s,f))
  have cr:=qP (F.setCell ⟨d.heap.size,4,none⟩ (.q x (n+1) a2)) x (n * 5) (dZ (s,f))
  have dj:=cr.heap di (λe=>bj (by simp only[Bl.one]at e;exact e.symm))
  have O:∀L,L<(n+1) * 5->_:=λL aj=>eH cn L aj
  have c0:∀b,Bl.one x b->(b=NB\/(Value.slice o n q).ownBlock=some b)\/E.heap.size<=b:=λb c=>by
   simp only[Bl.one]at c;subst c
   exact(J.lies _ rfl).imp (λh=>.inr h) id
  have bq:Fr (λb=>b=NB\/(Value.slice o n q).ownBlock=some b) E F:=J.fr.mono (λb c=>.inl (.inr c))
  have cz:=(bq.grow bm c0).grow bw (λb c=>.inl (.inl c))
  have d0:=(bq.grow bx (λb c=>.inl (.inl c))).grow cr c0
  have d7:=b4.out _ _ (by simpa using dh) (by rw[br.out];exact em) cz J.lies
  have d8:=b4.out _ _ (by simpa using dj) (by rw[br.out];exact en) d0 J.lies
  clear b4 av
  refine qD (i:=9) (j:=11) (by kernel_rfl) rfl rfl (λK C=>?_) (λK C=>?_)
  ·go_simp
   refine C.out _ _ (λ_=>⟨de,df,dd⟩) ?_
   clear C K
   try simp only[pS]
   refine aR (i:=11) (by kernel_rfl) rfl (λK C=>?_)
   go_simp
   refine C.out _ _ (λe=>by cases e) ?_
   clear C K
   refine cY (by kernel_rfl) ?_ _
   gi_wp2
   exact d7
  ·go_simp
   obtain⟨h6,g2⟩:=BE.1 (O (n * 5) (by omega)).1
   obtain⟨h7,g3⟩:=BE.1 (O (n * 5+1) (by omega)).1
   obtain⟨h8,g4⟩:=BE.1 (O (n * 5+2) (by omega)).1
   obtain⟨h9,g5⟩:=BE.1 (O (n * 5+3) (by omega)).1
   obtain⟨ha,g6⟩:=BE.1 (O (n * 5+4) (by omega)).1
   have hb:=(O (n * 5) (by omega)).2
   have hc:=(O (n * 5+1) (by omega)).2
   have hd:=(O (n * 5+2) (by omega)).2
   have he:=(O (n * 5+3) (by omega)).2
   have hf:=(O (n * 5+4) (by omega)).2
   refine C.out _ _ (λe=>by cases e) ?_
   clear C K
   try simp only[pS]
   refine aR (i:=9) (by kernel_rfl) rfl (λK C=>?_)
   go_simp
   refine C.out _ _ (λe=>by cases e) ?_
   clear C K
   refine cY (by kernel_rfl) ?_ _
   gi_wp2
   exact d8
 ·rintro D ap W du fm ⟨v,ab,Q,ai,a1⟩ aa dw dv
  have ca:(parts ⟨m.lo,m.hi⟩ g.keys g.kids).length=k.length:=by rw[b5.out,AE,cI]
  rw[ca,CW (by rw[cI];exact jU _)]at Q
  have b2:=aa.heap (ar.heap bl (λh=>h)) (λh=>by simp only[Bl.one,NB]at h;have:=bs.out;have:=ba.size;omega)
  obtain⟨o,q,e5,ce,cc⟩:=Zh Q
  subst e5
  obtain⟨ef,eg,eh,ei,ch⟩:=cU (show W.heap[d.heap.size]?=some (.cells #[.string m.lo,.string m.hi,.int .i64 0,.slice y g.ents.length z,.slice o k.length q] 242) from ab)
  obtain⟨f8,f9,fa,fb,fc⟩:=cU b2
  have fd:=aB b2
  have f1:M.heap.size<=W.heap.size:=aa.size
  have hl:u.heap.size<=M.heap.size:=ar.size
  have g7:=bs.out
  have e2:Marks w.heap.size [mk D] W:=(FJ w.heap.size M).cons (λD' _ h=>aa.heap h (λe=>by simp only[Bl.one,NB]at e;subst e;rw[cw]at h;simp at h)) (by have:=am.size;omega) dv du
  have cx:Fr Bl.none w W:=((AA am).trans ar).grow aa (λb c=>.inr (by simp only[Bl.one,NB]at c;omega))
  have d9:Hid (aD W (λb=>(Value.slice o k.length q).ownBlock=some b) o (aL ((parts ⟨m.lo,m.hi⟩ ks k).map dZ))):=cc
  have db:Hid (k.length<=q):=ce
  have ao:Hid (∀b,(Value.slice o k.length q).ownBlock=some b->M.heap.size<=b/\b<W.heap.size):=λb c=>⟨ai b c,aM Q c⟩
  have f2:Hid (W.heap[NB]?=some (NO (.slice o k.length q))):=ab
  have dp:=aC (aC (aC (aC (aC b2 0 (.string m.lo)) 1 (.string m.hi)) 2 (.int .i64 0)) 3 (.slice y g.ents.length z)) 4 (.slice o k.length q)
  clear ab Q cc ce ca
  gi_wp2
  obtain⟨a5,ag⟩:=nM (((((W.setCell ⟨w.heap.size+1+1,0,none⟩ (.string m.lo)).setCell ⟨w.heap.size+1+1,1,none⟩ (.string m.hi)).setCell ⟨w.heap.size+1+1,2,none⟩ (.int .i64 0)).setCell ⟨w.heap.size+1+1,3,none⟩ (.slice y g.ents.length z)).setCell ⟨w.heap.size+1+1,4,none⟩ (.slice o k.length q))
  have an:Fr (Bl.one (w.heap.size+1+1)) W a5:=ag▸((((((AF (Bl.one (w.heap.size+1+1)) W).setCell (p:=⟨w.heap.size+1+1,0,none⟩) (.inl rfl) _).setCell (p:=⟨w.heap.size+1+1,1,none⟩) (.inl rfl) _).setCell (p:=⟨w.heap.size+1+1,2,none⟩) (.inl rfl) _).setCell (p:=⟨w.heap.size+1+1,3,none⟩) (.inl rfl) _).setCell (p:=⟨w.heap.size+1+1,4,none⟩) (.inl rfl) _)
  have ew:a5.heap[w.heap.size+1+1]?=some (.cells #[.string m.lo,.string m.hi,.int .i64 0,.slice y g.ents.length z,.slice o k.length q] 242):=by rw[<-ag];simpa using dp
  have e3:Marks w.heap.size [mk D] a5:=e2.on (λD' _ h=>an.heap h (λe=>by simp only[Bl.one]at e;subst e;rw[b2]at h;simp at h))
  have cy:Fr Bl.none w a5:=cx.grow an (λb c=>.inr (by simp only[Bl.one]at c;omega))
  have dc:=d9.out.on (an.on (Z:=λb=>(Value.slice o k.length q).ownBlock=some b) (λb c=>⟨(ao.out b c).2,λe=>by simp only[Bl.one]at e;have:=(ao.out b c).1;omega⟩))
  refine qIo (p:=4) rfl (w.heap.size+1+1) _ _ _ rfl (ag▸ew) Tryz.underlying242 rfl (by kernel_rfl) (ag▸e3) ?_
  intro w' az
  rw[ag]at az
  refine⟨y,z,o,q,by rw[<-d1.out],?_,db.out,(cy.took az (jU _)).below0⟩
  have fw:=az.size
  have fo:=an.size
  exact aD.took (dc.mono (λb c=>⟨by have:=(ao.out b c).1;omega,by have:=(ao.out b c).2;omega⟩)) az
variable {fs:Fs} {h:Nat} {n:NT}
mutual
def ndT:NT->Nd
 |.kept t s=>.mk s t.place [] []
 |.leaf s es=>.mk s 0 es []
 |.bran s ks=>.mk s 0 [] (qEf ks)
def qEf:List NT->List Nd
 |[]=>[]
 |n :: ns=>ndT n :: qEf ns
end
theorem Ng:∀(ns:List NT),qEf ns=ns.map ndT
 |[]=>by simp[qEf]
 |n :: ns=>by simp[qEf,Ng ns]
theorem pR(s ks):ndT (.bran s ks)=.mk s 0 [] (ks.map ndT):=by rw[ndT,Ng]
theorem sK(t s):ndT (.kept t s)=.mk s t.place [] []:=by rw[ndT]
theorem Dp(s es):ndT (.leaf s es)=.mk s 0 es []:=by rw[ndT]
theorem sI(n):(ndT n).sp=n.sp:=by
 cases n with
 |kept=>rfl
 |leaf=>rfl
 |bran=>rfl
theorem Qp{b β}(f)(a:β->Nat):∀(k:Nat) (l:List b),kY a k (l.map f)=(kY (λx=>a (f x)) k l).map (List.map f)
 |0,l=>rfl
 |k+1,l=>by
  have e:tot a (l.map f)=tot (λx=>a (f x)) l:=by simp[tot,JJ]
  have d:∀c,shN a c (l.map f) 0=shN (λx=>a (f x)) c l 0:=λc=>(Jy (λx=>a (f x)) a c l (l.map f) 0 (by simp)).symm;simp only[kY,e,d,AE];split
  ·grind
  ·rw[BD,<-List.map_take,<-List.map_drop,Qp f a k]
theorem xU(ns):(eC ns).map ndT=(dP uW (ns.map ndT)).map Ft:=by
 have a:(λn=>uW (ndT n))=fY:=by funext n;simp[uW,fY,sI]
 rw[eC,dP,dP,AE,Qp,a,FN,FN];refine DX (λp _=>?_);simp only[Function.comp_apply,Fq,pR,Ft];cases p with
 |nil=>rfl
 |cons n p=>simp[jD,sI,Ev]
theorem uS(es):(cT es).map ndT=(cT es).map nd0:=by
 refine DX (λn a=>?_);obtain⟨p,_,rfl⟩:=AY.1 a;rfl
theorem Xb (H:OkH fs 0 n):ndT n=nd0 n:=by
 cases n with
 |kept=>rfl
 |leaf=>rfl
 |bran=>exact H.elim
theorem qJh(x):3<=esz x:=by unfold esz;split<;>omega
theorem Jt{b}(a m):∀(l:List b),(∀x∈l,m<=a x)->l.length * m<=tot a l
 |[],_=>by simp
 |x :: l,h=>by
  have e:=h x (by simp);have f:=Jt a m l (λd c=>h d (by simp[c]));rw[cG,jB,JB];omega
theorem Bg (H:OkH fs 0 n):n.ents0.length<=1000:=by
 cases n with
 |kept t s=>cases t with
  |leaf p es =>
   have⟨g,b,_,a,_⟩:=(gM H).1;have:=(gB b).2.2;rw[a,AE]at this;exact this
  |branch=>exact(gM H).1.elim
 |leaf s es =>
  have d:=Jt esz 3 es (λc _=>qJh c);have e:=H.2.2.2.1;show es.length<=1000
  omega
 |bran=>exact H.elim
theorem lH (H:OkH fs h n):yN n:=by
 rintro a s rfl;have:=fO (gM H).2.2;omega
theorem qIv (H:OkH fs h n){m S w}(c:fZ w S (ndT n) m)(u:∀b,S b->b<w.heap.size):
  cL 215 #[m.val] w λe w'=>e=.returned (.bool (dE n))/\bW w w':=by
 cases n with
 |leaf s es =>
  cases h with
  |succ h=>exact H.elim
  |zero =>
   rw[Dp]at c;exact qIw (qQ H) (lH H) c u (Bg H)
 |kept t s =>
  rw[sK]at c;have⟨_,_,_,_,_,a,B,j,k,l,o,p,g,q,r,f,i⟩:=c;have A:a=[]:=AG f;subst A;apply(mJ m [] [] S w l o p g q r u (by simp) (by simp) (by simp) (by simp)).mono;rintro e w' ⟨rfl,v⟩;refine⟨?_,v⟩;have J:=lH H t s rfl;have:(m.place==0)=false:=by grind
  rw[this];rfl
 |bran s ks =>
  cases h with
  |zero=>exact H.elim
  |succ h =>
   have⟨L,M,N,O,I,P⟩:=H;rw[pR]at c;have⟨_,_,_,_,_,a,B,j,k,l,o,p,g,q,r,f,i⟩:=c;have C:bG w S (ks.map ndT) a:=⟨f,i⟩;have F:tot ksz a=tot fY ks:=by
    rw[Bc,<-Hz C,FN,Bc];refine BZ List.sum (DX (λn _=>?_));simp[uW,fY,sI]
   have y:a.length=ks.length:=by rw[f,AE]
   have K:ks.length<=1000:=by have:=Jt fY 3 ks (λn _=>by unfold fY;omega);omega
   have D:∀z∈a,z.fits:=λz G=>by
    obtain⟨d,E,rfl⟩:=AU G;have x:d<ks.length:=by omega
    have j:=(i d (ndT ks[d]) a[d] (by grind) (jQ E)).lo;show(a[d]).lo.size<=24
    rw[j,sI];exact qR (I _ (AB x)).1
   apply(mJ m [] a S w l (by rw[o,AE,y]) p (by omega) q r u (by simp) (by omega) (by simp) D).mono;rintro e w' ⟨rfl,v⟩;refine⟨?_,v⟩;apply BZ (λb=>Ending.returned (.bool b));rw[k,F,EU];simp[dE,Js]<;>exact JF
theorem Ow(w)(l:List (T×Sp)):bG w Bl.none ((l.map (λx=>NT.kept x.1 x.2)).map ndT) (l.map dZ):=by
 refine⟨by simp,λc d x a b=>?_⟩;rw[BN,BN]at a;rw[BN]at b;cases hl:l[c]? with
 |none=>grind
 |some y =>
  rw[hl]at a b;simp only[LN,AX]at a b;subst a b;rw[sK];exact .mk y.2 y.1.place [] [] (dZ y) [] rfl rfl rfl rfl rfl (jU _) (jU _) (.inl rfl) (.inl rfl) rfl (λc d x a _=>by simp at a)
theorem qEk(β sv lv fs)(O:(fs.life==0)=false)(root g j i){h:Nat}{n:NT}(H:OkH fs (h+1) n)(m S w)(N:aH w β sv lv fs)(f:fZ w S (ndT n) m)(L:∀b,S b->b<w.heap.size):
  cL 219 #[.agg (tA β root g j i),.agg #[.string m.lo,.string m.hi,.i m.place,.slice m.ea m.en m.ec,.slice m.ka m.kn m.kc]] w λe w'=>Vx ndT n.kidsN S w e w':=by
 cases n with
 |leaf=>exact H.elim
 |bran s ks =>
  rw[pR]at f;have⟨_,_,_,_,_,u,k,l,c,z,A,I,q,J,B,v,x⟩:=f;apply(Dw β root g j i m (by simp[c]) w).mono;rintro e w' ⟨rfl,d⟩;have o:=vV d L;have K:bG w S (ks.map ndT) u:=⟨v,x⟩;refine⟨m.lo,m.hi,m.ea,m.ec,m.ka,m.kc,u,?_,(B.on o).mono (λr a=>.inl a),(K.on o).mono (λr a=>.inl a),by rw[AE]at q;exact q,d⟩;rw[c,z,A,AE];rfl
 |kept t s =>
  have⟨E,W,Q⟩:=gM H;cases t with
  |leaf=>simp[aU]at E
  |branch p ks kids =>
   rw[sK]at f;have⟨_,_,_,_,_,u,k,l,c,z,A,I,q,J,B,v,x⟩:=f;have y:=c;have P:=(fO Q).1;have T:aU fs (h+1) (.branch m.place ks kids) ⟨m.lo,m.hi⟩:=by rw[y,k,l];exact E
   apply(Ko β sv lv fs O root g j i m (by grind) h ks kids w T N).mono;rintro e w' ⟨F,G,U,V,rfl,D,M,d⟩;have R:(⟨m.lo,m.hi⟩:Sp)=s:=by rw[k,l]
   rw[R]at D;have C:(NT.kept (.branch p ks kids) s).kidsN.length=kids.length:=by simp[NT.kidsN,cI]
   refine⟨m.lo,m.hi,F,G,U,V,(parts s ks kids).map dZ,by rw[C],D.mono (λr a=>.inr a),(Ow w' (parts s ks kids)).mono (λr a=>a.elim),by omega,d⟩
theorem dX.count {ns}(L:dX fs h ns):ns.length<=(bK h ns).length:=Aa _ _ (λn a=>(iX (L.ok n a)).1)
def qKi(β:Nat)(sv lv:Value)(fs:Fs)(root:Int)(ca:Option Addr)(cn cc:Nat)(h:Nat):Prop:=∀(l n:NT),dX fs h [l,n]->(l.entsH h).length+(n.entsH h).length<=1000000->∀(ma mb:MN) (S:Bl) (w:World),aH w β sv lv fs->fZ w S (ndT l) ma->fZ w S (ndT n) mb->(∀b,S b->b<w.heap.size)->cL 216 #[.agg (tA β root ca cn cc),ma.val,mb.val] w λe w' =>
   ∃v ms,e=.returned v/\w'.ownsRow 0 242 5 v ms.length (aL ms)/\bG w' (Or2 S (New w w')) ((oY h l n).map ndT) ms/\bW w w'/\∀k,v.ownBlock=some k->w.heap.size<=k
theorem Xm(β sv lv fs root d g f){h:Nat}(s:qKi β sv lv fs root d g f h)(ns)(L:dX fs h ns)(D:(bK h ns).length<=1000000)(ms l m S w)(i:aH w β sv lv fs)(r:aD w S l (aL ms))(j:bG w S (ns.map ndT) ms)(c:∀b,S b->b<w.heap.size)(y:ns.length<=m):
  cL 206 #[.agg (tA β root d g f),.slice l ns.length m] w λe w' =>
   ∃v rs,e=.returned v/\w'.ownsRow 0 242 5 v rs.length (aL rs)/\bG w' (Apart S w.heap.size v w') ((pZ (oY h) ns).map ndT) rs/\bW w w'/\∀k,v.ownBlock=some k->w.heap.size<=k:=by
 refine qHq β sv lv fs root d g f ndT (oY h) (λM=>dX fs h M/\bK h M=bK h ns) (λp o n B a=>?_) (λM a=>?_) (λM a n x E S w j c=>qIv (a.1.ok n x) j c) (λp o n B a z mb S w i t u c=>?_) ns ms l m S w i ⟨L,rfl⟩ r j c y
 ·have T:=Ju h a.1.two
  have⟨A,C⟩:=a.1.swap T.lst T.ents T.lo;exact⟨⟨A,C.trans a.2⟩,T.ne⟩
 ·have:=a.1.count
  grind
 ·have q:=BZ List.length a.2
  rw[eL,kF,kF,jK,jK,jK]at q;exact s o n a.1.two (by omega) z mb S w i t u c
theorem Hd(β sv lv fs)(s:(fs.life==0)=false)(root j l k):∀h,qKi β sv lv fs root j l k h
 |0=>λe n p B t mb S w g q f m=>by
  have o:=p.ok e (by simp);have on:=p.ok n (by simp);rw[Xb o]at q;rw[Xb on]at f;apply(Ye β sv lv fs s root j l k e n (qQ o) (qQ on) (lH o) (lH on) t mb S w g q f m (Bg o) (Bg on)).mono;rintro Y w' ⟨v,u,rfl,O,N,f,M⟩;refine⟨v,u,rfl,O,?_,f,M⟩;show bG w' _ ((cT _).map ndT) u
  rw[uS];exact N.mono (λZ h=>.inr h)
 |h+1=>λe n p B t mb S w g q f m=>by
  have o:=p.ok e (by simp);have on:=p.ok n (by simp);have⟨z,C,R,a0⟩:=tP o;have⟨A,T,a1,U⟩:=tP on;have y:dX fs h (e.kidsN++n.kidsN):=by
   refine⟨λi r=>(AO.1 r).elim (z.ok i) (A.ok i),λi r=>(AO.1 r).elim (z.lo i) (A.lo i),CI.2 ⟨z.sep,A.sep,λa q b f D Q=>?_⟩⟩;have:D∈e.entsH (h+1):=by rw[<-C];exact AV.2 ⟨a,q,Q⟩
   exact bT (((BC.1 p.sep).1 n (by simp)) D this) (U b f)
  have F:(bK h (e.kidsN++n.kidsN)).length<=1000000:=by rw[eL,C,T,jK];exact B
  have L:=y.count;rw[jK]at L;have x:=qEr (c:=⟨#[]⟩) y (λi _=>xS _);have K:=x.lst.count;rw[x.ents]at K;have:=Me β root j l k ndT e.kidsN n.kidsN (pZ (oY h) (e.kidsN++n.kidsN)) t mb S w m
   (λW d=>(qEk β sv lv fs s root j l k o t S W (g.on (vV d g.lies)) (q.on (vV d m)) (λb h=>jY (m b h) d.size)))
   (λW d=>(qEk β sv lv fs s root j l k on mb S W (g.on (vV d g.lies)) (f.on (vV d m)) (λb h=>jY (m b h) d.size)))
   (BR.2 R) (by omega) (by omega) (λi r=>by rw[sI];exact qR (x.lst.ok i r))
   (λu V X E W d H G I J=>Xm β sv lv fs root j l k (Hd β sv lv fs s root j l k h) _ y F u V X E W (g.on (vV d g.lies)) H G I J)
  rw[<-xU]at this;exact this
