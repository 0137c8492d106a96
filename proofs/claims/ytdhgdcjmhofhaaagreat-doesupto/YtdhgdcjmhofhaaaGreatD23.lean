import Derived.Test.YtdhgdcjmhofhaaaGreatD22
import Derived.Test.YtdhgdcjmhofhaaaGreatD20
set_option linter.all false
set_option maxRecDepth 100000
set_option maxHeartbeats 8000000
namespace Go.Proofs.YtdhgdcjmhofhaaaGreat.Tree
open Go.RowKit Go.Shelf Pages
attribute [local go_sem] CM
theorem Nr(β sv lv fs)(ad:(fs.life==0)=false)(root O Q P p es s q)(ag:aU fs 0 (.leaf p es) s)(n i o m Rd w)(av:w.heap[n]?=some (.cells (tA β root O Q P) 90))(au:w.heap[i]?=some (.cells #[.i p] 3))(aw:w.heap[o]?=some (.cells #[.string s.lo,.string s.hi] 154))(bv:w.heap[m]?=some (.cells #[.string q.lo,.string q.hi] 154))(aa:aH w β sv lv fs)(a1:Rd n)(a2:Rd i)(a3:Rd o)(an:Rd m)(ao:∀k,fpF β sv lv k->Rd k):
  oD Tryz.prog 161 #[.p n 0,.p i 0,.p o 0,.p m 0] wY (lvs 0 (.leaf p es) s q) Rd w:=by
 intro N J b0 f W af j ap ai br bi a7 R;refine CN Tryz.func161 rfl trivial ?_ rfl;simp only[Tryz.ntmps161,jA,jB,jN,Nat.reduceAdd,Nat.reduceSub,jR,jO,jP,jT,jE,jF];have⟨g,X,l,y,ae,ac,bc⟩:=ag;have a0:=ai [] f W R;have be:=(j n a1).2;have bf:=(j i a2).2;have bg:=(j o a3).2;have bh:=(j m an).2;obtain⟨a,U,-,ax,-⟩:=al1 W (.cells #[.func (.yield N) #[] #[]] 228);have v:Fr Bl.none W a:=U▸(AF _ W).alloc _;have D:On Rd w a:=af.trans (v.on (λk d=>⟨(j k d).2,λe=>e⟩));have⟨b2,b3,b4⟩:=eQ (D.heap av a1);have b6:a.c i 0=some (.i p):=by simp[World.cell?,D.heap au a2]
 have⟨b8,b9⟩:=bS (D.heap aw a3);have⟨aq,bs,a4⟩:=gB X;have a9:0<g.ents.length:=by grind
 have Y:∀r∈g.ents,s.has r.key=true:=λr V=>by grind
 have S:=tM β sv lv fs root O Q P p s g a (aa.on (D.mono ao)) ad X (by simp[l]) (by simp[l]) a9 (Y _ (AB _)) (Y _ (AB _)) aq a4;have bd:(g.kind==3)=true:=by simp[l]
 have a5:Hid (g.ents=es.map (·.e)):=y;have az:Hid (g.kind=3):=l;clear l y;gi_wp2_with (refine⟨trivial,rfl,?_⟩;gi_at_call 144;apply(BK.2 S).mono;clear S;rintro r b ⟨bu,rfl,⟨B,z,t,C,A,u,rfl,aj,ak,al,am⟩,a8⟩;obtain⟨c,L,-,ar,-⟩:=al1 b (pgO g B z t C A u);have⟨bj,bk,bl,bm,bn,bo,bp,bq⟩:=bM ar;have G:Fr Bl.none a c:=(AA a8).trans (L▸(AF _ b).alloc _);have ba:c.c W.heap.size 0=some (.func (.yield N) #[] #[]):=(by simp[World.cell?,G.heap ax (λe=>e)]);have h:Fr f W c:=(v.trans G).mono (λ_ e=>e.elim);have a6:=ap _ _ _ _ R ((v.trans G).on (Z:=f) (λk d=>⟨a0 k d,λe=>e⟩));have E:On (New a b) b c:=L▸(CJ _ b).alloc (λk d=>d.2) _;have bw:=v.size;obtain⟨bb,bt,b5,b7,M,T⟩:=a7 [] es [] #[.agg #[.i g.kind,.i g.ver,.i g.root,.i g.next,.slice B g.keys.length C,.slice z g.kids.length A,.slice t g.ents.length u,.string g.data]] (New a b) f c rfl a6 ⟨g,_,rfl,a5,⟨B,z,t,C,A,u,rfl,aj.on E,ak.on E,al.on E,am⟩,a4⟩ (λk d=>⟨λM=>by have:=a0 k M;have:=d.1;omega,jY d.2 E.size⟩) h (CQ _ _));refine⟨rfl,(dM T).mono ?_⟩;clear M T;rintro r b1 (⟨rfl,F,K,H,I⟩|⟨rfl,F,K,H,I⟩)
 ·gi_wp2
  refine⟨_,EG rfl _ _ _,⟨_,rfl⟩,F,h.grow H (CQ _ _),(CQ W f).trans h.size I,.inl K⟩
 ·gi_wp2
  refine⟨_,EG rfl _ _ _,⟨_,rfl⟩,F,h.grow H (CQ _ _),(CQ W f).trans h.size I,.inr ⟨[]++[es],List.prefix_refl _,by simp,K⟩⟩
attribute [local go_sem] CM
theorem nL{P n l f c a b w R}(d)(h:RoundIn Fence.wide n P l f c a b w R):RoundIn (Fence.wide.inRound d) n P l f c a b w R:=h
def Ry(β:Nat)(sv lv:Value)(fs:Fs)(root:Int)(ca:Option Addr)(cn cc:Nat)(q:Sp)(h:Nat):Prop :=
 ∀(t:T) (s:Sp),aU fs h t s->∀(bt bp bw bq:Nat) (Rd:Bl) (w:World),
  w.heap[bt]?=some (.cells (tA β root ca cn cc) 90)->w.heap[bp]?=some (.cells #[.int .i64 t.place] 3)->w.heap[bw]?=some (.cells #[.string s.lo,.string s.hi] 154)->w.heap[bq]?=some (.cells #[.string q.lo,.string q.hi] 154) ->
  aH w β sv lv fs->Rd bt->Rd bp->Rd bw->Rd bq->(∀k,fpF β sv lv k->Rd k) ->
  oD Tryz.prog 161 #[.pointer (some ⟨bt,0,none⟩),.pointer (some ⟨bp,0,none⟩),.pointer (some ⟨bw,0,none⟩),.pointer (some ⟨bq,0,none⟩)] wY (lvs h t s q) Rd w
theorem Gm(β sv lv fs)(ek:(fs.life==0)=false)(root am ao an q h)(ez:Ry β sv lv fs root am ao an q h)(p ks e s)(ew:aU fs (h+1) (.branch p ks e) s)(ak a7 al aj Rd w)(db:w.heap[ak]?=some (.cells (tA β root am ao an) 90))(fi:w.heap[a7]?=some (.cells #[.i p] 3))(dc:w.heap[al]?=some (.cells #[.string s.lo,.string s.hi] 154))(da:w.heap[aj]?=some (.cells #[.string q.lo,.string q.hi] 154))(ci:aH w β sv lv fs)(bx:Rd ak)(d7:Rd a7)(bz:Rd al)(c0:Rd aj)(ba:∀k,fpF β sv lv k->Rd k):
  oD Tryz.prog 161 #[.p ak 0,.p a7 0,.p al 0,.p aj 0] wY (lvs (h+1) (.branch p ks e) s q) Rd w:=by
 intro l B c4 d W er m R Q c1 cs ec c6;refine CN Tryz.func161 rfl trivial ?_ rfl;simp only[Tryz.ntmps161,jA,jB,jN,Nat.reduceAdd,Nat.reduceSub,jR,jO,jP,jT,jE,jF];have⟨g,ck,bs,ac,cn,eo,⟨e4,dz,e0⟩,ef⟩:=ew;have a6:=Q [] d W c6;have g7:=(m ak bx).2;have bu:=(m a7 d7).2;have g8:=(m al bz).2;have g9:=(m aj c0).2;obtain⟨r,cg,-,dd,-⟩:=al1 W (.cells #[.func (.yield l) #[] #[]] 228);have bf:Fr Bl.none W r:=cg▸(AF _ W).alloc _;have ae:On Rd w r:=er.trans (bf.on (λk b=>⟨(m k b).2,λh=>h⟩));have⟨dr,ds,dt⟩:=eQ (ae.heap db bx);have dw:r.c a7 0=some (.i p):=by simp[World.cell?,ae.heap fi d7]
 have⟨dx,dy⟩:=bS (ae.heap dc bz);have⟨d8,fa,fb⟩:=gB ck;have cd:=oM β sv lv fs root am ao an p s g r (ci.on (ae.mono ba)) ek ck (by simp[bs]) (by rw[ac];exact e4) (by simp only[ac];exact dz) (by simp only[ac];exact e0) d8 fb;have g6:(g.kind==3)=false:=by simp[bs]
 have dm:Hid (g.keys=ks):=ac;have dl:Hid (g.kids=e.map (λt=>(t.place:Int))):=cn;clear bs ac cn eo;gi_wp2_with (first
  |(refine⟨trivial,rfl,?_⟩;gi_at_call 144;apply(BK.2 cd).mono;clear cd;rintro V C ⟨gn,rfl,⟨b4,b0,ap,b6,b2,ar,rfl,f8,f9,ga,d6⟩,ch⟩;obtain⟨o,bo,-,d9,-⟩:=al1 C (pgO g b4 b0 ap b6 b2 ar);have⟨cu,cv,cw,cx,cy,cz,d0,d1⟩:=bM d9;have bg:Fr Bl.none r o:=(AA ch).trans (bo▸(AF _ C).alloc _);have d3:On Rd w o:=ae.trans (bg.on (λk b=>⟨jY (m k b).2 bf.size,λh=>h⟩));have⟨e1,e2⟩:=bS (d3.heap dc bz);have cb:=mZ g s b4 b0 ap b6 b2 ar o)
  |(refine⟨trivial,rfl,?_⟩;gi_at_call 145;apply(BK.2 cb).mono;clear cb;rintro V N ⟨rfl,fj,de,az⟩))
 have X:Fr Bl.none W N:=(bf.trans bg).trans (AA az);have gq:W.heap.size<r.heap.size:=(gL dd);have gt:C.heap.size<o.heap.size:=(gL d9);have gs:=ch.size;have gu:o.heap.size+1<N.heap.size:=(gL de);have f2:On Rd w N:=d3.trans (vV az (λk b=>by have:=(m k b).2;omega));have fk:N.heap[W.heap.size]?=some (.cells #[.func (.yield l) #[] #[]] 228):=((bg.trans (AA az)).heap dd (λh=>h));have d2:On (New r C) C N:=(bo▸(CJ _ C).alloc (λk b=>b.2) _:On (New r C) C o).trans (vV az (λk b=>by have:=b.2;omega));let Rk:Bl:=λk=>k=o.heap.size\/k=o.heap.size+1\/New r C k;have eu:=mY (o.heap.size+1) o.heap.size s g.kind g.ver g.root g.next b4 b0 ap b6 b2 g.ents.length ar g.data g.keys g.kids Rk N de fj ((f8.on d2).mono (λk b=>.inr (.inr b))) ((f9.on d2).mono (λk b=>.inr (.inr b))) (.inr (.inl rfl)) (.inl rfl) d8 fa d6.1 d6.2.1;have a5:parts s g.keys g.kids=(parts s ks e).map (λH=>((H.1.place:Int),H.2)):=by rw[dm.out,dl.out,mR]
 let F:T×Sp->List (List En):=λH=>if H.2.meets q=true then lvs h H.1 H.2 q else [];have bc:Hid (lvs (h+1) (.branch p ks e) s q=(parts s ks e).flatMap F):=rfl;have e3:B [] d N:=R _ _ _ _ c6 (X.on (λk b=>⟨a6 k b,λh=>h⟩));let I:List (Int×Sp)->Bl->World->Prop:=λf d W=>B (((parts s ks e).take f.length).flatMap F) d W;let Ix:Code->List (Int×Sp)->Bl->World->Prop:=λc f d W=>c=.ret/\∃j,j <+: (parts s ks e).flatMap F/\j≠[]/\c4 j d W;refine fF (P:=Tryz.prog) (Has:=rI) (Rd:=Rk) rfl (enters_of Tryz.func167 (by kernel_rfl) rfl) eu (λH ai S W a9=>by rw[a9];rfl) I Ix (λs d W be a0 a1=>R _ _ _ _ a0 a1) ?_ (λs d W a0=>Q _ _ _ a0) ?_ d (by simpa[I] using e3) ?_ ?_ ?_ ?_
 ·rintro c f d W be ⟨rfl,j,A,M,G⟩ a1
  exact⟨rfl,j,A,M,c1 _ _ _ _ G a1⟩
 ·rintro c f d W ⟨rfl,j,A,M,G⟩
  exact cs _ _ _ G
 ·rintro k (rfl|rfl|b)
  ·exact⟨λh=>by have:=a6 _ h;omega,by omega⟩
  ·exact⟨λh=>by have:=a6 _ h;omega,by omega⟩
  ·exact⟨λh=>by have:=a6 _ h;have:=b.1;omega,by have:=b.2;omega⟩
 ·intro ad f H gc ai S J Wc bt c8 a9 g0 aw c7 g1 g2 el ⟨ge,g5⟩;have cm:f.length<e.length:=by
   have:=BZ List.length bt;rw[a5]at this;simp[cI]at this;omega
  have⟨n,co⟩:=nM (e[f.length]'cm);have⟨i,cq⟩:=nM ((⟨kV s ks f.length,pF s ks f.length⟩:Sp));have a4:=fH s ks e f.length cm;rw[co,cq]at a4;have ex:H=((n.place:Int),i):=by
   have A:(parts s g.keys g.kids)[f.length]?=some H:=by rw[bt];simp
   rw[a5,BN,a4]at A;simpa using A.symm
  have ev:aU fs h n i:=ef _ (BL a4);subst ex;have e7:ai=#[.i n.place,.agg #[.string i.lo,.string i.hi]]:=a9;subst e7;have bd:Hid (((parts s ks e).take (f.length+1)).flatMap F=((parts s ks e).take f.length).flatMap F++F (n,i)):=by
   show _=_
   rw[nG a4,BU];simp
  have c3:Hid ((parts s ks e).flatMap F=((parts s ks e).take f.length).flatMap F++(F (n,i)++((parts s ks e).drop (f.length+1)).flatMap F)):=by
   show _=_
   conv=>lhs;rw[rT a4]
   rw[BU,AJ]
  have⟨E,bq⟩:=nM (((parts s ks e).take f.length).flatMap F);have c9:B E J Wc:=bq▸c8;rw[bq]at bd c3;have gw:N.heap.size<=Wc.heap.size:=aw.size;have dg:Fr d W Wc:=(X.mono (λ_ h=>h.elim)).trans aw;have bb:aJ W d J:=(CQ W d).trans X.size c7;have f3:On Rd w Wc:=f2.trans (aw.on (λk b=>⟨by have:=(m k b).2;omega,(m k b).1⟩));have ed:¬J W.heap.size:=λh=>(c7 _ h).elim (λbh=>by have:=a6 _ bh;omega) (λbh=>by omega);clear bq c8 co cq a4 a5 bt;unfold iN;gi_wp2;refine⟨(AF _ Wc).alloc _,?_⟩;intro u bn;have dv:Fr Bl.none Wc (Wc.alloc (.cells #[.string i.lo,.string i.hi] 154)):=(AF _ Wc).alloc _;have av:Fr (Bl.one ad) Wc u:=(dv.mono (λ_ h=>h.elim)).trans bn.fr;have K:=bn.heap (aA Wc (.cells #[.string i.lo,.string i.hi] 154)) (by omega);have bw:On Rd w u:=f3.trans (av.on (λk b=>⟨by have:=(m k b).2;omega,λh=>by simp only[Bl.one]at h;have:=(m k b).2;omega⟩));have fn:=av.heap (aw.heap fk (λh=>by have:=a6 _ h;omega)) (oN (by omega));have aa:B E J u:=R _ _ _ _ c9 (av.on (λk b=>⟨(Q _ _ _ c9) k b,λh=>by simp only[Bl.one]at h;subst h;exact el b⟩));have df:Fr d W u:=dg.grow av (λk b=>.inr (by simp only[Bl.one]at b;omega));have fq:Wc.heap.size<u.heap.size:=(gL K);have⟨fw,fx⟩:=bS K;have⟨gi,gj⟩:=bS (bw.heap da c0);have ab:=Zv i q u;have ct:∀k,Rd k->k<u.heap.size:=λk b=>by have:=(m k b).2;omega
  clear dr ds dt dw dx dy e1 e2 cu cv cw cx cy cz d0 d1;cases hm:i.meets q
  ·rw[hm]at ab
   have af:Hid (F (n,i)=[]):=by show _=_;simp[F,hm]
   gi_wp2_with (refine⟨trivial,rfl,?_⟩;gi_at_call 162;apply(DU ad (BK.2 ab)).mono;rintro V x ⟨rfl,O⟩);refine⟨J,?_,AA O,CQ _ _⟩;show B _ _ _
   rw[jK,AM,bd.out,af.out,EV];exact R _ _ _ _ aa (vV O (λk b=>Q _ _ _ aa k b))
  ·rw[hm]at ab
   have af:Hid (F (n,i)=lvs h n i q):=by show _=_;simp[F,hm]
   gi_wp2_with (first
    |(refine⟨trivial,rfl,?_⟩;gi_at_call 162;apply(DU ad (BK.2 ab)).mono;clear ab;rintro V x ⟨rfl,O⟩;have d4:On Rd w x:=bw.trans (vV O ct);have⟨gk,gl,gm⟩:=eQ (d4.heap db bx);have⟨fu,fv⟩:=bS ((O.block _ fq).trans K);have⟨gf,gg⟩:=bS (d4.heap da c0);have cc:=zK root n.place β am ao an i q x)
    |(refine⟨trivial,rfl,?_⟩;gi_at_call 135;apply(DU ad (BK.2 cc)).mono;clear cc;rintro V U ⟨rfl,f5,f6,f7,d5,eg⟩))
   have L:bW u U:=O.trans (eg.mono O.size);have⟨gd,cp⟩:=bn.rcd;have ep:ad<u.heap.size:=(gL cp);have f4:On Rd w U:=bw.trans (vV L ct);have cj:=ci.on (f4.mono ba);have gv:x.heap.size+1+1+1<U.heap.size:=(gL d5);have gr:=O.size;have e9:B E J U:=R _ _ _ _ aa (vV L (λk b=>Q _ _ _ aa k b));have b8:=Q _ _ _ aa;have ee:¬J W.heap.size:=ed;have c2:Fr d W U:=df.trans (AA L);let R6:Bl:=λk=>k=x.heap.size\/k=x.heap.size+1\/k=x.heap.size+1+1\/k=x.heap.size+1+1+1\/fpF β sv lv k;let I2:List (List En)->Bl->World->Prop:=λf d W=>B (E++f) d W;let Ix2:Code->List (List En)->Bl->World->Prop:=λc f d W=>c=.ret/\∃j,j <+: (parts s ks e).flatMap F/\j≠[]/\c4 j d W;refine Lx (P:=Tryz.prog) (Has:=wY) (Rd:=R6) ((L.block _ ep).trans cp) rfl (enters_of Tryz.func161 (by kernel_rfl) rfl) (ez n i ev x.heap.size (x.heap.size+1) (x.heap.size+1+1) (x.heap.size+1+1+1) R6 U f5 f6 f7 d5 cj (.inl rfl) (.inr (.inl rfl)) (.inr (.inr (.inl rfl))) (.inr (.inr (.inr (.inl rfl)))) (λk b=>.inr (.inr (.inr (.inr b))))) (λH ai S W a9=>by obtain⟨fz,v,rfl,_⟩:=a9;rfl) I2 Ix2 (λs d W be a0 a1=>R _ _ _ _ a0 a1) ?_ (λs d W a0=>Q _ _ _ a0) ?_ J (by simpa[I2] using e9) ?_ ?_ ?_ ?_
   ·rintro c f d W be ⟨rfl,j,A,M,G⟩ a1
    exact⟨rfl,j,A,M,c1 _ _ _ _ G a1⟩
   ·rintro c f d W ⟨rfl,j,A,M,G⟩
    exact cs _ _ _ G
   ·rintro k (rfl|rfl|rfl|rfl|b)
    ·exact⟨λh=>by have:=b8 _ h;omega,by omega⟩
    ·exact⟨λh=>by have:=b8 _ h;omega,by omega⟩
    ·exact⟨λh=>by have:=b8 _ h;omega,by omega⟩
    ·exact⟨λh=>by have:=b8 _ h;omega,by omega⟩
    ·exact⟨λh=>(bb k h).elim (m k (ba k b)).1 (λbh=>by have:=(m k (ba k b)).2;omega),cj.lies k b⟩
   ·intro bu a2 K b9 ai c5 y Wd cr ca e8 ay bk e6 g3 em en ⟨gb,g4⟩;obtain⟨z,v,rfl,cl,⟨b5,b1,aq,b7,b3,au,rfl,fc,fd,fe,ff⟩,ei⟩:=e8;have gx:U.heap.size<=Wd.heap.size:=bk.size;have fp:=bk.heap ((L.block _ (by omega)).trans fn) (λh=>ee h);have dh:Fr d W Wd:=c2.grow bk bb;have dj:aJ W d y:=bb.trans c2.size e6;have dk:Hid (z.ents=K.map (·.e)):=cl;have dp:Hid (lvs h n i q=a2++K :: b9):=cr;clear cl cr;unfold iN;gi_wp2;refine⟨(AF _ Wd).alloc _,?_⟩;intro a3 cf;have⟨cu,cv,cw,cx,cy,cz,d0,d1⟩:=bM (cf.heap (k:=Wd.heap.size) (aA Wd (pgO z b5 b1 aq b7 b3 au)) (DK em));have du:Fr Bl.none Wd (Wd.alloc (pgO z b5 b1 aq b7 b3 au)):=(AF _ Wd).alloc _;have a8:Fr (Bl.one bu) Wd a3:=(du.mono (λ_ h=>h.elim)).trans cf.fr;have gp:a3.c W.heap.size 0=some (.func (.yield l) #[] #[]):=by simp[World.cell?,a8.heap fp (oN (by omega))]
    have ea:B (E++a2) y a3:=R _ _ _ _ ca (a8.on (λk b=>⟨(Q _ _ _ ca) k b,λh=>by simp only[Bl.one]at h;subst h;exact en b⟩));have bv:On c5 Wd a3:=a8.on (λk b=>⟨(ay k b).2.1,λh=>(ay k b).2.2 h⟩);have di:Fr d W a3:=dh.grow a8 (λk b=>.inr (by simp only[Bl.one]at b;omega));have br:lvs (h+1) (.branch p ks e) s q=(E++a2)++K :: (b9++((parts s ks e).drop (f.length+1)).flatMap F):=by
     rw[bc.out,c3.out,af.out,dp.out];simp
    have⟨fy,gh,fr,ft,ey,ce⟩:=ec (E++a2) K (b9++((parts s ks e).drop (f.length+1)).flatMap F) #[.agg #[.i z.kind,.i z.ver,.i z.root,.i z.next,.slice b5 z.keys.length b7,.slice b1 z.kids.length b3,.slice aq z.ents.length au,.string z.data]] c5 y a3 br ea ⟨z,_,rfl,dk,⟨b5,b1,aq,b7,b3,au,rfl,fc.on bv,fd.on bv,fe.on bv,ff⟩,ei⟩ (λk b=>⟨(ay k b).1,jY (ay k b).2.1 a8.size⟩) di dj;have dn:Hid ((E++a2)++[K] <+: (parts s ks e).flatMap F):=by
     show _ <+: _
     rw[<-bc.out,br];exact⟨b9++((parts s ks e).drop (f.length+1)).flatMap F,by simp⟩
    clear br;gi_wp2;refine⟨rfl,(nL bu (dM ce)).mono ?_⟩;clear ey ce;rintro V dq (⟨rfl,ah,bm,bj,bl⟩|⟨rfl,ah,bm,bj,bl⟩)
    ·gi_wp2
     refine⟨ah,?_,bj,bl⟩;show B (E++(a2++[K])) ah dq
     rw[<-BX];exact bm
    ·gi_wp2
     exact⟨ah,⟨rfl,_,dn,by simp,bm⟩,bj,bl⟩
   ·intro y ag ax Y Z
    gi_wp2;refine⟨y,?_,(AA L).trans Y,(CQ u J).trans L.size Z⟩;show B _ _ _
    rw[jK,AM,bd.out,af.out];exact ax
   ·rintro c a2 y ag es eq ⟨rfl,j,A,M,G⟩ Y Z
    gi_wp2;exact⟨y,⟨rfl,j,A,M,G⟩,(AA L).trans Y,(CQ u J).trans L.size Z⟩
 ·intro D y ag e5 bp ax Y Z bi
  have eb:B (lvs (h+1) (.branch p ks e) s q) y ag:=by
   have V:(parts s ks e).take (parts s g.keys g.kids).length=parts s ks e:=by rw[a5,AE,BG]
   rw[bc.out,<-V];exact ax
  clear ax a5;gi_wp2;refine mO rfl bi ⟨⟨_,rfl⟩,y,(((X.mono (λ_ h=>h.elim)).trans Y).putObj (.inr (by omega)) _),(CQ W d).trans X.size Z,.inl (R _ _ _ _ eb ((CJ _ _).putObj bp _))⟩
 ·rintro D c f y ag e5 bp es eq ⟨rfl,j,A,M,G⟩ Y Z bi
  clear a5;gi_wp2;refine mO rfl bi ⟨⟨_,rfl⟩,y,(((X.mono (λ_ h=>h.elim)).trans Y).putObj (.inr (by omega)) _),(CQ W d).trans X.size Z,.inr ⟨j,A,M,c1 _ _ _ _ G ((CJ _ _).putObj bp _)⟩⟩
theorem Ns(β sv lv fs)(y:(fs.life==0)=false)(root f i g q):∀h,Ry β sv lv fs root f i g q h:=by
 intro h;induction h with
 |zero =>
  intro r s a d b e c Rd w v t x u j k l m n o;cases r with
  |leaf p es=>exact Nr β sv lv fs y root f i g p es s q a d b e c Rd w v t x u j k l m n o
  |branch p ks kids=>exact a.elim
 |succ h ih =>
  intro r s a d b e c Rd w v t x u j k l m n o;cases r with
  |leaf p es=>exact a.elim
  |branch p ks kids=>exact Gm β sv lv fs y root f i g q h ih p ks kids s a d b e c Rd w v t x u j k l m n o
attribute [local go_sem] CM
abbrev Sp.all:Sp:=⟨⟨#[]⟩,⟨#[]⟩⟩
def jS(q:Sp)(ls:List (List En)):List En:=ls.flatMap (λes=>es.filter (λx=>q.has x.e.key))
def cV(q:Sp):Option (Nat×T)->List En
 |none=>[]
 |some (h,t)=>jS q (lvs h t Sp.all q)
def qF(x:En)(args:Array Value)(S:Bl)(w:World):Prop:=args=#[.agg #[.string x.e.key,.string x.e.val,.int .i64 x.e.size,.int .i64 x.e.over]]
theorem Ae{a:Type}(f)(l:List a)(j)(h:j<l.length):(l.take (j+1)).filter f=(l.take j).filter f++(if f l[j]=true then [l[j]] else []):=by
 rw[AK h,GE];simp[FQ]
theorem yU(β sv lv fs)(hl:(fs.life==0)=false)(root ca cn cc q o)(hro:bJ fs root o)(bt bq Rd w)(xt:w.heap[bt]?=some (.cells (tA β root ca cn cc) 90))(xq:w.heap[bq]?=some (.cells #[.string q.lo,.string q.hi] 154))(hf:aH w β sv lv fs)(r1:Rd bt)(r4:Rd bq)(rf:∀k,fpF β sv lv k->Rd k):
  oD Tryz.prog 134 #[.p bt 0,.p bq 0] qF (cV q o) Rd w:=by
 intro l J Jx Y W hon hRd sJ lJ sJx lJx hY h0;refine CN Tryz.func134 rfl trivial ?_ rfl;simp only[Tryz.ntmps134,jA,jB,jN,Nat.reduceAdd,Nat.reduceSub,jR,jO,jP,jT,jE,jF];have lY:=lJ [] Y W h0;have l1:=(hRd bt r1).2;have l4:=(hRd bq r4).2;obtain⟨W1,hW1,-,y1,-⟩:=al1 W (.cells #[.func (.yield l) #[] #[]] 200);have f1:Fr Bl.none W W1:=hW1▸(AF _ W).alloc _;have o1:On Rd w W1:=hon.trans (f1.on (λk hk=>⟨(hRd k hk).2,λh=>h⟩));have⟨a0,a1,a2⟩:=eQ (o1.heap xt r1);have⟨c0,c1⟩:=bS (o1.heap xq r4);cases o with
 |none =>
  have hr:root=0:=hro;subst hr;have F1:Fr Y W W1:=f1.mono (λ_ h=>h.elim);gi_wp2;exact⟨_,EG rfl _ _ _,⟨_,rfl⟩,Y,F1,CQ _ _,.inl (sJ _ _ _ _ h0 (f1.on (λk hk=>⟨lY k hk,λh=>h⟩)))⟩
 |some x =>
  have⟨h,t⟩:=x;have⟨hr,hp,hst⟩:=hro;have hrb:((root:Int)==0)=false:=by simp;omega
  have hLc:=zK root root β ca cn cc Sp.all q W1;have HP:Hid (t.place=root):=hp;clear hp;gi_wp2_with (refine⟨trivial,rfl,?_⟩;gi_at_call 135;apply(BK.2 hLc).mono;clear hLc;rintro e W₆ ⟨rfl,p1,p2,p3,p4,hb₆⟩);rw[<-HP.out]at p2;have f6:Fr Bl.none W W₆:=f1.trans (AA hb₆);have z1:W.heap.size<W1.heap.size:=(gL y1);have z6:W1.heap.size+1+1+1<W₆.heap.size:=(gL p4);have o6:On Rd w W₆:=hon.trans (f6.on (λk hk=>⟨(hRd k hk).2,λh=>h⟩));have hf6:=hf.on (o6.mono rf);have hJ6:=sJ _ _ _ _ h0 (f6.on (λk hk=>⟨lY k hk,λh=>h⟩));have F6:Fr Y W W₆:=f6.mono (λ_ h=>h.elim);let R6:Bl:=λk=>k=W1.heap.size\/k=W1.heap.size+1\/k=W1.heap.size+1+1\/k=W1.heap.size+1+1+1\/fpF β sv lv k;have HL:Hid (cV q (some (h,t))=jS q (lvs h t Sp.all q)):=rfl;let I:List (List En)->Bl->World->Prop:=λpre Y W=>J (jS q pre) Y W;let Ix:Code->List (List En)->Bl->World->Prop:=λc pre Y W=>c=.ret/\∃pp,pp <+: cV q (some (h,t))/\pp≠[]/\Jx pp Y W;refine fF (P:=Tryz.prog) (Has:=wY) (Rd:=R6) rfl (enters_of Tryz.func161 (by kernel_rfl) rfl) (Ns β sv lv fs hl root ca cn cc q h t Sp.all hst W1.heap.size (W1.heap.size+1) (W1.heap.size+1+1) (W1.heap.size+1+1+1) R6 W₆ p1 p2 p3 p4 hf6 (.inl rfl) (.inr (.inl rfl)) (.inr (.inr (.inl rfl))) (.inr (.inr (.inr (.inl rfl)))) (λk hk=>.inr (.inr (.inr (.inr hk))))) (λx args S W hH=>by obtain⟨g',v,rfl,_⟩:=hH;rfl) I Ix (λs Y W W' hi ho=>sJ _ _ _ _ hi ho) ?_ (λs Y W hi=>lJ _ _ _ hi) ?_ Y (by simpa[I,jS] using hJ6) ?_ ?_ ?_ ?_
  ·rintro c pre Y W W' ⟨rfl,pp,h1,h2,h3⟩ ho
   exact⟨rfl,pp,h1,h2,sJx _ _ _ _ h3 ho⟩
  ·rintro c pre Y W ⟨rfl,pp,h1,h2,h3⟩
   exact lJx _ _ _ h3
  ·rintro k (rfl|rfl|rfl|rfl|hk)
   ·exact⟨λh=>by have:=lY _ h;omega,by omega⟩
   ·exact⟨λh=>by have:=lY _ h;omega,by omega⟩
   ·exact⟨λh=>by have:=lY _ h;omega,by omega⟩
   ·exact⟨λh=>by have:=lY _ h;omega,by omega⟩
   ·exact⟨(hRd k (rf k hk)).1,hf6.lies k hk⟩
  ·intro l2 pre2 x2 rest2 args S2 Y2 Wd hx2 hJd hH2 hS2 hFd hGd hl20 hl21 hl22 ⟨r2',hr2'⟩;obtain⟨g2,v,rfl,hge,⟨ka2,ia2,ea2,kc2,ic2,ec2,rfl,w1,w2,w3,ww⟩,hgl⟩:=hH2;have zd:W₆.heap.size<=Wd.heap.size:=hFd.size;have yd:=hFd.heap ((hb₆.block _ z1).trans y1) (λh=>by have:=lY _ h;omega);have od:On Rd w Wd:=o6.trans (hFd.on (λk hk=>⟨by have:=(hRd k hk).2;omega,(hRd k hk).1⟩));have Fd:Fr Y W Wd:=F6.trans hFd;have Gd:aJ W Y Y2:=(CQ W Y).trans F6.size hGd;have HGE:Hid (g2.ents=x2.map (·.e)):=hge;have HX2:Hid (lvs h t Sp.all q=pre2++x2 :: rest2):=hx2;have HGL:Hid (g2.ents.length=x2.length):=by show _=_;rw[hge,AE]
   clear hge hx2;unfold iN;gi_wp2;refine⟨(AF _ Wd).alloc _,?_⟩;intro We hTe;have x3e:=hTe.heap (k:=Wd.heap.size) (aA Wd (pgO g2 ka2 ia2 ea2 kc2 ic2 ec2)) (DK hl21);have⟨m0,m1,m2,m3,m4,m5,m6,m7⟩:=bM x3e;have aE:Fr Bl.none Wd (Wd.alloc (pgO g2 ka2 ia2 ea2 kc2 ic2 ec2)):=(AF _ Wd).alloc _;have fE:Fr (Bl.one l2) Wd We:=(aE.mono (λ_ h=>h.elim)).trans hTe.fr;have hJe:J (jS q pre2) Y2 We:=sJ _ _ _ _ hJd (fE.on (λk hk=>⟨(lJ _ _ _ hJd) k hk,λh=>by simp only[Bl.one]at h;subst h;exact hl22 hk⟩));have oS:On S2 Wd We:=fE.on (λk hk=>⟨(hS2 k hk).2.1,λh=>(hS2 k hk).2.2 h⟩);have Fe:Fr Y W We:=Fd.grow fE (λk hk=>.inr (by simp only[Bl.one]at hk;omega));have oE:On Rd w We:=od.trans (fE.on (λk hk=>⟨by have:=(hRd k hk).2;omega,λh=>by simp only[Bl.one]at h;have:=(hRd k hk).2;omega⟩));have zE:Wd.heap.size<We.heap.size:=(gL x3e);have wE:=w3.on oS;have hec:=ww.2.2;clear w1 w2 w3;have⟨dn,hdn⟩:=nM (jS q pre2);rw[hdn]at hJe;let f:En->Bool:=λx=>q.has x.e.key;have HSP:Hid (∀j (hj:j<x2.length),f x2[j]=true->cV q (some (h,t))=(dn++(x2.take j).filter f)++x2[j]:: ((x2.drop (j+1)).filter f++jS q rest2)):=by
    intro j hj hfj;rw[HL.out,HX2.out];unfold jS;rw[BU,AJ];have e:x2.filter f=(x2.take j).filter f++x2[j]:: (x2.drop (j+1)).filter f:=by
     conv=>lhs;rw[<-CB j x2,GE,CC hj,FQ,AW hfj]
    have e2:List.filter (λx=>q.has x.e.key) x2=(x2.take j).filter f++x2[j]:: (x2.drop (j+1)).filter f:=e;rw[e2,<-hdn];simp[jS,BX]
   have HDN:Hid (dn++x2.filter f=jS q (pre2++[x2])):=by
    show _=_
    rw[<-hdn];simp[jS,f]
   have hYw:¬Y2 W.heap.size:=λh=>(hGd _ h).elim (λh'=>by have:=lY _ h';omega) (λh'=>by omega);have hYq:∀k,Rd k->¬Y2 k:=λk hk h=>(Gd k h).elim (hRd k hk).1 (λh'=>by have:=(hRd k hk).2;omega);clear hdn m0 m1 m2 m3 m4 m5 m7 a0 a1 a2 c0 c1;gi_wp2;gi_loopw [20] (λi wr=>∃(j:Nat) (Yr:Bl),j<=g2.ents.length/\i=.i j/\J (dn++(x2.take j).filter f) Yr wr/\Fr Y2 We wr/\aJ We Y2 Yr) (λi _=>g2.ents.length-(intOf i).toNat)
   case atStart=>exact⟨0,Y2,AH _,rfl,by simpa using hJe,AF _ _,CQ _ _⟩
   case round =>
    obtain⟨j,Yr,hj,rfl,hJr,hFr,hGr⟩:=hrel;have zr:We.heap.size<=wr.heap.size:=hFr.size;have wR:=wE.on (hFr.on (λk hk=>⟨jY (hS2 k hk).2.1 fE.size,(hS2 k hk).1⟩));have yR:=hFr.heap (fE.heap yd (oN (by omega))) hYw;have oR:On Rd w wr:=oE.trans (hFr.on (λk hk=>⟨by have:=(hRd k hk).2;omega,hYq k hk⟩));have lYr:=lJ _ _ _ hJr;have FR:Fr Y W wr:=Fe.grow hFr Gd;have GR:aJ W Y Yr:=Gd.trans Fe.size hGr;by_cases hlt:j<g2.ents.length
    ·have hjx:j<x2.length:=by rw[<-HGL.out];exact hlt
     have⟨X,hX⟩:=nM (x2[j]);have⟨E,hE⟩:=nM (g2.ents[j]);have hEX:E=X.e:=by rw[<-hE,<-hX];simp only[HGE.out];simp
     have⟨eb,eo,hea,hebS,q0,q1,q2,q3⟩:=wR.ent hlt;rw[hE]at q0 q1 q2 q3;have HTK:Hid ((x2.take (j+1)).filter f=(x2.take j).filter f++(if f X=true then [X] else [])):=by show _=_;rw[Ae f x2 j hjx,hX]
     have HSX:=HSP j hjx;rw[hX]at HSX;have HSX':Hid (f X=true->cV q (some (h,t))=(dn++(x2.take j).filter f)++X :: ((x2.drop (j+1)).filter f++jS q rest2)):=HSX;subst hea;obtain⟨Wa,hWa,-,xa,-⟩:=al1 wr (.cells #[.string E.key,.string E.val,.i E.size,.i E.over] 69);have⟨g0,g1,g2',g3⟩:=iM xa;have fa:Fr Bl.none wr Wa:=hWa▸(AF _ wr).alloc _;have oA:On Rd w Wa:=oR.trans (fa.on (λk hk=>⟨by have:=(hRd k hk).2;omega,λh=>h⟩));have⟨s0,s1⟩:=bS (oA.heap xq r4);have hH:=Bm q E.key Wa;have HEX:Hid (E=X.e):=hEX;have za:wr.heap.size<Wa.heap.size:=(gL xa);clear hEX hE hX HSX;cases hb:q.has E.key
     ·rw[hb]at hH
      have hfX:f X=false:=by show q.has X.e.key=false;rw[<-HEX.out];exact hb
      gi_wp2_with (refine⟨trivial,rfl,?_⟩;gi_at_call 136;apply(DU l2 (BK.2 hH)).mono;clear hH;rintro e Wb ⟨rfl,hbb⟩);have fb:Fr Bl.none wr Wb:=fa.trans (AA hbb);have hJb:=sJ _ _ _ _ hJr (fb.on (λk hk=>⟨lYr k hk,λh=>h⟩));have HN:Hid (J (dn++(x2.take (j+1)).filter f) Yr Wb):=by
       show J _ _ _
       rw[HTK.out,hfX];simpa using hJb
      refine⟨λ_ h=>(by cases h),?_⟩;gi_wp2;go_roundw
      case rel=>exact⟨j+1,Yr,by omega,by go_num,HN,hFr.trans (fb.mono (λ_ h=>h.elim)),hGr⟩
      case measure=>simp[intOf];omega
     ·rw[hb]at hH
      have hfX:f X=true:=by show q.has X.e.key=true;rw[<-HEX.out];exact hb
      gi_wp2_with (refine⟨trivial,rfl,?_⟩;gi_at_call 136;apply(DU l2 (BK.2 hH)).mono;clear hH;rintro e Wb ⟨rfl,hbb⟩;have⟨t0,t1,t2,t3⟩:=iM ((hbb.block _ za).trans xa);have fb:Fr Bl.none wr Wb:=fa.trans (AA hbb);have yb0:Wb.c W.heap.size 0=some (.func (.yield l) #[] #[]):=(by simp[World.cell?,fb.heap yR (λh=>h)]);have⟨fn,tmps,assign,body,hy,hR⟩:=hY _ X _ #[.agg #[.string E.key,.string E.val,.i E.size,.i E.over]] Bl.none Yr Wb (HSX' hfX) (sJ _ _ _ _ hJr (fb.on (λk hk=>⟨lYr k hk,λh=>h⟩))) (by show _=_;rw[HEX.out]) (λ_ h=>h.elim) (FR.trans (fb.mono (λ_ h=>h.elim))) GR);refine⟨rfl,(nL l2 (dM hR)).mono ?_⟩;clear hy hR;have FB:Fr Y2 We Wb:=hFr.trans (fb.mono (λ_ h=>h.elim));rintro e Wf (⟨rfl,Y5,hJ5,hF5,hG5⟩|⟨rfl,Y5,hJ5,hF5,hG5⟩)
      ·have HN:Hid (J (dn++(x2.take (j+1)).filter f) Y5 Wf):=by
        show J _ _ _
        rw[HTK.out,hfX,AW rfl,<-BX];exact hJ5
       clear hJ5;gi_wp2;go_roundw
       case rel=>exact⟨j+1,Y5,by omega,by go_num,HN,FB.grow hF5 hGr,hGr.trans FB.size hG5⟩
       case measure=>simp[intOf];omega
      ·gi_wp2
       exact⟨Y5,⟨rfl,_,by rw[HSX'.out hfX];exact⟨(x2.drop (j+1)).filter f++jS q rest2,by simp⟩,by simp,hJ5⟩,FB.grow hF5 hGr,hGr.trans FB.size hG5⟩
    ·obtain rfl:j=g2.ents.length:=by omega
     have HJ:Hid (J (jS q (pre2++[x2])) Yr wr):=by
      show J _ _ _
      rw[<-HDN.out];have e:x2.take g2.ents.length=x2:=by rw[HGL.out];exact BG
      rw[e]at hJr;exact hJr
     clear hJr;gi_wp2;exact⟨Yr,HJ,hFr,hGr⟩
  ·intro D Y2 Wg hD hYD hJg hFg hGg hDW
   gi_wp2;refine mO rfl hDW ⟨⟨_,rfl⟩,Y2,((F6.trans hFg).putObj (.inr (by omega)) _),(CQ W Y).trans F6.size hGg,.inl (sJ _ _ _ _ hJg ((CJ _ _).putObj hYD _))⟩
  ·rintro D c pre Y2 Wg hD hYD hpre hne ⟨rfl,pp,h1,h2,h3⟩ hFg hGg hDW
   gi_wp2;refine mO rfl hDW ⟨⟨_,rfl⟩,Y2,((F6.trans hFg).putObj (.inr (by omega)) _),(CQ W Y).trans F6.size hGg,.inr ⟨pp,h1,h2,sJx _ _ _ _ h3 ((CJ _ _).putObj hYD _)⟩⟩
variable {fs:Fs}
def T.ents:Nat->T->List En
 |_,.leaf _ es=>es
 |0,.branch _ _ _=>[]
 |h+1,.branch _ _ kids=>kids.flatMap (T.ents h)
theorem qEw{s x:Sp}(a:le s.lo x.lo=true)(b:Un x.hi s.hi=true){k}(h:x.has k=true):s.has k=true:=by
 unfold Sp.has at *;rw[AN]at *;exact⟨bF a h.1,Vr b h.2⟩
theorem sB{m}:∀(s:Sp) (ks:List ByteArray) (c:List m),c.length=ks.length+1->ks.Pairwise (λa b=>lt a b=true)->(∀k∈ks,lt s.lo k=true/\Sp.below s.hi k=true)->∀x∈parts s ks c,le s.lo x.2.lo=true/\Un x.2.hi s.hi=true
 |s,_,[],hl,_,_=>by simp at hl
 |s,[],k :: c,hl,_,_=>by
  have:=AG (by simpa using hl);subst this;simp only[parts,AS];rintro x rfl;exact⟨bI _,qAm _⟩
 |s,q :: ks,k :: c,hl,hp,hb=>by
  have⟨i,h⟩:=BC.1 hp;have⟨e,f⟩:=hb q (by simp);simp only[parts,AR];rintro x (rfl|d)
  ·exact⟨bI _,Gr (k:=q) f (λg=>by rw[g,Tq]at e;cases e)⟩
  ·have⟨j,l⟩:=sB ⟨q,s.hi⟩ ks c (by grind) h (λx d=>⟨i x d,(hb x (by simp[d])).2⟩) x d
   exact⟨bF (gN e) j,l⟩
theorem iQ{b}:∀(s:Sp) (ks:List ByteArray) (a:List b),(parts s ks a).map (·.1)=a
 |_,_,[]=>by simp[parts]
 |s,[],k :: a=>by simp[parts,iQ ⟨s.hi,s.hi⟩ [] a]
 |s,q :: ks,k :: a=>by simp[parts,iQ ⟨q,s.hi⟩ ks a]
theorem dG {h p ks f s}(y:aU fs (h+1) (.branch p ks f) s):f.length=ks.length+1/\ks.Pairwise (λa b=>lt a b=true)/\(∀k∈ks,lt s.lo k=true/\Sp.below s.hi k=true)/\(∀k∈ks,k.size<=24)/\∀x∈parts s ks f,aU fs h x.1 x.2:=by
 have⟨g,r,u,v,_,w,⟨o,j,c⟩,q⟩:=y;have⟨i,n⟩:=Uo r u;rw[v]at i n;refine⟨w,i,λk e=>?_,λk e=>(n k e).2,q⟩;obtain⟨d,l,rfl⟩:=AU e;have m:=BB.1 i;constructor
 ·rcases JE d with rfl|t
  ·exact j
  ·exact eV j (m 0 d o l t)
 ·unfold Sp.has at c
  rw[AN]at c;by_cases hl:d=ks.length-1
  ·grind
  ·exact below_le (gN (m d (ks.length-1) l (by omega) (by omega))) c.2
theorem gG:∀{h:Nat}{t:T}{s:Sp},aU fs h t s->∀e∈T.ents h t,s.has e.e.key=true
 |0,.leaf p es,s,ht,e,a=>by have⟨g,_,_,_,_,d,_⟩:=ht;exact d e a
 |0,.branch _ _ _,s,ht,e,a=>by simp[T.ents]at a
 |h+1,.leaf _ _,s,ht,e,a=>by simp[aU]at ht
 |h+1,.branch p ks kids,s,ht,e,a=>by
  have⟨k,l,i,_,f⟩:=dG ht;simp only[T.ents,AV]at a;have⟨m,j,a⟩:=a;have:m∈(parts s ks kids).map (·.1):=by rw[iQ];exact j
  obtain⟨c,b,rfl⟩:=AY.1 this;have⟨n,o⟩:=sB s ks kids k l i c b;exact qEw n o (gG (f c b) e a)
theorem qEi{x q:Sp}{k}(a:x.has k=true)(b:q.has k=true):x.meets q=true:=by
 unfold Sp.has at a b;unfold Sp.meets;rw[AN]at *;exact⟨below_le b.1 a.2,below_le a.1 b.2⟩
theorem Mz (q):∀{h:Nat}{t:T}{s:Sp},aU fs h t s->jS q (lvs h t s q)=(T.ents h t).filter (λx=>q.has x.e.key)
 |0,.leaf p es,s,ht=>by simp[jS,lvs,T.ents]
 |0,.branch _ _ _,s,ht=>by rfl
 |h+1,.leaf _ _,s,ht=>by simp[aU]at ht
 |h+1,.branch p ks kids,s,ht=>by
  have⟨b,n,m,_,f⟩:=dG ht;have k:∀(a:List (T×Sp)),(∀x∈a,aU fs h x.1 x.2)->jS q (a.flatMap (λx=>if x.2.meets q=true then lvs h x.1 x.2 q else []))=((a.map (·.1)).flatMap (T.ents h)).filter (λx=>q.has x.e.key):=by
   intro a b;induction a with
   |nil=>rfl
   |cons x a ih =>
    have c:=b x (by simp);have e:jS q (if x.2.meets q=true then lvs h x.1 x.2 q else [])=(T.ents h x.1).filter (λx=>q.has x.e.key):=by
     split
     ·exact Mz q c
     ·rename_i hm
      symm;rw[show jS q []=[] from rfl,JU];intro d g i;exact hm (qEi (gG c d g) i)
    rw[BD,AJ,AJ,GE,<-ih (λl j=>b l (by simp[j])),<-e];unfold jS;rw[BU]
  simp only[lvs,T.ents];rw[k _ f,iQ]
attribute [local go_sem] CM
def chE(c:Ch):En:=⟨⟨c.key,c.val,c.val.size,0⟩,[]⟩
def dC(cs:List Ch):List En:=(cs.filter (λc=>!c.gone)).map chE
theorem Si(cs:List Ch)(j)(h:j<cs.length):dC (cs.take (j+1))=dC (cs.take j)++(if cs[j].gone=true then [] else [chE cs[j]]):=by
 unfold dC;rw[Ae _ cs j h,BM];cases cs[j].gone<;>rfl
theorem Mg(cs j)(h:j<cs.length)(a:cs[j].gone=false):dC cs=dC (cs.take j)++chE cs[j]:: dC (cs.drop (j+1)):=by
 unfold dC;conv=>lhs;rw[<-CB j cs,GE,CC h,FQ]
 simp[a]
theorem Jz{w:World}{b i cs e v}(h:w.heap[b]?=some (.cells cs e))(k:cs[i]?=some v):w.setCell ⟨b,i,none⟩ v=w:=by
 have f:(w.setCell ⟨b,i,none⟩ v).heap=w.heap:=by
  apply Array.ext
  ·simp[World.setCell]
  ·intro g c d
   by_cases hk:g=b
   ·subst hk
    have a:=aC h i v;have j:cs.setIfInBounds i v=cs:=by
     have⟨m,n⟩:=jJ.1 k;apply Array.ext
     ·simp
     ·intro o l p
      rw[Array.getElem_setIfInBounds (by simpa using l)];split
      ·subst_vars;rfl
      ·rfl
    rw[j,<-h]at a;rw[ET c,ET d]at a;exact LJ a
   ·have:=CY w ⟨b,i,none⟩ v g hk
    rw[ET c,ET d]at this;exact LJ this
 cases w
 simp only[World.setCell]at f⊢;rw[f]
theorem Jb(c:Ch)(w):
  cL 97 #[.agg #[.string c.key,.string c.val,.bool c.gone]] w λe w'=>e=.returned (.agg #[.string c.key,.string c.val,.i c.val.size,.i 0])/\bW w w':=by
 have⟨b,f⟩:=nM (w.alloc (.cells #[.string c.key,.string c.val,.bool c.gone] 101));have⟨a,g⟩:=nM (b.alloc (.cells #[.string ⟨#[]⟩,.string ⟨#[]⟩,.i 0,.i 0] 69));have r:b.heap.size=w.heap.size+1:=by rw[<-f];simp
 have o:b.heap[w.heap.size]?=some (.cells #[.string c.key,.string c.val,.bool c.gone] 101):=f▸aA w _;have q:a.heap[w.heap.size]?=some (.cells #[.string c.key,.string c.val,.bool c.gone] 101):=g▸aI _ o;have d:a.heap[w.heap.size+1]?=some (.cells #[.string ⟨#[]⟩,.string ⟨#[]⟩,.i 0,.i 0] 69):=by rw[<-r];exact g▸aA b _
 have⟨s,t,u⟩:=eQ q;obtain⟨x,y,z,A⟩:=iM d;have B:=aB d;have m:=aC (aC (aC (aC d 0 (.string c.key)) 1 (.string c.val)) 2 (.i c.val.size)) 3 (.i 0);obtain⟨i,j,k,l⟩:=iM (w:=(((a.setCell ⟨w.heap.size+1,0,none⟩ (.string c.key)).setCell ⟨w.heap.size+1,1,none⟩ (.string c.val)).setCell ⟨w.heap.size+1,2,none⟩ (.i c.val.size)).setCell ⟨w.heap.size+1,3,none⟩ (.i 0)) (by simpa using m);have h:Hid (bW w ((((a.setCell ⟨w.heap.size+1,0,none⟩ (.string c.key)).setCell ⟨w.heap.size+1,1,none⟩ (.string c.val)).setCell ⟨w.heap.size+1,2,none⟩ (.i c.val.size)).setCell ⟨w.heap.size+1,3,none⟩ (.i 0))):=by
  have n:bW w a:=by rw[<-g,<-f];exact(bA _ _).alloc (by simp) _
  exact(((n.setCell (p:=⟨w.heap.size+1,0,none⟩) (by simp) _).setCell (p:=⟨w.heap.size+1,1,none⟩) (by simp) _).setCell (p:=⟨w.heap.size+1,2,none⟩) (by simp) _).setCell (p:=⟨w.heap.size+1,3,none⟩) (by simp) _
 go_enter Tryz.func97,Tryz.ntmps97;go_wp2;refine BI (v:=.agg #[.string c.key,.string c.val,.i c.val.size,.i 0]) ?_ rfl ⟨rfl,h⟩;simp[results,Tryz.results97,go_sem,i,j,k,l]
def qIp(J Jx:List En->Bl->World->Prop)(xs pre ts:List En)(Y:Bl)(W:World)(e:Ending)(W':World):Prop :=
 (e=.returned (.bool true)/\∃Y',J (pre++ts) Y' W'/\Fr Y W W'/\aJ W Y Y') \/
 (e=.returned (.bool false)/\∃Y' pp,pp <+: xs/\pp≠[]/\Jx pp Y' W'/\Fr Y W W'/\aJ W Y Y')
theorem Mf(l xs J Jx)(sJ:rH J)(lJ:Lu J)(Y₀ W₀)(hY:∀pre x rest args S Y' W',xs=pre++x :: rest->J pre Y' W'->qF x args S W'->(∀k,S k->¬Y' k/\k<W'.heap.size)->Fr Y₀ W₀ W'->aJ W₀ Y₀ Y'->YieldAt Fence.wide 0 Tryz.prog l args W' (qGk J Jx (pre++[x]) Y' W'))(ca cc cs S pre post Y W)(hx:xs=pre++(dC cs++post))(hR:aD W S ca (cs.flatMap Ch.cells))(hS:∀b,S b->¬Y b/\b<W.heap.size)(hn:cs.length<=1000000)(hc:cs.length<=cc)(h0:J pre Y W)(hF:Fr Y₀ W₀ W)(hG:aJ W₀ Y₀ Y):
  CallsIn Fence.wide 0 Tryz.prog 196 #[.slice ca cs.length cc,.func (.yield l) #[] #[]] W (qIp J Jx xs pre (dC cs) Y W):=by
 refine JS Tryz.func196 rfl trivial ?_ rfl;simp only[Tryz.ntmps196,jA,jB,jN,Nat.reduceAdd,Nat.reduceSub,jR,jO,jP,jT,jE,jF];have HX:Hid (xs=pre++(dC cs++post)):=hx;clear hx;gi_wp2;gi_loopw [9] (λi wr=>∃(j:Nat) (Yr:Bl),j<=cs.length/\i=.i j/\J (pre++dC (cs.take j)) Yr wr/\Fr Y W wr/\aJ W Y Yr) (λi _=>cs.length-(intOf i).toNat)
 case atStart=>exact⟨0,Y,AH _,rfl,by simpa[dC] using h0,AF _ _,CQ _ _⟩
 case round =>
  obtain⟨j,Yr,hj,rfl,hJr,hFr,hGr⟩:=hrel;have zr:=hFr.size;have lYr:=lJ _ _ _ hJr;by_cases hlt:j<cs.length
  ·have⟨rb,ro,hca,hrb,k0,k1,k2⟩:=(hR.on (hFr.on (λk hk=>⟨(hS k hk).2,(hS k hk).1⟩))).ch hlt
   subst hca;have⟨c,hcj⟩:=nM (cs[j]);rw[hcj]at k0 k1 k2;have HT:Hid (dC (cs.take (j+1))=dC (cs.take j)++(if c.gone=true then [] else [chE c])):=by show _=_;rw[Si cs j hlt,hcj]
   have HSP:Hid (c.gone=false->dC cs=dC (cs.take j)++chE c :: dC (cs.drop (j+1))):=by
    intro hg;have:=Mg cs j hlt (by rw[hcj];exact hg);rw[hcj]at this;exact this
   obtain⟨Wa,hWa,-,xa,-⟩:=al1 wr (.cells #[.string c.key,.string c.val,.bool c.gone] 101);have⟨g0,g1,g2⟩:=eQ xa;have fa:Fr Bl.none wr Wa:=hWa▸(AF _ wr).alloc _;have gfr:=aB xa;have hE:=Jb c Wa;clear hcj hR;cases hg:c.gone
   ·have hpp:xs=(pre++dC (cs.take j))++chE c :: (dC (cs.drop (j+1))++post):=by rw[HX.out,HSP.out hg];simp
    have HP:Hid (xs=(pre++dC (cs.take j))++chE c :: (dC (cs.drop (j+1))++post)):=hpp;rw[hg]at g2 k2 hE hWa xa;have hsame:=Jz (i:=2) xa (v:=.bool false) rfl;gi_wp2_with (refine⟨trivial,rfl,?_⟩;gi_at_call 97;apply(BK.2 hE).mono;rintro e Wb ⟨rfl,hbb⟩;have fb:Fr Bl.none wr Wb:=fa.trans (AA hbb);have⟨fn,tmps,assign,body,hy,hRr⟩:=hY _ (chE c) _ #[.agg #[.string c.key,.string c.val,.i c.val.size,.i 0]] Bl.none Yr Wb HP (sJ _ _ _ _ hJr (fb.on (λk hk=>⟨lYr k hk,λh=>h⟩))) rfl (λ_ h=>h.elim) ((hF.grow hFr hG).trans (fb.mono (λ_ h=>h.elim))) (hG.trans hF.size hGr));refine⟨rfl,(dM hRr).mono ?_⟩;have FB:Fr Y W Wb:=hFr.trans (fb.mono (λ_ h=>h.elim));rintro e Wf (⟨rfl,Y5,hJ5,hF5,hG5⟩|⟨rfl,Y5,hJ5,hF5,hG5⟩)
    ·have HN:Hid (J (pre++dC (cs.take (j+1))) Y5 Wf):=by
      show J _ _ _
      rw[HT.out,hg,AQ (by simp),<-BX];exact hJ5
     gi_wp2;go_roundw
     case rel=>exact⟨j+1,Y5,by omega,by go_num,HN,FB.grow hF5 hGr,hGr.trans FB.size hG5⟩
     case measure=>simp[intOf];omega
    ·gi_wp2
     go_ret;exact .inr ⟨rfl,Y5,_,by rw[HP.out];exact⟨dC (cs.drop (j+1))++post,by simp⟩,by simp,hJ5,FB.grow hF5 hGr,hGr.trans FB.size hG5⟩
   ·have HN:Hid (J (pre++dC (cs.take (j+1))) Yr Wa):=by
     show J _ _ _
     rw[HT.out,hg];simpa using sJ _ _ _ _ hJr (fa.on (λk hk=>⟨lYr k hk,λh=>h⟩))
    rw[hg]at g2 k2 hWa;gi_wp2;refine⟨trivial,?_⟩;gi_wp2;refine⟨λ_ h=>(by cases h),?_⟩;gi_wp2;go_roundw
    case rel=>exact⟨j+1,Yr,by omega,by go_num,HN,hFr.trans (fa.mono (λ_ h=>h.elim)),hGr⟩
    case measure=>simp[intOf];omega
  ·obtain rfl:j=cs.length:=by omega
   have HJ:Hid (J (pre++dC cs) Yr wr):=by rw[BG]at hJr;exact hJr
   gi_wp2;go_ret;exact .inl ⟨rfl,Yr,HJ,hFr,hGr⟩
