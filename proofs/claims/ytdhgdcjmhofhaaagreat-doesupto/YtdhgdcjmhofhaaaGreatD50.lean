import Derived.Test.YtdhgdcjmhofhaaaGreatD49
set_option linter.all false
set_option maxRecDepth 100000
set_option maxHeartbeats 8000000
namespace Go.Proofs.YtdhgdcjmhofhaaaGreat.Tree
open Go.RowKit Pages
variable {K:Bl} {M:RM} {c:List RT} {i q:Nat}
theorem aZ.notK {w}(h:aZ w K q M){k}(f:fpR q M k):¬K k:=λe=>by
 have⟨_,b,c,d⟩:=h.kp k e;rcases f with a|a|⟨i,g,a⟩
 ·exact b a
 ·exact c a
 ·exact d i g a
theorem Rv (h:c.Pairwise (λa b=>∀k,fpX a k->¬fpX b k)){j t}(m:c[j]?=some t):∀s∈c.eraseIdx j,∀k,fpX s k->¬fpX t k:=λs p k d e=>by
 obtain⟨i,f,o,rfl⟩:=LH.1 p;obtain⟨g,rfl⟩:=AD.1 m;rcases Nat.lt_or_gt_of_ne o with n|l
 ·exact BB.1 h i j f g n k d e
 ·exact BB.1 h j i g f l k e d
structure Upd (E:List RT) (ks:List ByteArray) (i m:Nat) (ts:List RT):Prop where
 len:ts.length=E.length
 each:∀a (h:a<E.length) (h':a<ts.length),ts[a].num=E[a].num/\ts[a].wr=E[a].wr/\ts[a].bg=E[a].bg/\ts[a].l=E[a].l/\ts[a].ch=E[a].ch/\ts[a].oth=E[a].oth++(if a<i then ks else if a=i then ks.take m else [])
theorem Upd.start(b ks):Upd b ks 0 0 b:=⟨rfl,λa c d=>⟨rfl,rfl,rfl,rfl,rfl,by by_cases e:a=0<;>simp[e]⟩⟩
theorem Upd.next {ks d}(h:Upd c ks i ks.length d):Upd c ks (i+1) 0 d:=⟨h.len,λa m n=>by
 have⟨e,f,g,j,k,l⟩:=h.each a m n;refine⟨e,f,g,j,k,l.trans ?_⟩;congr 1;rcases GH a i with b|b|b
 ·rw[AW b,AW (by omega)]
 ·rw[AQ (by omega),AW b,AW (by omega),BG]
 ·rw[AQ (by omega),AQ (by omega),AQ (by omega)];split<;>simp⟩
theorem Upd.step {ks i m b}(h:Upd c ks i m b)(hi:i<b.length)(p:m<ks.length)(q):Upd c ks i (m+1) (b.set i (b[i].lost ks[m] q)):=⟨by rw[CL];exact h.len,λa o n=>by
 rw[CL]at n;have⟨d,f,g,j,k,l⟩:=h.each a o n;rw[DP];by_cases e:i=a
 ·subst e
  rw[AW rfl];refine⟨d,f,g,j,k,?_⟩;show b[i].oth++[ks[m]]=_
  rw[l,AQ (by omega),AW rfl,AQ (by omega),AW rfl,AK p,BX]
 ·rw[AQ e]
  refine⟨d,f,g,j,k,l.trans ?_⟩;congr 1;by_cases e2:a<i
  ·rw[AW e2,AW e2]
  ·rw[AQ e2,AQ e2,AQ (by omega),AQ (by omega)]⟩
structure tB (W X:World) (K:Bl) (q:Nat) (M:RM) (b:Nat) (ob:Obj) (ca:Option Addr) (cc:Nat) (ch:List Ch) (ts:List RT):Prop where
 ref:aZ X K q {M with ts:=ts}
 fr:Fr (fpR q M) W X
 gr:∀k,Bl.or K (fpR q {M with ts:=ts}) k->Bl.or K (fpR q M) k\/W.heap.size<=k
 box:X.heap[b]?=some ob
 row:aD X (λk=>(Value.slice ca ch.length cc).ownBlock=some k) ca (ch.flatMap Ch.cells)
 nx:∀k,(k=b\/(Value.slice ca ch.length cc).ownBlock=some k)->k<X.heap.size/\¬fpR q {M with ts:=ts} k
theorem tB.lose {W X X3 b t n o p j}(h:tB W X K q M b t n o p j){s}(hi:j[i]?=some s){g c}(e:M.ov=.q g j.length c)(key){l:Value}(u:fB 9 1 s.vo s.oth.length (s.oth.map .string) [.string key] 1 X.drew l X3):
  tB W (X3.setCell ⟨g,i * 7+6,none⟩ l) K q M b t n o p (j.set i (s.lost key l)):=by
 have⟨R,F,m⟩:=(h.ref.on (CJ _ _).drew).lose hi e key u rfl;have k:=(AF _ X).drew.trans F;have w:∀d,fpR q {M with ts:=j} d->fpR q M d\/W.heap.size<=d:=λd f=>by
  rcases h.gr d (.inr f) with(a|a)|a
  ·exact absurd a (h.ref.notK f)
  ·exact .inl a
  ·exact .inr a
 have on:=k.on h.nx;refine⟨R,h.fr.grow k w,λd f=>?_,on.heap h.box (.inl rfl),h.row.on (on.mono (λd f=>.inr f)),λd f=>⟨jY (h.nx d f).1 k.size,λr=>?_⟩⟩
 ·rcases m d f with a|a
  ·exact h.gr d a
  ·have:=h.fr.size;exact .inr (vJ this a)
 ·rcases m d (.inr r) with(a|a)|a
  ·exact absurd a (R.notK r)
  ·exact(h.nx d f).2 a
  ·have y:=(h.nx d f).1;have:X.drew.heap.size=X.heap.size:=rfl;omega
theorem Zb {w}(h:aZ w K q M)(x j t)(ho:cC M.ts x (some (j,t)))(hn:M.ts.length<=8)(hl:M.now.length+t.ch.length<=1000000)(hv:M.nv<1000000000/\0<=M.nv)(hch:0<t.ch.length)(hoth:∀s∈M.ts,s.oth.length<=1000000):
  cL 80 #[.p q 2,.i x] w λe w'=>e=.returned (.tuple #[])/\∃K' v vo ts',aZ w' K' q {M with va:=M.vn,av:=M.nv,ah:=M.now,vn:=v,nv:=M.nv+1,now:=t.ch.foldl eE M.now,ov:=vo,ts:=ts'}/\Upd (M.ts.eraseIdx j) (t.ch.map (·.key)) (M.ts.eraseIdx j).length 0 ts'/\Fr (fpR q M) w w'/\∀k,Bl.or K' (fpR q {M with va:=M.vn,av:=M.nv,ah:=M.now,vn:=v,nv:=M.nv+1,now:=t.ch.foldl eE M.now,ov:=vo,ts:=ts'}) k->Bl.or K (fpR q M) k\/w.heap.size<=k:=by
 have HF:Hid (∀X,bW w X->cL 66 #[.pointer (some ⟨q,2,none⟩),.int .i64 x] X λe w'=>e=.returned (.int .i64 (j:Int))/\w'=X):=λX hX=>gI h ho hn X hX
 have HA:Hid (∀X,bW w X->cL 79 #[.pointer (some ⟨q,2,none⟩),.int .i64 x] X λe w'=>∃v,e=.returned (.agg #[v,.int .i64 (M.nv+1)])/\w'.ownsRow 0 71 2 v (t.ch.foldl eE M.now).length (aG (t.ch.foldl eE M.now))/\bW X w'/\∀k,v.ownBlock=some k->X.heap.size<=k):=λX hX=>uM (h.below hX) x j t ho hn hl hv
 have hj:=ho.1
 have hjl:j<M.ts.length:=(AD.1 hj).1
 have hmem:t∈M.ts:=BL hj
 obtain⟨L,hL⟩:=nM (t.ch.foldl eE M.now)
 rw[hL]at HA⊢
 obtain⟨E,hE⟩:=nM (M.ts.eraseIdx j)
 rw[hE]
 obtain⟨ba,bc,e1,_⟩:=(h.each t hmem).bg
 obtain⟨la,lc,e2,_⟩:=(h.each t hmem).l
 obtain⟨ca,cc,e3⟩:=aF (h.each t hmem).ch
 obtain⟨oa,oc,e4⟩:=aF (h.each t hmem).oth
 have hvc:=(h.each t hmem).ch
 obtain⟨num,wrb,bg,bv,tl,ch,oth,vb,vl,vc,vo⟩:=t
 dsimp only at e1 e2 e3 e4 hl hch hvc⊢
 subst e1 e2 e3 e4
 obtain⟨g,c,hc,hTX⟩:=h.txCells hj
 obtain⟨na,nc,hvn,_⟩:=h.now
 have HTX:Hid (∀X,bW w X->Bt X q j M ⟨num,wrb,bg,bv,tl,ch,oth,.slice ba bg.length bc,.slice la tl.length lc,.slice ca ch.length cc,.slice oa oth.length oc⟩ g c):=hTX
 have B0:bW w w:=AC _ _
 have hchi:(0:Int)<(ch.length:Int):=by omega
 have hql:=(gL h.box)
 have HW4:Hid (∀W2 W3 (v3:Value),bW w W2->W2.heap[w.heap.size]?=some (.cells #[.int .i64 num,.bool wrb,.slice ba bg.length bc,.int .i64 bv,.slice la tl.length lc,.slice ca ch.length cc,.slice oa oth.length oc] 119)->bW W2 W3->W3.ownsRow 0 71 2 v3 L.length (aG L)->(∀k,v3.ownBlock=some k->W2.heap.size<=k)->∃W4 W5 W6,W3.alloc (.cells #[v3,.int .i64 (M.nv+1)] 32)=W4/\(W4.setCell ⟨q,4,none⟩ (.slice na M.now.length nc)).setCell ⟨q,5,none⟩ (.int .i64 M.nv)=W5/\(W5.setCell ⟨q,2,none⟩ v3).setCell ⟨q,3,none⟩ (.int .i64 (M.nv+1))=W6/\W4.heap[q]?=some M.obj/\(∃ob,W5.heap[q]?=some (.cells ob 43)/\W5.cell? ⟨q,2,none⟩=some M.vn/\W5.cell? ⟨q,3,none⟩=some (.int .i64 M.nv))/\W4.heap[W3.heap.size]?=some (.cells #[v3,.int .i64 (M.nv+1)] 32)/\W5.heap[W3.heap.size]?=some (.cells #[v3,.int .i64 (M.nv+1)] 32)/\aZ W6 (λk=>K k\/v3.ownBlock=some k) q {M with va:=M.vn,av:=M.nv,ah:=M.now,vn:=v3,nv:=M.nv+1,now:=L}/\W6.heap[w.heap.size]?=some (.cells #[.int .i64 num,.bool wrb,.slice ba bg.length bc,.int .i64 bv,.slice la tl.length lc,.slice ca ch.length cc,.slice oa oth.length oc] 119)/\Fr (Bl.one q) w W6):=by
  intro W2 W3 v3 hB2 x2 hB3 hO3 hl3
  have hB4:bW w W3:=hB2.trans (hB3.mono hB2.size)
  have z3:=hB4.size
  have BA:bW w (W3.alloc (.cells #[v3,.int .i64 (M.nv+1)] 32)):=hB4.alloc hB4.size _
  obtain⟨W4,hW4,-,y4,-⟩:=al1 W3 (.cells #[v3,.int .i64 (M.nv+1)] 32)
  rw[hW4]at BA
  have hR4:=h.below BA
  have q5:=aC (aC hR4.box 4 (.slice na M.now.length nc)) 5 (.int .i64 M.nv)
  obtain⟨W5,hW5⟩:=nM ((W4.setCell ⟨q,4,none⟩ (.slice na M.now.length nc)).setCell ⟨q,5,none⟩ (.int .i64 M.nv))
  rw[hW5]at q5
  have f5:Fr (Bl.one q) W4 W5:=hW5▸((AF (Bl.one q) W4).setCell (p:=⟨q,4,none⟩) (.inl rfl) _).setCell (p:=⟨q,5,none⟩) (.inl rfl) _
  have q6:=aC (aC q5 2 v3) 3 (.int .i64 (M.nv+1))
  obtain⟨W6,hW6⟩:=nM ((W5.setCell ⟨q,2,none⟩ v3).setCell ⟨q,3,none⟩ (.int .i64 (M.nv+1)))
  rw[hW6]at q6
  have f6:Fr (Bl.one q) W5 W6:=hW6▸((AF (Bl.one q) W5).setCell (p:=⟨q,2,none⟩) (.inl rfl) _).setCell (p:=⟨q,3,none⟩) (.inl rfl) _
  have hO4:W4.ownsRow 0 71 2 v3 L.length (aG L):=hW4▸CG (w:=W3) hO3 _
  have hq3:W3.heap.size≠q:=λe=>by omega
  have RN:=hR4.renow (v:=v3) (L:=L) hO4 (λk hk hf=>by
   have h1:=hl3 k hk
   have h2:k<w.heap.size:=h.lies k (.inr hf)
   have:=hB2.size;omega) (M.nv+1) (w':=W6) (f5.trans f6) (by rw[<-hvn]at q6;simpa using q6)
  have x3:W3.heap[w.heap.size]?=_:=(hB3.block _ (gL x2)).trans x2
  have x4:=aI (.cells #[v3,.int .i64 (M.nv+1)] 32) x3
  rw[hW4]at x4
  have x6:=(f5.trans f6).heap x4 (oN (by omega))
  exact⟨W4,W5,W6,hW4,hW5,hW6,hR4.box,⟨_,q5,by simp[World.cell?,q5],by simp[World.cell?,q5]⟩,y4,f5.heap y4 hq3,RN,x6,(AA BA).trans (f5.trans f6)⟩
 have HEn:Hid (∀X (v3:Value),aZ X (λk=>K k\/v3.ownBlock=some k) q {M with va:=M.vn,av:=M.nv,ah:=M.now,vn:=v3,nv:=M.nv+1,now:=L}->cL 28 #[.pointer (some ⟨q,2,none⟩),.int .i64 x] X λe w'=>e=.returned (.int .i64 0)/\∃v,aZ w' (λk=>K k\/v3.ownBlock=some k) q {M with va:=M.vn,av:=M.nv,ah:=M.now,vn:=v3,nv:=M.nv+1,now:=L,ov:=v,ts:=E}/\Fr (Bl.one q) X w'/\∀k,Bl.or (λk=>K k\/v3.ownBlock=some k) (fpR q {M with ov:=v,ts:=E}) k->Bl.or (λk=>K k\/v3.ownBlock=some k) (fpR q M) k\/X.heap.size<=k):=λX v3 hR=>by rw[<-hE];exact Cu hR x j _ ho hn
 have HVN:Hid (M.vn=.slice na M.now.length nc):=hvn
 clear hTX hvn
 go_enter Tryz.func80,Tryz.ntmps80
 go_wp2
 obtain⟨b6,c0,c1,c2,c3,c4,c5,c6⟩:=HTX.out w B0
 go_region_held3 (λX=>X.cell? ⟨q,6,none⟩=some (.slice (some ⟨g,0,none⟩) M.ts.length c)/\X.cell? ⟨g,j * 7,none⟩=some (.int .i64 num)/\X.cell? ⟨g,j * 7+1,none⟩=some (.bool wrb)/\X.cell? ⟨g,j * 7+2,none⟩=some (.slice ba bg.length bc)/\X.cell? ⟨g,j * 7+3,none⟩=some (.int .i64 bv)/\X.cell? ⟨g,j * 7+4,none⟩=some (.slice la tl.length lc)/\X.cell? ⟨g,j * 7+5,none⟩=some (.slice ca ch.length cc)/\X.cell? ⟨g,j * 7+6,none⟩=some (.slice oa oth.length oc))
  ((refine HTX.out _ ?_;(repeat (first|exact B0|(refine GU ?_)|(refine KN ?_ (by first|omega|(simp;omega)|exact jU _) _)|(refine JI ?_ (by first|omega|(simp;omega)|exact jU _) _)))))
  ((go_at_call 66;(with_reducible refine jC (HF.out _ ?_) ?_);(first|exact B0.drew|exact(B0.alloc B0.size _).drew|exact B0.drew.alloc B0.size _);rintro e w' ⟨rfl,hw⟩;subst w'))
 all_goals
  obtain⟨W2,hW2⟩:=nM ((w.alloc (.cells #[.int .i64 num,.bool wrb,.slice ba bg.length bc,.int .i64 bv,.slice la tl.length lc,.slice ca ch.length cc,.slice oa oth.length oc] 119)).drew)
  have B2:bW w W2:=hW2▸(B0.alloc (jU _) _).drew
  have x2:W2.heap[w.heap.size]?=some (.cells #[.int .i64 num,.bool wrb,.slice ba bg.length bc,.int .i64 bv,.slice la tl.length lc,.slice ca ch.length cc,.slice oa oth.length oc] 119):=by rw[<-hW2,FL];exact aA w _
  obtain⟨y0,y1,y2,y3,y4,y5,y6⟩:=qGc x2
  have hA:=HA.out W2 B2
  clear b6 c0 c1 c2 c3 c4 c5 c6
  go_wp2_with (first
   |(go_at_call 79;(with_reducible refine jC hA ?_);rintro e W3 ⟨v3,rfl,hO3,hB3,hl3⟩;obtain⟨a3,d3,rfl⟩:=aF hO3;obtain⟨W4,W5,W6,hW4,hW5,hW6,q4,⟨ob5,q5,q52,q53⟩,s4,s5,hR6,x6,hF6⟩:=HW4.out W2 W3 _ B2 x2 hB3 hO3 hl3;obtain⟨_,_,m2,m3,m4,m5,_⟩:=dL q4;rw[HVN.out]at m2;have f4:=aB q4;have f5:=aB q5;obtain⟨r0,r1⟩:=bS s4;obtain⟨r2,r3⟩:=bS s5;have hEn:=HEn.out W6 _ hR6)
   |(go_at_call 28;(with_reducible refine jC hEn ?_);rintro e W7 ⟨rfl,vo,hR7,hF7,hG7⟩))
  obtain⟨M7,hM7⟩:∃M7:RM,{M with va:=M.vn,av:=M.nv,ah:=M.now,vn:=.slice a3 L.length d3,nv:=M.nv+1,now:=L,ov:=vo,ts:=E}=M7:=⟨_,rfl⟩
  have F07:Fr (Bl.one q) w W7:=hF6.trans hF7
  have D7:tB W7 W7 (λk=>K k\/(Value.slice a3 L.length d3).ownBlock=some k) q M7 w.heap.size (.cells #[.int .i64 num,.bool wrb,.slice ba bg.length bc,.int .i64 bv,.slice la tl.length lc,.slice ca ch.length cc,.slice oa oth.length oc] 119) ca cc ch E:=by
   have x7:=hF7.heap x6 (oN (by omega))
   have lv:∀k,(Value.slice ca ch.length cc).ownBlock=some k->k<w.heap.size/\¬Bl.one q k:=λk hk=>⟨aM hvc hk,λe=>by simp only[Bl.one]at e;subst e;exact aQ hvc h.box (by decide) hk⟩
   have hvc7:=aS hvc (F07.on lv) (λk hk=>hk)
   obtain⟨ca',cc',ec,_,hrow⟩:=bR hvc7
   simp only[AP,CT]at ec
   obtain⟨rfl,rfl⟩:=ec
   refine⟨by rw[<-hM7];exact hR7,AF _ _,λk hk=>.inl (by rw[<-hM7]at hk⊢;exact hk),x7,hrow,λk hk=>?_⟩
   rw[<-hM7]
   rcases hk with rfl|hk
   ·refine⟨(gL x7),λhf=>?_⟩
    rcases hG7 _ (.inr hf) with(h1|h1)|h1
    ·exact hR7.notK hf h1
    ·exact absurd (h.lies _ (.inr h1)) (by omega)
    ·have:=(gL x6);omega
   ·refine⟨aM hvc7 hk,λhf=>?_⟩
    rcases hf with e|e|⟨s,hs,e⟩
    ·exact(lv k hk).2 e
    ·rcases dJ hvc7 hR7.row (by decide) with h1|h1
     ·rw[h1]at hk;cases hk
     ·exact h1 (hk.trans e.symm)
    ·rw[<-hE]at hs
     exact Rv h.apart hj s hs k e (.inl hk)
  have HFN:Hid (∀X ts',Upd E (ch.map (·.key)) E.length 0 ts'->tB W7 X (λk=>K k\/(Value.slice a3 L.length d3).ownBlock=some k) q M7 w.heap.size (.cells #[.int .i64 num,.bool wrb,.slice ba bg.length bc,.int .i64 bv,.slice la tl.length lc,.slice ca ch.length cc,.slice oa oth.length oc] 119) ca cc ch ts'->∃K' v vo ts',aZ X K' q {M with va:=M.vn,av:=M.nv,ah:=M.now,vn:=v,nv:=M.nv+1,now:=L,ov:=vo,ts:=ts'}/\Upd E (ch.map (·.key)) E.length 0 ts'/\Fr (fpR q M) w X/\∀k,Bl.or K' (fpR q {M with va:=M.vn,av:=M.nv,ah:=M.now,vn:=v,nv:=M.nv+1,now:=L,ov:=vo,ts:=ts'}) k->Bl.or K (fpR q M) k\/w.heap.size<=k):=by
   intro X ts' hU hD
   have hz7:=F07.size
   have G0:∀k,Bl.or (λk=>K k\/(Value.slice a3 L.length d3).ownBlock=some k) (fpR q M7) k->Bl.or K (fpR q M) k\/w.heap.size<=k:=λk hk=>by
    rw[<-hM7]at hk
    have hv3:∀k,(Value.slice a3 L.length d3).ownBlock=some k->w.heap.size<=k:=λk hk=>by have:=hl3 k hk;have:=B2.size;omega
    rcases hG7 k hk with(h1|h1)|h1
    ·exact h1.imp (λh'=>.inl h') (hv3 k)
    ·exact .inl (.inr h1)
    ·have:=hF6.size;exact .inr (by omega)
   refine⟨(λk=>K k\/(Value.slice a3 L.length d3).ownBlock=some k),.slice a3 L.length d3,vo,ts',by have:=hD.ref;rw[<-hM7]at this;exact this,hU,(F07.mono (λk hk=>.inl (.inl hk))).grow hD.fr (λk hk=>?_),λk hk=>?_⟩
   ·rcases G0 k (.inr hk) with(h1|h1)|h1
    ·exact absurd (FG h1) (D7.ref.notK (by rw[<-hM7]at hk⊢;exact hk))
    ·exact .inl h1
    ·exact .inr h1
   ·rcases hD.gr k (by rw[<-hM7];exact hk) with h1|h1
    ·exact G0 k h1
    ·exact .inr (by omega)
  have HOE:Hid (∀s∈E,s.oth.length<=1000000):=λs hs=>hoth s (by rw[<-hE]at hs;exact(DG _ _).subset hs)
  have HD7:Hid (tB W7 W7 (λk=>K k\/(Value.slice a3 L.length d3).ownBlock=some k) q M7 w.heap.size (.cells #[.int .i64 num,.bool wrb,.slice ba bg.length bc,.int .i64 bv,.slice la tl.length lc,.slice ca ch.length cc,.slice oa oth.length oc] 119) ca cc ch E):=D7
  obtain⟨oA,oC,hov⟩:=aF (show W7.ownsRow 0 119 7 M7.ov E.length _ from D7.ref.row)
  have HOV:Hid (M7.ov=.slice oA E.length oC):=hov
  have HB6:Hid (∀X ts',tB W7 X (λk=>K k\/(Value.slice a3 L.length d3).ownBlock=some k) q M7 w.heap.size (.cells #[.int .i64 num,.bool wrb,.slice ba bg.length bc,.int .i64 bv,.slice la tl.length lc,.slice ca ch.length cc,.slice oa oth.length oc] 119) ca cc ch ts'->X.cell? ⟨q,6,none⟩=some (.slice oA E.length oC)/\X.cell? ⟨w.heap.size,5,none⟩=some (.slice ca ch.length cc)):=λX ts' hD=>by
   have:=(dL hD.ref.box).2.2.2.2.2.2.1
   rw[show({M7 with ts:=ts'}:RM).ov=M7.ov from rfl,hov]at this
   exact⟨this,(qGc hD.box).2.2.2.2.2.1⟩
  have hE8:E.length<=8:=by rw[<-hE,CH hjl];omega
  clear hov D7 h ho hj hmem hR7 hF7 hG7 hF6 hR6 x6 hvc hEn hA hO3 hB3 hl3 hW4 hW5 hW6 q4 q5 s4 s5 m2 m3 m4 m5 f4 f5 r0 r1 r2 r3 q52 q53 x2 y0 y1 y2 y3 y4 y5 y6 hoth hM7 HW4 HEn HA HF HTX
  go_loopw [6,7] (λi k wr=>∃(a:Nat) (ts':List RT),i=.int .i64 a/\a<=E.length/\Hid (Upd E (ch.map (·.key)) a 0 ts'/\tB W7 wr (λk=>K k\/(Value.slice a3 L.length d3).ownBlock=some k) q M7 w.heap.size (.cells #[.int .i64 num,.bool wrb,.slice ba bg.length bc,.int .i64 bv,.slice la tl.length lc,.slice ca ch.length cc,.slice oa oth.length oc] 119) ca cc ch ts')) (λi _ _=>E.length-(intOf i).toNat)
  case atStart=>exact⟨0,E,rfl,AH _,Upd.start _ _,HD7.out⟩
  case round =>
   obtain⟨a,ts',rfl,ha,HH⟩:=hrel
   obtain⟨r6,r5⟩:=HB6.out wr ts' HH.out.2
   rcases BS a E.length with hlt|hge
   ·have hji:(a:Int)<(E.length:Int):=by omega
    go_wp2
    go_loopw [7] (λk wr=>∃(m:Nat) (ts':List RT),k=.int .i64 m/\m<=ch.length/\Hid (Upd E (ch.map (·.key)) a m ts'/\tB W7 wr (λk=>K k\/(Value.slice a3 L.length d3).ownBlock=some k) q M7 w.heap.size (.cells #[.int .i64 num,.bool wrb,.slice ba bg.length bc,.int .i64 bv,.slice la tl.length lc,.slice ca ch.length cc,.slice oa oth.length oc] 119) ca cc ch ts')) (λk _=>ch.length-(intOf k).toNat)
    case atStart=>exact⟨0,ts',rfl,AH _,HH.out⟩
    case round =>
     clear r6 r5 HH
     obtain⟨m,ts',rfl,hm,HH⟩:=hrel
     obtain⟨r6,r5⟩:=HB6.out wr ts' HH.out.2
     rcases BS m ch.length with hlt2|hge2
     ·have hji2:(m:Int)<(ch.length:Int):=by omega
      obtain⟨hU,hD⟩:=HH.out
      have hlen:=hU.len
      have hal:a<ts'.length:=by omega
      have hsi:ts'[a]?=some ts'[a]:=jQ hal
      obtain⟨s,hs⟩:=nM (ts'[a])
      obtain⟨g1,c1,e1,hc1,k6⟩:=hD.ref.tx hsi
      replace k6:=k6.2.2.2.2.2.2
      rw[show({M7 with ts:=ts'}:RM).ov=M7.ov from rfl,HOV.out]at e1
      simp only[AP]at e1
      replace e1:=e1.1
      subst e1
      rw[hs]at k6
      have hmem:s∈ts':=hs▸AB hal
      have hso:=(hD.ref.each s hmem).oth
      obtain⟨sa,sc,hsv⟩:=aF hso
      obtain⟨sn,hsn⟩:=nM (s.oth.length)
      rw[hsv,hsn]at hso
      rw[hsv,hsn]at k6
      have hsl:sn<=2000000:=by
       have e6:=(hU.each a hlt hal).2.2.2.2.2
       have:=HOE.out _ (AB hlt)
       rw[hs]at e6
       rw[<-hsn,e6,jK,AQ (by omega),AW rfl,AZ,AE];omega
      obtain⟨cb,co,rfl,hcb,d0,d1,d2⟩:=hD.row.ch hlt2
      obtain⟨ck,hck⟩:=nM ((ch[m]).key)
      rw[hck]at d0
      have hrow:=hD.ref.row
      obtain⟨gcur,hgc⟩:=kO (show wr.ownsRow 0 119 7 (.slice (some ⟨g1,0,none⟩) E.length oC) _ _ by rw[<-HOV.out,<-hlen];exact hrow)
      have lg:=(gL hgc)
      have lq:=(gL hD.ref.box)
      have lb:=(gL hD.box)
      have hcl:=(hD.nx cb (.inr (hcb))).1
      have nb:∀k,(k=w.heap.size\/(Value.slice (some ⟨cb,co,none⟩) ch.length cc).ownBlock=some k)->(Value.slice sa sn sc).ownBlock≠some k:=λk hk e=>(hD.nx k hk).2 (.inr (.inr ⟨s,hmem,.inr (by rw[hsv,hsn];exact e)⟩))
      have HS:Hid (∀X,bW wr X->X.cell? ⟨q,6,none⟩=some (.slice (some ⟨g1,0,none⟩) E.length oC)/\X.cell? ⟨g1,a * 7+6,none⟩=some (.slice sa sn sc)/\X.cell? ⟨w.heap.size,5,none⟩=some (.slice (some ⟨cb,co,none⟩) ch.length cc)/\X.cell? ⟨cb,co+m * 3,none⟩=some (.string ck)):=λX hX=>⟨(hX.cell (p:=⟨q,6,none⟩) lq).trans r6,(hX.cell (p:=⟨g1,a * 7+6,none⟩) lg).trans k6,(hX.cell (p:=⟨w.heap.size,5,none⟩) lb).trans r5,(hX.cell (p:=⟨cb,co+m * 3,none⟩) hcl).trans d0⟩
      have HO:Hid (wr.drew.ownsRow 0 9 1 (.slice sa sn sc) sn (s.oth.map .string)):=World.ownsRow.drew hso
      have HS9:Hid (∀X v9,fB 9 1 (.slice sa sn sc) sn (s.oth.map .string) [.string ck] 1 wr.drew v9 X->X.cell? ⟨q,6,none⟩=some (.slice (some ⟨g1,0,none⟩) E.length oC)/\X.cell? ⟨g1,a * 7+6,none⟩=some (.slice sa sn sc)/\X.cell? ⟨w.heap.size,5,none⟩=some (.slice (some ⟨cb,co,none⟩) ch.length cc)/\X.cell? ⟨cb,co+m * 3,none⟩=some (.string ck)):=λX v9 A=>by
       obtain⟨z1,z2,z3,z4⟩:=HS.out wr.drew (AC _ wr).drew
       exact⟨(A.fr.cell lq (aQ hso hD.ref.box (by decide))).trans z1,(A.fr.cell lg (aQ hso hgc (by decide))).trans z2,(A.fr.cell lb (nb _ (.inl rfl))).trans z3,(A.fr.cell hcl (nb _ (.inr (hcb)))).trans z4⟩
      have HFR:Hid (∀X v9,fB 9 1 (.slice sa sn sc) sn (s.oth.map .string) [.string ck] 1 wr.drew v9 X->∀i,X.frozen? ⟨g1,i,none⟩=false):=λX v9 A=>aB (A.fr.heap hgc (aQ hso hgc (by decide)))
      have HEND:Hid (∀X v9,fB 9 1 (.slice sa sn sc) sn (s.oth.map .string) [.string ck] 1 wr.drew v9 X->Upd E (ch.map (·.key)) a (m+1) (ts'.set a (s.lost ck v9))/\tB W7 (X.setCell ⟨g1,a * 7+6,none⟩ v9) (λk=>K k\/(Value.slice a3 L.length d3).ownBlock=some k) q M7 w.heap.size (.cells #[.int .i64 num,.bool wrb,.slice ba bg.length bc,.int .i64 bv,.slice la tl.length lc,.slice (some ⟨cb,co,none⟩) ch.length cc,.slice oa oth.length oc] 119) (some ⟨cb,co,none⟩) cc ch (ts'.set a (s.lost ck v9))):=λX v9 A=>by
       have hu:=hU.step hal (by rw[AE];exact hlt2) v9
       rw[EB,hck,hs]at hu
       exact⟨hu,hD.lose (by rw[hsi,hs]) (by rw[HOV.out,hlen]) ck (by rw[hsv,hsn];exact A)⟩
      clear HH hU hD hc1 hlen hsi hs k6 hso hsv hrow hgc d0 d1 d2 hcb nb hmem
      go_wp2
      refine dF (S:=(λX:World=>X.cell? ⟨q,6,none⟩=some (.slice (some ⟨g1,0,none⟩) E.length oC)/\X.cell? ⟨g1,a * 7+6,none⟩=some (.slice sa sn sc)/\X.cell? ⟨w.heap.size,5,none⟩=some (.slice (some ⟨cb,co,none⟩) ch.length cc)/\X.cell? ⟨cb,co+m * 3,none⟩=some (.string ck))) 23 (by kernel_rfl) ?_
      have hHeld:=(show(λX:World=>X.cell? ⟨q,6,none⟩=some (.slice (some ⟨g1,0,none⟩) E.length oC)/\X.cell? ⟨g1,a * 7+6,none⟩=some (.slice sa sn sc)/\X.cell? ⟨w.heap.size,5,none⟩=some (.slice (some ⟨cb,co,none⟩) ch.length cc)/\X.cell? ⟨cb,co+m * 3,none⟩=some (.string ck)) wr.drew from HS.out _ (AC _ wr).drew)
      refine tks [(0,.pointer (some ⟨q,2,none⟩)),(1,.pointer (some ⟨q,2,none⟩)),(2,.pointer (some ⟨q,6,none⟩)),(3,.slice (some ⟨g1,0,none⟩) E.length oC),(4,.int .i64 (a:Int)),(5,.pointer (some ⟨q,2,none⟩)),(6,.pointer (some ⟨q,2,none⟩)),(7,.pointer (some ⟨q,6,none⟩)),(8,.slice (some ⟨g1,0,none⟩) E.length oC),(9,.int .i64 (a:Int)),(10,.pointer (some ⟨g1,a * 7,none⟩)),(11,.pointer (some ⟨g1,a * 7+6,none⟩)),(12,.slice sa sn sc),(13,.pointer (some ⟨w.heap.size,5,none⟩)),(14,.slice (some ⟨cb,co,none⟩) ch.length cc),(15,.int .i64 (m:Int)),(16,.pointer (some ⟨cb,co+m * 3,none⟩)),(17,.pointer (some ⟨cb,co+m * 3,none⟩)),(18,.string ck)] (by assumption) ?_
      iterate 19 (refine⟨_,rfl,by kernel_rfl,λ_ _ _ h=>h,.inl ⟨by rfl,λw hSw=>by(try dsimp only at hSw);go_simp⟩,?_⟩;try simp only[pS])
      refine tke ?_
      refine aR (i:=19) (by kernel_rfl) rfl (λK hK=>?_)
      go_simp
      refine hK.out _ _ (λ_=>HS.out _ ((AC _ wr).drew.alloc (jU _) _)) ?_
      clear hK K
      try simp only[pS]
      refine aR (i:=20) (by kernel_rfl) rfl (λK hK=>?_)
      (refine iO wr.drew rfl (.tmp 66) (.tmp 73) 60 9 _ 1 16 rfl Tryz.underlying60 qZ rfl (by decide) (.slice sa sn sc) sn _ (by simp[Act.eval,Act.put]) HO.out [.string ck] (by simp[Act.eval,Act.put]) rfl (by simp[Value.oneCell']) (by omega) (by omega) ?_;intro v9 X9 A9;obtain⟨g9,k9,rfl⟩:=A9.shape (by decide);have hS9:=HS9.out X9 _ A9;have gfr:=HFR.out X9 _ A9)
      refine hK.out _ _ (λ_=>hS9) ?_
      clear hK K
      try simp only[pS]
      have hHeld:=hS9
      obtain⟨p1,p2,p3,p4⟩:=hS9
      refine tks [(21,.pointer (some ⟨g1,a * 7,none⟩)),(22,.pointer (some ⟨g1,a * 7+6,none⟩))] (by assumption) ?_
      iterate 2 (refine⟨_,rfl,by kernel_rfl,λ_ _ _ h=>h,.inl ⟨by rfl,λw hSw=>by(try dsimp only at hSw);go_simp⟩,?_⟩;try simp only[pS])
      refine tke ?_
      refine aR (i:=23) (by kernel_rfl) rfl (λK hK=>?_)
      go_simp
      refine hK.out _ _ (λe=>by cases e) ?_
      clear hK K
      try simp only[pS]
      refine cY (by kernel_rfl) ?_ _
      have hfin:=HEND.out X9 _ A9
      obtain⟨X10,hX10⟩:=nM (X9.setCell ⟨g1,a * 7+6,none⟩ (.slice (some ⟨g9,0,none⟩) (sn+1) k9))
      rw[hX10]at hfin⊢
      have HFI:Hid (Upd E (ch.map (·.key)) a (m+1) (ts'.set a (s.lost ck (.slice (some ⟨g9,0,none⟩) (sn+1) k9)))/\tB W7 X10 (λk=>K k\/(Value.slice a3 L.length d3).ownBlock=some k) q M7 w.heap.size (.cells #[.int .i64 num,.bool wrb,.slice ba bg.length bc,.int .i64 bv,.slice la tl.length lc,.slice (some ⟨cb,co,none⟩) ch.length cc,.slice oa oth.length oc] 119) (some ⟨cb,co,none⟩) cc ch (ts'.set a (s.lost ck (.slice (some ⟨g9,0,none⟩) (sn+1) k9)))):=hfin
      clear hfin p1 p2 p3 p4 gfr A9 hX10 hHeld
      go_wp2
      exact⟨⟨m+1,_,by simp,by omega,HFI.out⟩,by simp[intOf];omega⟩
     ·obtain rfl:m=ch.length:=by omega
      have HN:Hid (Upd E (ch.map (·.key)) (a+1) 0 ts'):=Upd.next (by have:=HH.out.1;rw[AE];exact this)
      go_wp2
      exact⟨⟨a+1,ts',by simp,by omega,HN.out,HH.out.2⟩,by simp[intOf];omega⟩
   ·obtain rfl:a=E.length:=by omega
    have hfin:=HFN.out wr ts' HH.out.1 HH.out.2
    go_wp2
    go_end0
    exact⟨rfl,hfin⟩
def qKo(n B:Nat)(w w1:World)(q:Nat)(Bk:Bl)(M:RM)(x:Int)(r:Option (Nat×RT))(z:Int):Prop :=
 (r=none/\z=3/\Lw n (B+1) w1 q Bk M.p9) \/
 (∃j t,r=some (j,t)/\((t.ch=[]/\z=0)\/(t.ch≠[]/\iT t.ch t.oth=true/\z=7)\/(t.ch≠[]/\iT t.ch t.oth=false/\z=8/\n<kI M t))/\∀X,bW w1 X->cL 28 #[.pointer (some ⟨q,2,none⟩),.int .i64 x] X λe w'=>e=.returned (.int .i64 0)/\On Bk w w'/\Lw n (B+1) w' q Bk M.p9) \/
 (∃j t,r=some (j,t)/\t.ch≠[]/\iT t.ch t.oth=false/\z=0/\∀X,bW w1 X->cL 80 #[.pointer (some ⟨q,2,none⟩),.int .i64 x] X λe w'=>e=.returned (.tuple #[])/\On Bk w w'/\Lw n (B+1) w' q Bk M.p9)
section
variable {n B:Nat}{w:World}{q:Nat}{Bk K:Bl}{D:Db}{v:Nat}{o ao:Option (Nat×T)}{ots:List (Option (Nat×T))}{M:RM}
theorem Qy(h:Wd n B w q Bk K D v o ao ots M)(Y:B<=400000)(a3:n<=4096)(W:2<=n)(x r)(t:cC M.ts x r):
  cL 14 #[.p D.d 0,.i x] w λe a=>∃z,e=.returned (.i z)/\aZ a K q M/\On Bk w a/\w.heap.size<=a.heap.size/\(∃l,l.β=D.β/\aO a 0 l/\l.fs.well/\l.fs.safe.length=n)/\qKo n B w a q Bk M x r z:=by
 have ai:=h.lk.n8;have al:=h.lk.len;have S:=h.lk.bounds;have O:∀d,fpD D d->¬Bl.or K (fpR q M) d:=λd c=>(h.apart d c).1;have L:∀{a:World},Fr (fpD D) w a->On Bk w a:=λb=>b.on (λd c=>⟨(h.book d c).1,λV=>(h.apart d V).2 c⟩);have a5:∀{a X w':World},On Bk w a->bW a X->Fr (fpR q M) X w'->On Bk w w':=λ{a X w'} a4 j G=>by
  have am:=a4.size;have an:=j.size;exact a4.trans ((vV j (λd c=>by have:=(h.book d c).1;omega)).trans (G.on (λd c=>⟨by have:=(h.book d c).1;omega,λV=>(h.book d c).2 (.inr V)⟩)))
 cases r with
 |none =>
  apply(qJl D x w h.lk.db (by omega) (h.lk.miss t)).mono;rintro e a ⟨rfl,Z,a9⟩;have b:Fr (fpD D) w a:=a9.mono (λd c=>.inl (.inl c));have u:=h.ref.aside b O;exact⟨3,rfl,u,L b,b.size,⟨D,rfl,Z,h.lk.well,h.lk.store.len⟩,.inl ⟨rfl,rfl,h.both rfl rfl b (CQ _ _) (h.lk.more Z (JP B 1)) u (AF _ _) (λd c=>.inl c) rfl rfl rfl rfl rfl ⟨rfl,rfl,rfl,rfl,rfl⟩⟩⟩
 |some p =>
  have⟨f,g⟩:=p;have ak:=(AD.1 t.1).1;have a2:f<D.ts.length:=by omega
  have aj:=S.2.2 g (BL t.1);have P:∀{a:World}{D':Db} (z:Int),(D'.d=D.d/\D'.β=D.β)->Fr (fpD D) w a->aJ w (fpD D) (fpD D')->(∀N,Lk n (B+1) a D' v o ao (ots.eraseIdx f) {M with ov:=N,ts:=M.ts.eraseIdx f})->aZ a K q M/\On Bk w a/\w.heap.size<=a.heap.size/\(∃l,l.β=D.β/\aO a 0 l/\l.fs.well/\l.fs.safe.length=n)/\∀X,bW a X->cL 28 #[.p q 2,.i x] X λe w'=>e=.returned (.i 0)/\On Bk w w'/\Lw n (B+1) w' q Bk M.p9:=by
   intro a D' z ⟨T,J⟩ b m k;have u:=h.ref.aside b O;have H:=k (.bool false);refine⟨u,L b,b.size,⟨D',J,H.db,H.well,H.store.len⟩,λX j=>?_⟩;apply(Cu (u.below j) x f g t (by omega)).mono;rintro e w' ⟨rfl,N,R,aa,Q⟩;have G:Fr (fpR q M) X w':=aa.mono (λd c=>.inl (.inl c));have ae:=j.size;exact⟨rfl,a5 (L b) j G,h.both T J b m (k N) R ((AA j).trans G) (λd c=>(Q d c).imp id (λa7=>by omega)) rfl rfl rfl rfl rfl ⟨rfl,rfl,rfl,rfl,rfl⟩⟩
  by_cases hch:g.ch=[]
  ·apply(Al h.lk (by omega) x f g t 0 (.inl ⟨hch,rfl⟩)).mono
   rintro e a ⟨rfl,D',I,b,m,k⟩;have⟨y,A,C,E,F⟩:=P 0 I b m k;exact⟨0,rfl,y,A,C,E,.inr (.inl ⟨f,g,rfl,.inl ⟨hch,rfl⟩,F⟩)⟩
  ·cases hcf:iT g.ch g.oth with
   |true =>
    apply(Al h.lk (by omega) x f g t 7 (.inr ⟨hch,hcf,rfl⟩)).mono;rintro e a ⟨rfl,D',I,b,m,k⟩;have⟨y,A,C,E,F⟩:=P 7 I b m k;exact⟨7,rfl,y,A,C,E,.inr (.inl ⟨f,g,rfl,.inr (.inl ⟨hch,hcf,rfl⟩),F⟩)⟩
   |false =>
    by_cases hroom:(bZ o (D.ts[f]).cs (dK n (cQ (osL o ao ots f)))).2.length<=(dK n (cQ (osL o ao ots f))).length
    ·apply(Aj h.lk Y a3 W x f g t hch hcf a2 hroom).mono
     rintro e a ⟨rfl,D',o',⟨T,J⟩,b,m,k⟩;have u:=h.ref.aside b O;have H:=k {M with now:=g.ch.foldl eE M.now,nv:=M.nv+1,ah:=M.now,ts:=(M.ts.eraseIdx f).map (λs=>{s with oth:=s.oth++g.ch.map (·.key)})} ⟨rfl,rfl,rfl,rfl,by simp,λi U a1=>by simp⟩;refine⟨0,rfl,u,L b,b.size,⟨D',J,H.db,H.well,H.store.len⟩,.inr (.inr ⟨f,g,rfl,hch,hcf,rfl,λX j=>?_⟩)⟩;have ae:=j.size;apply(Zb (u.below j) x f g t (by omega) (by omega) ⟨by rw[h.lk.nv];have:=h.lk.vB;omega,by rw[h.lk.nv];omega⟩ (BR.2 hch) (λs ac=>by grind)).mono;rintro e w' ⟨rfl,ag,v3,N,af,R,a0,G,Q⟩;refine⟨rfl,a5 (L b) j G,h.both T J b m (k {M with va:=M.vn,av:=M.nv,ah:=M.now,vn:=v3,nv:=M.nv+1,now:=g.ch.foldl eE M.now,ov:=N,ts:=af} ⟨rfl,rfl,rfl,rfl,a0.len,λi U a1=>?_⟩) R ((AA j).trans G) (λd c=>(Q d c).imp id (λa7=>by omega)) rfl rfl rfl rfl rfl ⟨rfl,rfl,rfl,rfl,rfl⟩⟩;have⟨y,A,C,E,F,a6⟩:=a0.each i U a1;grind
    ·have⟨ab,a8⟩:=Ak h.lk Y a3 W x f g t hch hcf a2 (by omega)
     apply a8.mono;rintro e a ⟨rfl,D',I,b,m,k⟩;have⟨y,A,C,E,F⟩:=P 8 I b m k;exact⟨8,rfl,y,A,C,E,.inr (.inl ⟨f,g,rfl,.inr (.inr ⟨hch,hcf,rfl,ab⟩),F⟩)⟩
end
theorem fL{w:World}{b a c d e f g i t}(h:w.heap[b]?=some (.cells #[a,c,d,e,f,g,i] t)):w.c b 0=some a/\w.c b 1=some c/\w.c b 2=some d/\w.c b 3=some e/\w.c b 4=some f/\w.c b 5=some g/\w.c b 6=some i:=qGc h
theorem Xd{w K q M D}(d:aZ w K q M)(f:M.f=.p D.β 0)(g:M.p4=.bool false)(c:aO w 0 D)(h:D.fs.well)(z):
  cL 60 #[.p q 0,.i z] w λe w'=>e=.returned (.bool false)/\w'=w:=by
 have⟨a,_,_,_,_,_,_,_,_,_,_,_,b,_⟩:=dL d.box;rw[f]at a;rw[g]at b;exact qHk q D.β D.sv D.lv D.fs w c.file (by rw[h.2];rfl) a b z
section
variable {n B:Nat}{w:World}{q:Nat}{Bk K:Bl}{D:Db}{v:Nat}{o ao:Option (Nat×T)}{ots:List (Option (Nat×T))}{M:RM}
theorem Qj(h:Wd n B w q Bk K D v o ao ots M)(a4:B<=400000)(c:OpV):
  cL 26 #[.p q 0,.agg c.cells] w λe w'=>e=.returned (.bool true)/\On Bk w w'/\Lw n (B+1) w' q Bk M.p9:=by
 have⟨L,a,P,Q,E,O,I,N,J⟩:=c;have⟨r,H⟩:=Cs M.ts a;obtain⟨b,G,z,k,-⟩:=al1 w (.cells #[.i L,.i a,.string P,.string Q,.i E,.bool O,.slice I N J] 46);have x:=h.box (.cells #[.i L,.i a,.string P,.string Q,.i E,.bool O,.slice I N J] 46);rw[G]at x;have A:bW b b:=AC _ _;have C:Hid (∀X,bW b X->X.c q 1=some (.p D.d 0)/\X.c w.heap.size 1=some (.i a)/\X.c w.heap.size 2=some (.string P)):=λX i=>by
  have p:=(dL (x.ref.below i).box).2.1;rw[h.x]at p;have⟨_,s,t,_⟩:=fL ((i.block _ (gL k)).trans k);exact⟨p,s,t⟩
 have u:Hid (∀X,bW b X->cL 71 #[.p D.d 0,.i a,.string P] X λe f=>e=.returned (.i (iW r P))/\Hid (On Bk w f/\(∀d,bW f d->(d.c q 1=some (.p D.d 0)/\d.c w.heap.size 1=some (.i a)/\d.c w.heap.size 2=some (.string P))/\(cL 72 #[.p q 2,.i a,.string P] d λe w'=>e=.returned (.i (vQ r P))/\w'=d)/\(cL 60 #[.p q 0,.i (iW r P)] d λe w'=>e=.returned (.bool false)/\w'=d)/\cL 73 #[.p q 2,.i a,.string P] d λe w'=>e=.returned (.i (iW r P))/\(w'.c w.heap.size 1=some (.i a)/\w'.c w.heap.size 2=some (.string P))/\On Bk w w'/\Lw n (B+1) w' q Bk M.p9))):=λX i=>by
  apply(qFm (x.below i) a4 a P r H).mono;rintro e f ⟨rfl,F,S,ae,⟨a0,ac,R,ab,ad⟩,a5⟩;have U:On Bk w X:=vV (z.trans (i.mono z.size)) (λy j=>(h.book y j).1);refine⟨rfl,U.trans (S.mono (λy j=>.inl j)),λd m=>⟨?_,Sy (F.below m) a P r H h.lk.n8,Xd (D:=a0) (F.below m) (by rw[ac];exact h.f) h.spoiled (R.on (vV m R.lies)) ab _,(a5 d m).mono ?_⟩⟩
  ·have Z:=S.heap ((i.block _ (gL k)).trans k) (.inr rfl)
   have⟨_,s,t,_⟩:=fL ((m.block _ (gL Z)).trans Z);have p:=(dL (F.below m).box).2.1;rw[h.x]at p;exact⟨p,s,t⟩
  ·rintro e w' ⟨rfl,T,a1,D',v',o',ao',ots',M',a9,a2⟩
   have⟨_,s,t,_⟩:=fL (T.heap ((i.block _ (gL k)).trans k) (.inr rfl));exact⟨rfl,⟨s,t⟩,U.trans (T.mono (λy j=>.inl j)),a1,D',v',o',ao',ots',M',a9.less (λy j=>.inl j),a2⟩
 generalize vQ r P=zc at u;generalize iW r P=zd at u;clear h x k H;go_enter Tryz.func26,Tryz.ntmps26;go_wp2;have⟨V,W,Y⟩:=C.out b A;go_region_held3 (λX=>X.c q 1=some (.p D.d 0)/\X.c w.heap.size 1=some (.i a)/\X.c w.heap.size 2=some (.string P))
  (first|exact C.out _ A.drew|exact(g.out.2 _ (AC _ _)).1)
  ((go_at_call 71;(with_reducible apply jC (u.out _ A.drew));rintro e f ⟨rfl,g⟩))
 all_goals
  clear V W Y u C z;have l:bW f f:=AC _ _;have⟨V,W,Y⟩:=(g.out.2 f l).1;go_wp2;go_region_held3 (λX=>X.c w.heap.size 1=some (.i a)/\X.c w.heap.size 2=some (.string P))
   (exact(g.out.2 _ l.drew).1.2)
   ((go_at_call 72;(with_reducible apply jC (g.out.2 _ l.drew).2.1);rintro e w' ⟨rfl,aa⟩;subst w'))
  go_wp2_with (go_at_call 60;(with_reducible apply jC (g.out.2 _ l.drew).2.2.1);rintro e w' ⟨rfl,aa⟩;subst w');go_region_held3 (λX=>X.c w.heap.size 1=some (.i a)/\X.c w.heap.size 2=some (.string P))
   (first|exact(g.out.2 _ l.drew.drew).1.2|exact a6)
   ((go_at_call 73;(with_reducible apply jC (g.out.2 _ l.drew.drew).2.2.2);rintro e af ⟨rfl,a6,a8,a7⟩))
  go_wp2;go_ret;exact⟨rfl,a8,a7⟩
end
variable {ps:List Value} {vp:Value} {w:World}
theorem Nl(n:Nat)(z w)(g:n<=1000000000)(f:z=(n:Int)):
  cL 30 #[.i z] w λe w'=>e=.returned (.string (lC n))/\bW w w':=by
 subst f;have a:=Jg w (UInt8.ofNat n) (UInt8.ofNat (n / 256));have b:((UInt8.ofNat n).toNat:Int)=(n:Int) % 256:=by simp
 have c:((UInt8.ofNat (n / 256)).toNat:Int)=(n:Int) / 256 % 256:=by simp
 rw[b,c]at a;have d:(⟨#[126,UInt8.ofNat n,UInt8.ofNat (n / 256)]⟩:ByteArray)=lC n:=rfl;rw[d]at a;go_enter Tryz.func30,Tryz.ntmps30;go_wp2;go_ret;exact⟨rfl,bA _ _⟩
theorem qBr{P ops s o a Q}(w)(E:o.guard=none)(t x T b zero z bytes)(J:o.op=.call {callee:=.builtin .append,args:=#[t,x],argTypes:=#[T,T]})(k:P.underlying T=some (.slice b))(hi:(P.info? b).map (λi=>(i.zero,i.size,i.bytes))=some (some zero,z,bytes))(r:zero.cells.size=z)(p:0<z)(v n xs)(M:a.eval t=v)(q:w.ownsRow 0 b z v n xs)(c)(O:a.eval x=.q w.heap.size 1 1)(H:c.length=z)(j:∀u∈c,u.oneCell'=true)(C:n+1<=140737488355328)(l:(n+1) * bytes<=140737488355328)(h:∀v' w',fB b z v n xs c 1 w v' w'->(∀d e g,w.ownsRow 0 b z e d g->(e.ownBlock≠v.ownBlock\/d<=n)->w'.ownsRow 0 b z e d g)->wpList P ops Q s (a.put o.dst v') w'):
  wpList P ops Q (o :: s) a (w.alloc (.cells c.toArray b)):=by
 refine EN E λK D=>?_;have⟨v',w',m,y⟩:=wW (P:=P) w T o.type b zero z bytes k hi r p v n xs q c H j C l;have⟨V,F,R,S,U⟩:=EZ hi;have I:∀f u,c[f]?=some u->(w.alloc (.cells c.toArray b)).cell? ((⟨w.heap.size,0,none⟩:Addr).add f)=some u:=λf u N=>by
  have A:(⟨w.heap.size,0,none⟩:Addr).add f=⟨w.heap.size,f,none⟩:=by unfold Addr.add;split<;>simp_all
  rw[A];simp only[World.cell?,aA w (.cells c.toArray b)];simpa using N
 unfold Oper.wp execOp;simp only[J,resolve,invoke,builtin,DY,DT,DF,DI,BD,CX,M,O,m];exact D _ _ (h v' w' y (λd e g (B:w.ownsRow 0 b z e d g) L=>Lq (P:=P) (w.alloc (.cells c.toArray b)) 0 T o.type b V zero z bytes k F R S U r p v n xs (CG q _) ⟨w.heap.size,0,none⟩ 1 1 c (by omega) I j (by decide) (by unfold maxLen;omega) l v' w' m 0 d e g (CG B _) L))
abbrev qBb(j:Nat):List Value:=[.string (lC (j / 4)),.string ⟨#[]⟩]
def mrk(j n:Nat):List Value:=(List.replicate n (qBb j)).flatten
theorem Xc(j n):(mrk j n).length=n * 2:=by simp[mrk]
theorem Tn(j):∀(n k i:Nat),k<n->i<2->(mrk j n)[k * 2+i]?=(qBb j)[i]?
 |0,_,_,h,_=>by omega
 |n+1,0,i,_,hi=>by
  rw[mrk,List.replicate_succ,EY,DV,DO,BT (by simpa using hi)]
 |n+1,k+1,i,h,hi=>by
  rw[mrk,List.replicate_succ,EY,BJ (by simp;omega)];have a:(k+1) * 2+i-(qBb j).length=k * 2+i:=by simp;omega
  rw[a];exact Tn j n k i (by omega) hi
theorem Ni(j n):mrk j (n+1)=mrk j n++qBb j:=by rw[mrk,List.replicate_succ',List.flatten_append];simp[mrk]
theorem qHf(j i n)(xs:List Value)(c:xs.length=n * 2)(hi:i<n):((mrk j i++xs.drop (i * 2)).set (i * 2) (.string (lC (j / 4)))).set (i * 2+1) (.string ⟨#[]⟩)=mrk j (i+1)++xs.drop ((i+1) * 2):=by
 have a:xs.drop (i * 2)=xs[i * 2]'(by omega):: xs[i * 2+1]'(by omega):: xs.drop ((i+1) * 2):=by
  rw[CC (by omega:i * 2<xs.length),CC (by omega:i * 2+1<xs.length),show i * 2+1+1=(i+1) * 2 by omega]
 have b:=Xc j i;rw[a,ES _ _ (by omega),ES _ _ (by omega),b,Ni,BX,show i * 2-i * 2=0 by omega,show i * 2+1-i * 2=1 by omega];rfl
structure jG (w:World) (vp:Value) (ps:List Value):Prop where
 row:w.ownsRow 0 30 1 vp ps.length ps
 four:ps.length % 4=0
 cut:∀j (h:j<ps.length),∃n,n<=1100000/\w.ownsRow 0 71 2 ps[j] n (mrk j n)
def fpK(vp:Value)(ps:List Value):Bl:=λk=>vp.ownBlock=some k\/∃u∈ps,u.ownBlock=some k
theorem jG.on {w w'}(h:jG w vp ps)(c:On (fpK vp ps) w w'):jG w' vp ps :=
 ⟨aS h.row c (λg a=>.inl a),h.four,λf b=>by have⟨n,e,d⟩:=h.cut f b;exact⟨n,e,aS d c (λg a=>.inr ⟨_,AB b,a⟩)⟩⟩
theorem jG.lies (h:jG w vp ps):∀k,fpK vp ps k->k<w.heap.size:=by
 rintro k (a|⟨f,d,a⟩)
 ·exact aM h.row a
 ·obtain⟨e,c,rfl⟩:=AU d
  have⟨n,_,b⟩:=h.cut e c;exact aM b a
theorem jG.none(w:World):jG w .n []:=⟨AL _ _ _ _,rfl,λb a=>absurd a (GX _)⟩
theorem qIk(j:Nat)(h:j<=1000000000):IntKind.i64.wrap ((j:Int).tdiv 4)=((j / 4:Nat):Int):=by
 rw[CO,Int.tdiv_eq_ediv_of_nonneg (by omega)];omega
theorem qIl(j:Nat):(j:Int) / 4=((j / 4:Nat):Int):=by omega
theorem uN {B e z v n xs}(h:w.ownsRow B e z v n xs):∃a c,v=.slice a n c/\(n≠0->∃g,a=some ⟨g,0,none⟩/\g<w.heap.size/\∀j u,xs[j]?=some u->w.c g j=some u):=by
 obtain⟨m,⟨rfl,rfl⟩|⟨g,k,l,rfl,_⟩⟩:=id h
 ·exact⟨none,0,rfl,λh=>absurd rfl h⟩
 ·refine⟨_,_,rfl,λ_=>⟨g,rfl,((ED (w:=w) h) g rfl).2,λj u i=>?_⟩⟩
  have:=(λg d=>DC (w:=w) h (g:=g) d) g rfl j u i;have e:(⟨g,0,none⟩:Addr).add j=⟨g,j,none⟩:=by unfold Addr.add;split<;>simp_all
  rw[e]at this;exact this
theorem qHj {q}(h:jG w vp ps)(hn:ps.length<=10000000)(hq:q<w.heap.size)(c14:w.c q 14=some .n)(c15:w.c q 15=some .n)(c16:w.c q 16=some .n)(c17:w.c q 17=some vp):
  cL 10 #[.p q 14] w λe w'=>e=.returned (.bool true)/\bW w w':=by
 obtain⟨pa,pc,rfl,hp⟩:=uN h.row
 have HQ:Hid (∀X,bW w X->X.cell? ⟨q,17,none⟩=some (.slice pa ps.length pc)):=λX hX=>(hX.cell (p:=⟨q,17,none⟩) hq).trans c17
 have H:Hid (jG w (.slice pa ps.length pc) ps):=h
 clear h
 go_enter Tryz.func10,Tryz.ntmps10
 go_wp2
 go_loopw [3,4] (λi k wr=>i=.int .i64 0/\w=wr) (λ_ _ _=>0)
 case atStart=>exact⟨rfl,rfl⟩
 case round =>
  obtain⟨rfl,hwr⟩:=hrel
  subst hwr
  go_wp2
  go_loopw [5,6] (λi k wr2=>i=.int .i64 0/\w=wr2) (λ_ _ _=>0)
  case atStart=>exact⟨rfl,rfl⟩
  case round =>
   obtain⟨rfl,hwr⟩:=hrel
   subst hwr
   go_wp2
   go_loopw [7,8] (λi k wr2=>i=.int .i64 0/\w=wr2) (λ_ _ _=>0)
   case atStart=>exact⟨rfl,rfl⟩
   case round =>
    obtain⟨rfl,hwr⟩:=hrel
    subst hwr
    go_wp2
    go_loopw [9,10] (λi k wr=>∃j:Nat,j<=ps.length/\i=.int .i64 j/\bW w wr) (λi _ _=>ps.length-(intOf i).toNat)
    case atStart=>exact⟨0,AH _,rfl,AC _ _⟩
    case round =>
     obtain⟨j,hj,rfl,hb⟩:=hrel
     have q17:=HQ.out wr hb
     rcases BS j ps.length with hlt|hge
     ·have hji:(j:Int)<(ps.length:Int):=by omega
      obtain⟨g,rfl,hg,hcell⟩:=hp (by omega)
      have hrow0:w.cell? ⟨g,j,none⟩=some ps[j]:=hcell j _ (jQ hlt)
      obtain⟨n,hn1,hcut⟩:=H.out.cut j hlt
      obtain⟨a,c,hv,hnz⟩:=uN hcut
      rw[hv]at hrow0
      have HR:Hid (∀X,bW w X->X.cell? ⟨g,j,none⟩=some (.slice a n c)):=λX hX=>(hX.cell (p:=⟨g,j,none⟩) hg).trans hrow0
      have HE:Hid (∀X m,bW w X->m<n->∃ga,a=some ⟨ga,0,none⟩/\X.cell? ⟨ga,m * 2,none⟩=some (.string (lC (j / 4)))/\X.cell? ⟨ga,m * 2+1,none⟩=some (.string ⟨#[]⟩)):=λX m hX hm=>by
       obtain⟨ga,e,hga,hc⟩:=hnz (by omega)
       exact⟨ga,e,(hX.cell (p:=⟨ga,m * 2,none⟩) hga).trans (hc _ _ (Tn j n m 0 hm (by decide))),(hX.cell (p:=⟨ga,m * 2+1,none⟩) hga).trans (hc _ _ (Tn j n m 1 hm (by decide)))⟩
      have HM:Hid (∀z X,z=((j / 4:Nat):Int)->cL 30 #[.int .i64 z] X λe w'=>e=.returned (.string (lC (j / 4)))/\bW X w'):=λz X hz=>Nl (j / 4) z X (by omega) hz
      have hr:=HR.out wr hb
      go_wp2
      go_loopw [10] (λk wr=>∃m:Nat,m<=n/\k=.int .i64 m/\bW w wr) (λk _=>n-(intOf k).toNat)
      case atStart=>exact⟨0,AH _,rfl,hb⟩
      case round =>
       obtain⟨m,hm,rfl,hb⟩:=hrel
       have q17:=HQ.out wr hb
       have hr:=HR.out wr hb
       rcases BS m n with hlt2|hge2
       ·have hji2:(m:Int)<(n:Int):=by omega
        obtain⟨ga,hga,e0,e1⟩:=HE.out wr m hb hlt2
        subst hga
        go_wp2
        go_region_held3 (λX=>X.cell? ⟨q,17,none⟩=some (.q g ps.length pc)/\X.cell? ⟨g,j,none⟩=some (.q ga n c)/\X.cell? ⟨ga,m * 2,none⟩=some (.string (lC (j / 4)))/\X.cell? ⟨ga,m * 2+1,none⟩=some (.string ⟨#[]⟩))
         (first|exact⟨q17,hr,e0,e1⟩|(exact⟨HQ.out _ hbw,HR.out _ hbw,by obtain⟨ga',e',h1,h2⟩:=HE.out _ m hbw hlt2;cases e';exact⟨h1,h2⟩⟩))
         ((go_at_call 30;(with_reducible refine jC (HM.out _ _ ?_) ?_);(first|exact qIk j (by omega)|exact qIl j);rintro e w3 ⟨rfl,hb3⟩;have hbw:=hb.drew.trans (hb3.mono hb.size)))
        all_goals go_wp2
        all_goals exact⟨⟨m+1,by omega,by simp,hbw⟩,by simp[intOf];omega⟩
       ·obtain rfl:m=n:=by omega
        go_wp2
        exact⟨⟨j+1,by omega,by simp,hb⟩,by simp[intOf];omega⟩
     ·obtain rfl:j=ps.length:=by omega
      go_wp2
      go_ret
      exact⟨rfl,hb⟩
structure KpS (w X:World) (q:Nat) (M:RM) (mb:Nat) (vl:Value) (n:Nat) (vp:Value) (ps:List Value) (a b:Nat) (g vq:Value) (qs:List Value):Prop where
 box:X.heap[q]?=some ({M with p9:=vq}:RM).obj
 mbx:X.heap[mb]?=some (.cells #[.string (lC (ps.length / 4)),.string ⟨#[]⟩] 71)
 row:X.ownsRow 0 30 1 vq qs.length qs
 len:qs.length=ps.length+b
 cut:∀j (h:j<qs.length),∃m,m<=1100000/\X.ownsRow 0 71 2 qs[j] m (mrk j m)/\(qs[j].ownBlock≠g.ownBlock\/m<=n+a)
 gx:X.ownsRow 0 71 2 g (n+a) (mrk ps.length (n+a))
 gm:g.ownBlock≠some mb
 fr:Fr (λk=>k=q\/vp.ownBlock=some k\/vl.ownBlock=some k) w X
 gr:∀k,fpK vq qs k->fpK vp ps k\/vl.ownBlock=some k\/w.heap.size<=k
 gb:∀k,g.ownBlock=some k->vl.ownBlock=some k\/w.heap.size<=k
 vb:∀k,vq.ownBlock=some k->vp.ownBlock=some k\/w.heap.size<=k
section
variable {w X X3:World}{q:Nat}{M:RM}{mb:Nat}{vl:Value}{n:Nat}{vp:Value}{ps:List Value}{a b:Nat}{g vq v3:Value}{qs:List Value}
theorem KpS.lay(h:KpS w X q M mb vl n vp ps a a g vq qs)(J:ps.length % 4=0)(K:a<4)(N:n<=1000000)(d:fB 30 1 vq qs.length qs [g] 1 X v3 X3):KpS w (X3.setCell ⟨q,17,none⟩ v3) q M mb vl n vp ps a (a+1) g v3 (qs++[g]):=by
 have P:=d.fr.size;have t:X3.heap[q]?=some ({M with p9:=vq}:RM).obj:=d.fr.heap h.box (aQ h.row h.box (by decide));have o:Fr (Bl.one q) X3 (X3.setCell ⟨q,17,none⟩ v3):=(AF (Bl.one q) X3).setCell (p:=⟨q,17,none⟩) (.inl rfl) _;have A:=aC t 17 v3;have y:∀{m:TypeId}{z f:Nat}{v:Value}{l:List Value},X3.ownsRow 0 m z v f l->m≠43->(X3.setCell ⟨q,17,none⟩ v3).ownsRow 0 m z v f l:=λi H=>aS i (o.on (Z:=λc=>_=some c) (λc b=>⟨aM i b,λu=>by simp only[Bl.one]at u;subst u;exact aQ i t (λe=>H e.symm) b⟩)) (λc b=>b);have s:∀{f:Nat}{v:Value}{l:List Value},X.ownsRow 0 71 2 v f l->(X3.setCell ⟨q,17,none⟩ v3).ownsRow 0 71 2 v f l:=λi=>y (d.keeps i (dJ i h.row (by decide))) (by decide);have O:=(gL h.box);have G:mb≠q:=λe=>by have:=h.mbx;rw[e,h.box]at this;simp at this
 refine⟨by simpa using A,o.heap (d.fr.heap h.mbx (aQ h.row h.mbx (by decide))) (λe=>G e),by have:=y d.row (by decide);rw[jK];exact this,by rw[jK,h.len];rfl,λr E=>?_,s h.gx,h.gm,(h.fr.grow d.fr (λc b=>(h.vb c b).imp (λB=>.inr (.inl B)) id)).grow o (λc b=>.inl (.inl b)),?_,h.gb,?_⟩
 ·rw[jK,AM]at E
  rcases BS r qs.length with x|L
  ·have⟨f,F,C,D⟩:=h.cut r x
   rw[GA x];exact⟨f,F,s C,D⟩
  ·obtain rfl:r=qs.length:=by omega
   rw[FV (jU _)];simp only[JA,CS];refine⟨n+a,by omega,?_,.inr (jU _)⟩;have e:mrk qs.length (n+a)=mrk ps.length (n+a):=by
    have:qs.length / 4=ps.length / 4:=by rw[h.len];omega
    simp only[mrk,qBb,this]
   rw[e];exact s h.gx
 ·rintro c (b|⟨I,j,b⟩)
  ·rcases d.lies c b with k|k
   ·exact h.gr c (.inl k)
   ·have:=h.fr.size;exact .inr (.inr (by omega))
  ·rcases AO.1 j with j|j
   ·exact h.gr c (.inr ⟨I,j,b⟩)
   ·rw[AS]at j;subst j;exact .inr (h.gb c b)
 ·intro c b
  rcases d.lies c b with k|k
  ·exact h.vb c k
  ·have:=h.fr.size;exact .inr (by omega)
theorem KpS.ext(h:KpS w X q M mb vl n vp ps a b g vq qs)(d:fB 71 2 g (n+a) (mrk ps.length (n+a)) (qBb ps.length) 1 X v3 X3)(l:∀o p t,X.ownsRow 0 71 2 p o t->(p.ownBlock≠g.ownBlock\/o<=n+a)->X3.ownsRow 0 71 2 p o t):KpS w X3 q M mb vl n vp ps (a+1) b v3 vq qs:=by
 have D:=d.fr.size;have C:=(gL h.mbx);refine⟨d.fr.heap h.box (aQ h.gx h.box (by decide)),d.fr.heap h.mbx h.gm,d.keeps h.row (dJ h.row h.gx (by decide)),h.len,λm x=>?_,by have:=d.row;rw[<-Ni]at this;exact this,λj=>?_,h.fr.grow d.fr (λi l=>(h.gb i l).imp (λu=>.inr (.inr u)) id),h.gr,λi y=>?_,h.vb⟩
 ·have⟨s,z,k,f⟩:=h.cut m x
  refine⟨s,z,l _ _ _ k f,?_⟩;rcases f with f|f
  ·by_cases j:qs[m].ownBlock=v3.ownBlock
   ·cases hb:qs[m].ownBlock with
    |none =>
     have:s=0:=by
      obtain⟨_,⟨_,v⟩|⟨B,c,r,A,_⟩⟩:=k
      ·exact v
      ·rw[A]at hb;simp[Value.ownBlock]at hb
     exact .inr (by omega)
    |some i =>
     rw[hb]at j;rcases d.lies i j.symm with e|e
     ·rw[hb,e]at f;exact absurd rfl f
     ·have:=aM k hb;omega
   ·exact .inl j
  ·exact .inr (by omega)
 ·rcases d.lies mb j with e|e
  ·exact h.gm e
  ·omega
 ·rcases d.lies i y with e|e
  ·exact h.gb i e
  ·have:=h.fr.size;exact .inr (by omega)
end
theorem qAk:(Tryz.prog.info? 30).map (λi=>(i.zero,i.size,i.bytes))=some (some .n,1,24):=by kernel_rfl
theorem Gp{w q}{M:RM}{vp ps}(hbox:w.heap[q]?=some M.obj)(hp:M.p9=vp)(h:jG w vp ps)(hn:ps.length<=10000000){vl n xs}(hl:w.ownsRow 0 71 2 vl n xs)(hn1:n<=1000000)(hap:∀k,vl.ownBlock=some k->∀u∈ps,u.ownBlock≠some k):
  cL 64 #[.p q 14,vl] w λe w'=>e=.returned (.tuple #[])/\∃vq qs,jG w' vq qs/\qs.length=ps.length+4/\w'.heap[q]?=some ({M with p9:=vq}:RM).obj/\Fr (λk=>k=q\/vp.ownBlock=some k\/vl.ownBlock=some k) w w'/\∀k,fpK vq qs k->fpK vp ps k\/vl.ownBlock=some k\/w.heap.size<=k:=by
 obtain⟨pa,pc,hvp⟩:=aF h.row;obtain⟨la,lc,hvl⟩:=aF hl;have c17:w.c q 17=some M.p9:=by simp[World.cell?,hbox]
 rw[hp,hvp]at c17;have HM:Hid (∀z X,z=((ps.length / 4:Nat):Int)->cL 30 #[.i z] X λe w'=>e=.returned (.string (lC (ps.length / 4)))/\bW X w'):=λz X hz=>Nl (ps.length / 4) z X (by omega) hz;have HW:Hid (∀W1,bW w W1->∃W2,W1.alloc (.cells #[.string (lC (ps.length / 4)),.string ⟨#[]⟩] 71)=W2/\W2.heap[W1.heap.size]?=some (.cells #[.string (lC (ps.length / 4)),.string ⟨#[]⟩] 71)/\bW w W2/\w.heap.size<=W1.heap.size):=λW1 hW=>⟨_,rfl,aA W1 _,hW.alloc hW.size _,hW.size⟩;have H:Hid (jG w vp ps/\M.p9=vp/\vp=.slice pa ps.length pc/\vl=.slice la n lc/\w.ownsRow 0 71 2 vl n xs/\(∀k,vl.ownBlock=some k->∀u∈ps,u.ownBlock≠some k)/\w.heap[q]?=some M.obj):=⟨h,hp,hvp,hvl,hl,hap,hbox⟩;have hxl:xs.length=n * 2:=hl.1;have HXL:Hid (xs.length=n * 2):=hxl;subst hvl;clear hvp h hp hap hbox hxl;go_enter Tryz.func64,Tryz.ntmps64;go_wp2_with (go_at_call 30;(with_reducible refine jC (HM.out _ _ ?_) ?_);(first|exact qIk _ (by omega)|exact qIl _);rintro e W1 ⟨rfl,hB1⟩;obtain⟨W2,hW2,x2,hB2,z1⟩:=HW.out W1 hB1;obtain⟨y0,y1⟩:=bS x2;have yfr:=aB x2;have hss:W2.setCell ⟨W1.heap.size,1,none⟩ (.string ⟨#[]⟩)=W2:=eD x2 rfl);have lW:=(gL x2);have HL2:Hid (W2.ownsRow 0 71 2 (.slice la n lc) n xs):=aS hl (vV (Y:=λk=>(Value.slice la n lc).ownBlock=some k) hB2 (λk hk=>aM hl hk)) (λk hk=>hk);have HN:Hid (∀k,(Value.slice la n lc).ownBlock=some k->k<w.heap.size):=λk hk=>aM hl hk;have HX2:Hid (∀X,Fr (λk=>(Value.slice la n lc).ownBlock=some k) W2 X->X.heap[W1.heap.size]?=some (.cells #[.string (lC (ps.length / 4)),.string ⟨#[]⟩] 71)):=λX hX=>hX.heap x2 (λe=>by have:=HN.out _ e;omega);clear hl y0 y1 yfr c17 hss;go_loopw [5] (λi wr=>∃m:Nat,i=.i m/\m<=n/\Hid (wr.ownsRow 0 71 2 (.slice la n lc) n (mrk ps.length m++xs.drop (m * 2))/\Fr (λk=>(Value.slice la n lc).ownBlock=some k) W2 wr)) (λi _=>n-(intOf i).toNat)
 case atStart=>exact⟨0,rfl,AH _,by simpa[mrk] using HL2.out,AF _ _⟩
 case round =>
  obtain⟨m,rfl,hm,HH⟩:=hrel;obtain⟨y0,y1⟩:=bS (HX2.out wr HH.out.2);rcases BS m n with hlt|hge
  ·have hji:(m:Int)<(n:Int):=by omega
   obtain⟨hO,hF⟩:=HH.out;obtain⟨a',c',e',hc⟩:=uN hO;obtain⟨gl,rfl,hgl,hcl⟩:=hc (by omega);simp only[AP,CT]at e';obtain⟨rfl,rfl⟩:=e';have hlen:=Xc ps.length m;have hxl:=HXL.out;obtain⟨u0,k0⟩:∃u,wr.c gl (m * 2)=some u:=⟨_,hcl (m * 2) _ (jQ (by rw[jK,BH];omega))⟩;obtain⟨u1,k1⟩:∃u,wr.c gl (m * 2+1)=some u:=⟨_,hcl (m * 2+1) _ (jQ (by rw[jK,BH];omega))⟩;obtain⟨gcur,hgc⟩:=kO hO;have gfr:=aB hgc;have HEND:Hid ((wr.setCell ⟨gl,m * 2,none⟩ (.string (lC (ps.length / 4)))).setCell ⟨gl,m * 2+1,none⟩ (.string ⟨#[]⟩) |>.ownsRow 0 71 2 (.q gl n lc) n (mrk ps.length (m+1)++xs.drop ((m+1) * 2))):=by
    have o1:=dI hO (m * 2) (by rw[jK,BH];omega) (.string (lC (ps.length / 4)));have o2:=dI o1 (m * 2+1) (by rw[CL,jK,BH];omega) (.string ⟨#[]⟩);rw[qHf ps.length m n xs hxl hlt]at o2;exact o2
   have HF:Hid (Fr (λk=>(Value.q gl n lc).ownBlock=some k) W2 ((wr.setCell ⟨gl,m * 2,none⟩ (.string (lC (ps.length / 4)))).setCell ⟨gl,m * 2+1,none⟩ (.string ⟨#[]⟩))):=(hF.setCell (p:=⟨gl,m * 2,none⟩) (.inl rfl) _).setCell (p:=⟨gl,m * 2+1,none⟩) (.inl rfl) _;go_wp2;exact⟨⟨m+1,by simp,by omega,HEND.out,HF.out⟩,by simp[intOf];omega⟩
  ·obtain rfl:m=n:=by omega
   have HK:Hid (KpS w wr q M W1.heap.size (.slice la m lc) m vp ps 0 0 (.slice la m lc) vp ps):=by
    obtain⟨hO,hF⟩:=HH.out;obtain⟨hB,h9,hvp,_,hl,hap,hbox⟩:=H.out;have hq:=(gL hbox);have F0:Fr (λk=>(Value.slice la m lc).ownBlock=some k) w wr:=(AA hB2).trans hF;have nK:∀k,fpK vp ps k->¬(Value.slice la m lc).ownBlock=some k:=by
     rintro k (hk|⟨u,hu,hk⟩) e
     ·rcases dJ hB.row hl (by decide) with h1|h1
      ·rw[h1]at hk;cases hk
      ·exact h1 (hk.trans e.symm)
     ·exact hap k e u hu hk
    have hB':=hB.on (F0.on (λk hk=>⟨hB.lies k hk,nK k hk⟩));have hx0:=HXL.out;rw[CR (by omega),EV]at hO;refine⟨by have:=F0.heap hbox (aQ hl hbox (by decide));rw[<-h9];exact this,HX2.out wr hF,hB'.row,rfl,λj hj=>?_,hO,λe=>by have:=HN.out _ e;omega,F0.mono (λk hk=>.inl (.inr (.inr hk))),λk hk=>.inl hk,λk hk=>.inl hk,λk hk=>.inl hk⟩;obtain⟨m',hm',hc⟩:=hB'.cut j hj;refine⟨m',hm',hc,?_⟩;by_cases e:ps[j].ownBlock=(Value.slice la m lc).ownBlock
    ·cases hb:ps[j].ownBlock with
     |none =>
      have:m'=0:=by
       obtain⟨_,⟨_,h0⟩|⟨g',c,r,hv,_⟩⟩:=hc
       ·exact h0
       ·rw[hv]at hb;simp[Value.ownBlock]at hb
      exact .inr (by omega)
     |some k=>exact absurd (by rw[<-e];exact hb) (nK k (.inr ⟨_,AB hj,hb⟩))
    ·exact .inl e
   have H4:Hid (ps.length % 4=0):=H.out.1.four;clear HH y0 y1 H HX2 HN HL2;go_wp2;go_loopw [6,7] (λg i wr=>∃(a:Nat) (ga:Option Addr) (gc:Nat) (vq:Value) (qs:List Value),i=.i a/\a<=4/\g=.slice ga (m+a) gc/\Hid (KpS w wr q M W1.heap.size (.slice la m lc) m vp ps a a (.slice ga (m+a) gc) vq qs)) (λ_ i _=>4-(intOf i).toNat)
   case atStart=>exact⟨0,la,lc,vp,ps,rfl,by omega,rfl,HK.out⟩
   case round =>
    clear HK;obtain⟨a,ga,gc,vq,qs,rfl,ha,rfl,HK⟩:=hrel;rcases BS a 4 with hlt|hge
    ·have hji:(a:Int)<4:=by omega
     have hK:=HK.out;have hlq:=hK.len;have hgo:=hK.gx;have hro:=hK.row;obtain⟨xa,xc,hvq⟩:=aF hro;obtain⟨nq,hnq⟩:=nM (qs.length);have c17:wr.c q 17=some vq:=by simp[World.cell?,hK.box]
     rw[hnq]at hvq hro;rw[hvq]at c17 hro;have hnqb:nq<=10000010:=by omega
     have HLY:Hid (∀X3 v3,fB 30 1 (.slice xa nq xc) nq qs [.slice ga (m+a) gc] 1 wr v3 X3->X3.c q 17=some (.slice xa nq xc)/\(∀i,X3.frozen? ⟨q,i,none⟩=false)/\KpS w (X3.setCell ⟨q,17,none⟩ v3) q M W1.heap.size (.slice la m lc) m vp ps a (a+1) (.slice ga (m+a) gc) v3 (qs++[.slice ga (m+a) gc])):=λX3 v3 A=>by
      have b3:=A.fr.heap hK.box (aQ hro hK.box (by decide));exact⟨by simp[World.cell?,b3,hvq],aB b3,hK.lay H4.out hlt hn1 (by rw[hvq,hnq];exact A)⟩
     clear hK hvq HK;go_wp2_with (first
      |(at_builtin;refine fK wr rfl (.tmp 35) (.tmp 37) 39 30 _ 1 24 rfl Tryz.underlying39 qAk rfl (by decide) (.slice xa nq xc) nq qs rfl hro [.slice ga (m+a) gc] rfl rfl (by simp[Value.oneCell']) (by omega) (by omega) ?_;intro v3 X3 A3;obtain⟨g3,k3,rfl⟩:=A3.shape (by decide);obtain⟨d17,dfr,HK4⟩:=HLY.out X3 _ A3;obtain⟨X4,hX4⟩:=nM (X3.setCell ⟨q,17,none⟩ (.q g3 (nq+1) k3));rw[hX4]at HK4;obtain⟨y0,y1⟩:=bS HK4.mbx;have hgx:=HK4.gx;replace HK4:=(show Hid _ from HK4))
      |(at_builtin;refine qBr X4 rfl (.tmp 41) (.tmp 43) 30 71 _ 2 32 rfl Tryz.underlying30 cS rfl (by decide) (.slice ga (m+a) gc) (m+a) (mrk ps.length (m+a)) rfl hgx [.string (lC (ps.length / 4)),.string ⟨#[]⟩] rfl rfl (by simp[Value.oneCell']) (by omega) (by omega) ?_;intro v5 X5 A5 hk5;obtain⟨g5,k5,rfl⟩:=A5.shape (by decide);have HK5:=(show Hid _ from HK4.out.ext A5 hk5)))
     exact⟨⟨a+1,_,_,_,_,by simp,by omega,rfl,HK5.out⟩,by simp[intOf];omega⟩
    ·obtain rfl:a=4:=by omega
     go_wp2;go_end0;have hK:=HK.out;refine⟨rfl,vq,qs,⟨hK.row,by rw[hK.len];have:=H4.out;omega,λj hj=>?_⟩,hK.len,hK.box,hK.fr,hK.gr⟩;obtain⟨m',hm',hc,_⟩:=hK.cut j hj;exact⟨m',hm',hc⟩
