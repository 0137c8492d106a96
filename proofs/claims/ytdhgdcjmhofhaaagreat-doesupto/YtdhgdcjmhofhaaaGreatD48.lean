import Derived.Test.YtdhgdcjmhofhaaaGreatD44
import Derived.Test.YtdhgdcjmhofhaaaGreatD47
set_option linter.all false
set_option maxRecDepth 100000
set_option maxHeartbeats 8000000
namespace Go.Proofs.YtdhgdcjmhofhaaaGreat.Tree
open Go.RowKit Pages
theorem lO(D)(g:Nat)(first o)(A:∀args w,(callFunc g args).run Tryz.prog w=.ok (.enter g args) w)(w)(h:aO w 0 D)(Z)(R:Int->World->Prop)(u:∀k,Z k->¬fpD D k/\k<w.heap.size)(B:∀a,aO a 1 D->Fr (Bl.one D.d) w a->w.heap.size<a.heap.size->cL g (first++o) a λe w'=>∃z,e=.returned (.i z)/\Fr Z a w'/\R z w')(t:∀z W k v,R z W->k=w.heap.size\/k=D.d->R z (W.setCell ⟨k,0,none⟩ v)):
    cL 32 #[.p D.d 0,.func (.func g) first o] w λe w'=>∃z,e=.returned (.i z)/\aO w' 0 D/\Fr (Bl.or (Bl.one D.d) Z) w w'/\R z w':=by
  have I:=(gL h.box)
  have⟨c,j⟩:=nM (w.setCell ⟨D.d,0,none⟩ (.int .i32 1))
  have s:aO c 1 D:=j▸h.lock
  have y:Fr (Bl.one D.d) w c:=j▸(AF (Bl.one D.d) w).setCell (p:=⟨D.d,0,none⟩) (.inl rfl) _
  have G:c.heap.size=w.heap.size:=by rw[<-j];simp
  obtain⟨a,n,q,-⟩:=al1 c (.cells #[.int .i64 0] 48)
  have x:a.heap[w.heap.size]?=some (.cells #[.int .i64 0] 48):=by rw[<-n,<-G];exact aA c _
  have l:=s.on (vV q s.lies)
  have r:=y.trans (AA q)
  have E:¬fpD D w.heap.size:=λb=>by have:=h.lies _ b;omega
  have F:¬Z w.heap.size:=λb=>by grind
  refine(Ex D.d g first o A w (λz W=>aO W 1 D/\Fr Z a W/\R z W) _ h.box rfl ?_).mono ?_
  · rw[j,n]
    apply(B a l r ((gL x))).mono
    rintro e w' ⟨z,rfl,d,m⟩
    have f:=l.on (d.on (λk b=>⟨l.lies k b,λC=>(u k C).1 b⟩))
    exact⟨z,rfl,d.heap x F,⟨_,f.box,rfl⟩,f,d,m⟩
  · rintro e w' ⟨z,W,rfl,⟨f,d,m⟩,rfl⟩
    exact⟨z,rfl,(f.beside (i:=0) E (.int .i64 z)).lock (st':=0),(((r.mono (λk b=>.inl (.inl b))).trans (d.mono (λk b=>.inl (.inr b)))).setCell (p:=⟨w.heap.size,0,none⟩) (.inr (jU _)) _).setCell (p:=⟨D.d,0,none⟩) (.inl (.inl rfl)) _,t _ _ _ _ (t _ _ _ _ m (.inl rfl)) (.inr rfl)⟩
def qKm(o:Option (Nat×T))(cs:List Ch)(key:ByteArray)(q:Nat)(z:Int)(W:World):Prop :=
  ∃v,W.heap[q]?=some (.cells #[.string v] 9)/\((rK o cs key=none/\z=5/\v=⟨#[]⟩)\/∃l,rK o cs key=some l/\z=0/\v=⟨l.toArray⟩)
theorem qFa(D x i t o key b0 b1 b2 b3 w)(h:aO w 1 D)(hal:(D.fs.life==0)=false)(hro:bJ D.fs t.root o)(hfl:oV o)(hn:D.ts.length≤1000)(hi:i<D.ts.length)(ht:D.ts[i]=t)(hx:gF D.ts x=i)(hr:cJ t.cs)(hgd:∀ c∈t.cs,c.good)(hcs:t.cs.length≤1000000)(hk1:1≤key.size)(hk2:key.size≤24)(x0:w.heap[b0]?=some (.cells #[.p D.d 0] 29))(x1:w.heap[b1]?=some (.cells #[.i x] 3))(x2:w.heap[b2]?=some (.cells #[.string key] 9))(x3:w.heap[b3]?=some (.cells #[.string ⟨#[]⟩] 9)):
    cL 45 #[.p b0 0,.p b1 0,.p b2 0,.p b3 0] w λe w'=>∃ z,e=.returned (.i z)∧Fr (Bl.one b3) w w'∧qKm o t.cs key b3 z w':=by
  have hWr:=jI D 1 x i t w h (by omega) hi ht hx;have hm:t∈D.ts:=ht▸AB hi;have HK:Hid (∀ X,bW w X→aO X 1 D∧X.c b0 0=some (.p D.d 0)∧X.c b1 0=some (.i x)∧X.heap[b2]?=some (.cells #[.string key] 9)∧X.c t.b 2=some (.p D.β 0)∧X.c t.b 3=some (.i t.root)∧X.c t.b 4=some (.slice t.ca t.cs.length t.cc)∧X.heap[b3]?=some (.cells #[.string ⟨#[]⟩] 9)):=by
    intro X hX;have hD:=h.on (vV hX h.lies);obtain⟨q0,q1,q2,q3,q4,q5⟩:=rF (hD.each t hm).box;exact⟨hD,bL ((hX.block _ (gL x0)).trans x0),bL ((hX.block _ (gL x1)).trans x1),(hX.block _ (gL x2)).trans x2,q2,q3,q4,(hX.block _ (gL x3)).trans x3⟩
  obtain⟨_,c0,c1,y2,q2,q3,q4,y3⟩:=HK.out w (AC _ _);have c2:=bL y2;have hKy:∀ X,cL 39 #[.string key] X λe w'=>e=.returned (.bool true)∧w'=X:=λX=>by
    have:=kE key X;rw [DM (And.intro hk1 hk2)] at this;exact this
  obtain⟨fb,hfb⟩:=nM (kX o t.cs key);have HFi:Hid (∀ X,aO X 1 D→cL 47 #[.agg #[.p D.β 0,.i t.root,.slice t.ca t.cs.length t.cc],.string key] X λe w'=>∃ E:Ent,e=.returned (.tuple #[.agg #[.string E.key,.string E.val,.i E.size,.i E.over],.bool fb])∧bW X w'∧Hid ((fb=false∧rK o t.cs key=none)∨∃ V:En,V.good D.fs∧E=V.e∧fb=true∧rK o t.cs key=some V.value)):=λX hX=>by
    obtain⟨a0,cc0,he,hcc,hrow⟩:=bR (hX.each t hm).row;simp only [Tx.cv,AP,CT] at he;obtain⟨e1,e2⟩:=he;subst e1 e2;refine(Pr D.β D.sv D.lv D.fs hal t.root t.ca t.cc t.cs key o hro (λk=>t.cv.ownBlock=some k) X hX.file hrow (λk hk=>aM (hX.each t hm).row hk) hr hcs hcc (by omega)).mono ?_;rintro e w' ⟨E,rfl,hE1,hE2,hb⟩;refine⟨E,by rw [hfb],hb,?_⟩;have:=Iy hro hfl hr hgd hE1 hE2;rw [hfb] at this;exact this
  have HVa:Hid (∀ X (V:En),aO X 1 D→V.good D.fs→cL 48 #[.agg #[.p D.β 0,.i t.root,.slice t.ca t.cs.length t.cc],.agg #[.string V.e.key,.string V.e.val,.i V.e.size,.i V.e.over]] X λe w'=>e=.returned (.string ⟨V.value.toArray⟩)∧bW X w'):=λX V hX hV=>Cd D.β D.sv D.lv D.fs hal t.root t.ca t.cs.length t.cc V X hX.file (Bn hV).1 (Bn hV).2;have l3:=(gL x3);go_enter Tryz.func45,Tryz.ntmps45;go_wp2_with (first
    | (go_at_call 46;(with_reducible refine jC hWr ?_);rintro e X1 ⟨rfl,hX1⟩;obtain⟨hD1,c0,c1,y2,q2,q3,q4,y3⟩:=HK.out X1 hX1;have c2:=bL y2;have hKy1:=hKy X1)
    | (go_at_call 39;(with_reducible refine jC hKy1 ?_);rintro e X1' ⟨rfl,hX1'⟩;subst X1'))
  have HS:Hid (∀ X,bW w X→X.c b2 0=some (.string key)∧X.c t.b 2=some (.p D.β 0)∧X.c t.b 3=some (.i t.root)∧X.c t.b 4=some (.slice t.ca t.cs.length t.cc)):=λX hX=>by
    obtain⟨_,_,_,y2,q2,q3,q4,_⟩:=HK.out X hX;exact⟨bL y2,q2,q3,q4⟩
  have zX1:=hX1.size;go_region_held3 (λX=>X.c b2 0=some (.string key)∧X.c t.b 2=some (.p D.β 0)∧X.c t.b 3=some (.i t.root)∧X.c t.b 4=some (.slice t.ca t.cs.length t.cc))
    ((refine HS.out _ ?_;(repeat (first|exact hX1|exact B2|(refine GU ?_)|(refine KN ?_ (by first|omega|(simp;omega)) _)|(refine JI ?_ (by first|omega|(simp;omega)|(show w.heap.size≤X2.heap.size;omega)|(show w.heap.size≤X1.heap.size;omega)) _)))))
    (first
      | (go_at_call 47;(with_reducible refine jC (HFi.out _ (HK.out _ ?_).1) ?_);(first|exact hX1.drew|exact hX1|exact(hX1.alloc zX1 _).drew|exact hX1.drew.alloc zX1 _);rintro e X2 ⟨E,rfl,hX2,HE⟩;have B2:bW w X2:=(by first|exact hX1.drew.trans (hX2.mono zX1)|exact(hX1.alloc zX1 _).drew.trans (hX2.mono (by simp;omega)));have zX2:=B2.size;have xE:=aA X2 tY;obtain⟨g0,g1,g2,g3⟩:=Aq xE;have gfr:=aB xE;try (have xF:X2.heap[X1.heap.size]?=some tY:=(hX2.block _ (by simp)).trans (by first|exact aA X1 tY|exact aA X1.drew tY);obtain⟨g0,g1,g2,g3⟩:=Aq xF;have gfr:=aB xF)))
  all_goals
    first
      | (obtain⟨X3,hX3,-,xe,-⟩:=al1 X2 (.cells #[.string E.key,.string E.val,.i E.size,.i E.over] 69)
         rw [hX3];have B3:bW w X3:=hX3▸B2.alloc zX2 _;clear hX3)
      | (obtain⟨X3,hX3⟩:=nM ((((X2.setCell ⟨X1.heap.size,0,none⟩ (.string E.key)).setCell ⟨X1.heap.size,1,none⟩ (.string E.val)).setCell ⟨X1.heap.size,2,none⟩ (.i E.size)).setCell ⟨X1.heap.size,3,none⟩ (.i E.over))
         rw [hX3];have B3:bW w X3:=hX3▸((((B2.setCell (p:=⟨X1.heap.size,0,none⟩) zX1 _).setCell (p:=⟨X1.heap.size,1,none⟩) zX1 _).setCell (p:=⟨X1.heap.size,2,none⟩) zX1 _).setCell (p:=⟨X1.heap.size,3,none⟩) zX1 _);have xe:X3.heap[X1.heap.size]?=some (.cells #[.string E.key,.string E.val,.i E.size,.i E.over] 69):=(by
           have e0:=aC (aC (aC (aC xF 0 (.string E.key)) 1 (.string E.val)) 2 (.i E.size)) 3 (.i E.over);rw [hX3] at e0;simpa [tY] using e0)
         clear hX3)
    clear g0 g1 g2 g3 gfr xE;obtain⟨hD3,c0,c1,y2,q2,q3,q4,y3⟩:=HK.out X3 B3;have c2:=bL y2;rcases HE.out with⟨rfl,hsee⟩|⟨V,hV,rfl,rfl,hsee⟩
    · go_wp2
      go_ret;exact⟨5,rfl,AA B3,_,y3,.inl ⟨hsee,rfl,rfl⟩⟩
    · obtain⟨k0,k1,k2,k3⟩:=iM xe
      have HSE:Hid (rK o t.cs key=some V.value):=hsee;clear hsee;have hne:¬ Bl.one b3 t.b:=λe=>by
        simp only [Bl.one] at e;have h1:=(hD3.each t hm).box;rw [e,y3] at h1;simp [txO] at h1
      go_wp2;first
        | (have HS2:Hid (∀ X,Fr (Bl.one b3) X3 X→X.c t.b 2=some (.p D.β 0)∧X.c t.b 3=some (.i t.root)∧X.c t.b 4=some (.slice t.ca t.cs.length t.cc)∧X.c X2.heap.size 0=some (.string V.e.key)∧X.c X2.heap.size 1=some (.string V.e.val)∧X.c X2.heap.size 2=some (.i V.e.size)∧X.c X2.heap.size 3=some (.i V.e.over)):=(λX hF=>by
             obtain⟨_,_,r2,r3,r4,_⟩:=rF (hF.heap (hD3.each t hm).box hne);obtain⟨n0,n1,n2,n3⟩:=iM (hF.heap xe (oN (by omega)));exact⟨r2,r3,r4,n0,n1,n2,n3⟩)
           go_region_held3 (λX=>X.c t.b 2=some (.p D.β 0)∧X.c t.b 3=some (.i t.root)∧X.c t.b 4=some (.slice t.ca t.cs.length t.cc)∧X.c X2.heap.size 0=some (.string V.e.key)∧X.c X2.heap.size 1=some (.string V.e.val)∧X.c X2.heap.size 2=some (.i V.e.size)∧X.c X2.heap.size 3=some (.i V.e.over))
            ((refine HS2.out _ ?_;(first|(with_reducible exact(AF _ _).drew)|(with_reducible exact AF _ _)|(with_reducible exact F4)|(with_reducible exact F4'))))
            (first
              | (go_at_call 48;(with_reducible refine jC (HVa.out _ V (HK.out _ ?_).1 hV) ?_);(first|exact B3.drew|exact B3);rintro e X4 ⟨rfl,hX4⟩;have B4:bW w X4:=B3.drew.trans (hX4.mono B3.size);have F4:Fr (Bl.one b3) X3 X4:=(AF _ X3).drew.trans (AA hX4);have F4':Fr (Bl.one b3) X3 (X4.setCell ⟨b3,0,none⟩ (.string ⟨V.value.toArray⟩)):=F4.setCell (p:=⟨b3,0,none⟩) (.inl rfl) _;obtain⟨_,_,_,_,_,_,_,y4⟩:=HK.out X4 B4;have c4:=bL y4;have g4:=aB y4)))
        | (have HS2:Hid (∀ X,Fr (Bl.one b3) X3 X→X.c t.b 2=some (.p D.β 0)∧X.c t.b 3=some (.i t.root)∧X.c t.b 4=some (.slice t.ca t.cs.length t.cc)∧X.c X1.heap.size 0=some (.string V.e.key)∧X.c X1.heap.size 1=some (.string V.e.val)∧X.c X1.heap.size 2=some (.i V.e.size)∧X.c X1.heap.size 3=some (.i V.e.over)):=(λX hF=>by
             obtain⟨_,_,r2,r3,r4,_⟩:=rF (hF.heap (hD3.each t hm).box hne);obtain⟨n0,n1,n2,n3⟩:=iM (hF.heap xe (oN (by omega)));exact⟨r2,r3,r4,n0,n1,n2,n3⟩)
           go_region_held3 (λX=>X.c t.b 2=some (.p D.β 0)∧X.c t.b 3=some (.i t.root)∧X.c t.b 4=some (.slice t.ca t.cs.length t.cc)∧X.c X1.heap.size 0=some (.string V.e.key)∧X.c X1.heap.size 1=some (.string V.e.val)∧X.c X1.heap.size 2=some (.i V.e.size)∧X.c X1.heap.size 3=some (.i V.e.over))
            ((refine HS2.out _ ?_;(first|(with_reducible exact(AF _ _).drew)|(with_reducible exact AF _ _)|(with_reducible exact F4)|(with_reducible exact F4'))))
            (first
              | (go_at_call 48;(with_reducible refine jC (HVa.out _ V (HK.out _ ?_).1 hV) ?_);(first|exact B3.drew|exact B3);rintro e X4 ⟨rfl,hX4⟩;have B4:bW w X4:=B3.drew.trans (hX4.mono B3.size);have F4:Fr (Bl.one b3) X3 X4:=(AF _ X3).drew.trans (AA hX4);have F4':Fr (Bl.one b3) X3 (X4.setCell ⟨b3,0,none⟩ (.string ⟨V.value.toArray⟩)):=F4.setCell (p:=⟨b3,0,none⟩) (.inl rfl) _;obtain⟨_,_,_,_,_,_,_,y4⟩:=HK.out X4 B4;have c4:=bL y4;have g4:=aB y4)))
      all_goals go_wp2
      all_goals go_ret
      all_goals exact⟨0,rfl,(AA B4:Fr (Bl.one b3) w X4).setCell (p:=⟨b3,0,none⟩) (.inl rfl) _,_,(by simpa using aC y4 0 (.string ⟨V.value.toArray⟩)),.inr ⟨_,HSE.out,rfl,rfl⟩⟩
theorem qHt(D x i t o key w)(h:aO w 0 D)(F:(D.fs.life==0)=false)(O:bJ D.fs t.root o)(I:oV o)(M:D.ts.length<=1000)(hi:i<D.ts.length)(P:D.ts[i]=t)(R:gF D.ts x=i)(N:cJ t.cs)(J:∀c∈t.cs,c.good)(G:t.cs.length<=1000000)(K:1<=key.size)(L:key.size<=24):
    cL 17 #[.p D.d 0,.i x,.string key] w λe w'=>∃(v:ByteArray) (z:Int),e=.returned (.tuple #[.string v,.i z])/\aO w' 0 D/\Fr (Bl.one D.d) w w'/\((rK o t.cs key=none/\z=5/\v=⟨#[]⟩)\/∃l,rK o t.cs key=some l/\z=0/\v=⟨l.toArray⟩):=by
  obtain⟨a,f,m,n,U,V,g,-⟩:=al4 w (.cells #[.p D.d 0] 29) (.cells #[.i x] 3) (.cells #[.string key] 9) (.cells #[.string ⟨#[]⟩] 9);  have u:=h.on (vV m h.lies);have a1:=(gL h.box);have S:=(gL g);have Y:=bL n;have C:=lO D 45 #[] #[.p w.heap.size 0,.p (w.heap.size+1) 0,.p (w.heap.size+1+1) 0,.p (w.heap.size+1+1+1) 0] (enters_of Tryz.func45 (by kernel_rfl) rfl) a u (Bl.one (w.heap.size+1+1+1)) (qKm o t.cs key (w.heap.size+1+1+1)) (λd b=>by
    simp only[Bl.one]at b;subst b;exact⟨λH=>by have:=h.lies _ H;omega,S⟩) (by
    intro q A j a3;have k:∀d,w.heap.size<=d->¬Bl.one D.d d:=λd b e=>by simp only[Bl.one]at e;omega
    exact qFa D x i t o key _ _ _ _ q A F O I M hi P R N J G K L (j.heap n (k _ (by omega))) (j.heap U (k _ (by omega))) (j.heap V (k _ (by omega))) (j.heap g (k _ (by omega)))) (by
    rintro z W d v ⟨v',r,s⟩ b;refine⟨v',?_,s⟩;exact(LX (AF (Bl.one d) W) (p:=⟨d,0,none⟩) (.inl rfl) v).heap r (oN (by omega)))
  have a4:a.setCell ⟨w.heap.size+1+1+1,0,none⟩ (.string ⟨#[]⟩)=a:=eD g rfl;have Z:=bL g;have a2:=aB g 0;go_enter Tryz.func17,Tryz.ntmps17;go_wp2_with (go_at_call 32;(with_reducible refine jC C ?_);rintro e X ⟨z,rfl,y,B,v,Q,E⟩;have a0:=bL Q);go_ret2;refine⟨v,z,rfl,y,(AA m:Fr (Bl.one D.d) w a).grow B (λd b=>?_),E⟩;rcases b with b|b
  · exact .inl b
  · simp only[Bl.one]at b;exact .inr (by omega)
def qIq(xs:List En)(p B:Nat)(z:Int)(W:World):Prop :=
 z=0/\∃v,W.heap[p]?=some (.cells #[v] 30)/\W.ownsRow 0 71 2 v xs.length (eZ xs)/\∀k,v.ownBlock=some k->B<k
theorem Yn(D x i t o q most C E n r s a B w)(h:aO w 1 D)(R:(D.fs.life==0)=false)(a2:bJ D.fs t.root o)(U:oV o)(ao:D.ts.length<=1000)(hi:i<D.ts.length)(F:D.ts[i]=t)(a4:gF D.ts x=i)(a1:cJ t.cs)(V:∀c∈t.cs,c.good)(S:t.cs.length<=1000000)(al:q.lo.size<=24)(aj:q.hi.size<=24)(a3:(lB o t.cs q).length<=1000000)(Y:most<=9223372036854775807)(ai:B<w.heap.size)(a7:w.heap[C]?=some (.cells #[.p D.d 0] 29))(a8:w.heap[E]?=some (.cells #[.i x] 3))(H:w.heap[n]?=some (.cells #[.string q.lo] 9))(I:w.heap[r]?=some (.cells #[.string q.hi] 9))(J:w.heap[s]?=some (.cells #[.i (most:Nat)] 3))(K:w.heap[a]?=some (.cells #[.n] 30)):
  cL 104 #[.p C 0,.p E 0,.p n 0,.p r 0,.p s 0,.p a 0] w λe w'=>∃z,e=.returned (.i z)/\Fr (Bl.one a) w w'/\qIq ((lB o t.cs q).take most) a B z w':=by
 have⟨f,G⟩:=nM ((lB o t.cs q).take most);rw[G];have Z:t∈D.ts:=F▸AB hi;have y:Hid (∀X,bW w X->aO X 1 D/\X.c n 0=some (.string q.lo)/\X.c r 0=some (.string q.hi)/\X.c s 0=some (.i (most:Nat))/\X.heap[a]?=some (.cells #[.n] 30)):=by
  intro X b;exact⟨h.on (vV b h.lies),bL ((b.block _ (gL H)).trans H),bL ((b.block _ (gL I)).trans I),bL ((b.block _ (gL J)).trans J),(b.block _ (gL K)).trans K⟩
 have L:Hid (∀X,aO X 1 D->cL 105 #[.p t.b 0,.string q.lo,.string q.hi,.i (most:Nat)] X λe w'=>∃v,e=.returned v/\w'.ownsRow 0 71 2 v f.length (eZ f)/\bW X w'/\∀d,v.ownBlock=some d->X.heap.size<=d):=λX b=>G▸qAu D.β D.sv D.lv D.fs R t o a2 U q most X b.file (b.each t Z) a1 V S a3 Y;have a9:=bL a7;have aa:=bL a8;have am:(q.lo.size:Int)<=24:=by omega
 have ak:(q.hi.size:Int)<=24:=by omega
 have an:(0:Int)<=(most:Int):=by omega
 go_enter Tryz.func104,Tryz.ntmps104;go_wp2_with (first
  |(go_at_call 46;(with_reducible apply jC (jI D 1 x i t w h (by omega) hi F a4));rintro e A ⟨rfl,k⟩;have⟨N,ab,ac,ad,ap⟩:=y A k;have O:=L A N)
  |(go_at_call 105;(with_reducible apply jC O);rintro e g ⟨v,rfl,l,Q,W⟩;have u:bW w g:=k.trans (Q.mono k.size);have⟨_,_,_,_,m⟩:=y g u;have ae:=bL m;have af:=aB m;have a0:=aQ l m (by decide);have M:Hid (g.ownsRow 0 71 2 v f.length (eZ f)):=l;obtain⟨a5,a6,rfl⟩:=aF l;clear l))
 go_ret;refine⟨0,rfl,(AA u:Fr (Bl.one a) w g).setCell (p:=⟨a,0,none⟩) (.inl rfl) _,rfl,_,(by simpa using aC m 0 (.slice a5 f.length a6)),aS M.out ((CJ (λd=>Value.ownBlock _=some d) g).setCell (p:=⟨a,0,none⟩) (λj=>a0 j) _) (λd j=>j),λd j=>?_⟩
 ·have ag:=W d j
  have ah:=k.size;omega
theorem qCq(D x i t o q most w)(h:aO w 0 D)(K:(D.fs.life==0)=false)(Z:bJ D.fs t.root o)(N:oV o)(V:D.ts.length<=1000)(hi:i<D.ts.length)(a2:D.ts[i]=t)(a4:gF D.ts x=i)(Y:cJ t.cs)(O:∀c∈t.cs,c.good)(L:t.cs.length<=1000000)(S:q.lo.size<=24)(P:q.hi.size<=24)(a1:(lB o t.cs q).length<=1000000)(U:most<=9223372036854775807):
  cL 61 #[.p D.d 0,.i x,.string q.lo,.string q.hi,.i (most:Nat)] w λe w'=>∃v,e=.returned (.tuple #[v,.i 0])/\aO w' 0 D/\Fr (Bl.one D.d) w w'/\w'.ownsRow 0 71 2 v ((lB o t.cs q).take most).length (eZ ((lB o t.cs q).take most))/\∀k,v.ownBlock=some k->w.heap.size<=k:=by
 have⟨j,r⟩:=nM ((lB o t.cs q).take most);rw[r];have⟨b,d⟩:=nM (((((((w.alloc (.cells #[.p D.d 0] 29)).alloc (.cells #[.i x] 3)).alloc (.cells #[.string q.lo] 9)).alloc (.cells #[.string q.hi] 9)).alloc (.cells #[.i (most:Nat)] 3)).alloc (.cells #[.n] 30)));have l:bW w b:=by
  rw[<-d];exact(((((bA _ _).alloc (by simp) _).alloc (by simp;omega) _).alloc (by simp;omega) _).alloc (by simp;omega) _).alloc (by simp;omega) _
 have u:b.heap[w.heap.size]?=some (.cells #[.p D.d 0] 29):=by
  rw[<-d];apply aI _;apply aI _;apply aI _;apply aI _;apply aI _;have:=aA w (.cells #[.p D.d 0] 29);simpa using this
 have a6:b.heap[w.heap.size+1]?=some (.cells #[.i x] 3):=by
  rw[<-d];apply aI _;apply aI _;apply aI _;apply aI _;have:=aA (w.alloc (.cells #[.p D.d 0] 29)) (.cells #[.i x] 3);simpa using this
 have a7:b.heap[w.heap.size+1+1]?=some (.cells #[.string q.lo] 9):=by
  rw[<-d];apply aI _;apply aI _;apply aI _;have:=aA ((w.alloc (.cells #[.p D.d 0] 29)).alloc (.cells #[.i x] 3)) (.cells #[.string q.lo] 9);simpa using this
 have a8:b.heap[w.heap.size+1+1+1]?=some (.cells #[.string q.hi] 9):=by
  rw[<-d];apply aI _;apply aI _;have:=aA (((w.alloc (.cells #[.p D.d 0] 29)).alloc (.cells #[.i x] 3)).alloc (.cells #[.string q.lo] 9)) (.cells #[.string q.hi] 9);simpa using this
 have a9:b.heap[w.heap.size+1+1+1+1]?=some (.cells #[.i (most:Nat)] 3):=by
  rw[<-d];apply aI _;have:=aA ((((w.alloc (.cells #[.p D.d 0] 29)).alloc (.cells #[.i x] 3)).alloc (.cells #[.string q.lo] 9)).alloc (.cells #[.string q.hi] 9)) (.cells #[.i (most:Nat)] 3);simpa using this
 have y:b.heap[w.heap.size+1+1+1+1+1]?=some (.cells #[.n] 30):=by
  rw[<-d];have:=aA (((((w.alloc (.cells #[.p D.d 0] 29)).alloc (.cells #[.i x] 3)).alloc (.cells #[.string q.lo] 9)).alloc (.cells #[.string q.hi] 9)).alloc (.cells #[.i (most:Nat)] 3)) (.cells #[.n] 30);simpa using this
 have F:=h.on (vV l h.lies);have ac:=(gL h.box);have a5:=(gL y);have aa:=bL u;have J:=lO D 104 #[] #[.p w.heap.size 0,.p (w.heap.size+1) 0,.p (w.heap.size+1+1) 0,.p (w.heap.size+1+1+1) 0,.p (w.heap.size+1+1+1+1) 0,.p (w.heap.size+1+1+1+1+1) 0] (enters_of Tryz.func104 (by kernel_rfl) rfl) b F (Bl.one (w.heap.size+1+1+1+1+1)) (qIq j (w.heap.size+1+1+1+1+1) b.heap.size) (λk a=>by
  simp only[Bl.one]at a;subst a;exact⟨λM=>by have:=h.lies _ M;omega,a5⟩) (by
  intro B H f a0;have g:∀k,w.heap.size<=k->¬Bl.one D.d k:=λk a e=>by simp only[Bl.one]at e;omega
  rw[<-r];exact Yn D x i t o q most _ _ _ _ _ _ b.heap.size B H K Z N V hi a2 a4 Y O L S P a1 U a0 (f.heap u (g _ (by omega))) (f.heap a6 (g _ (by omega))) (f.heap a7 (g _ (by omega))) (f.heap a8 (g _ (by omega))) (f.heap a9 (g _ (by omega))) (f.heap y (g _ (by omega)))) (by
  rintro z W k s ⟨rfl,v,C,E,n⟩ a;exact⟨rfl,v,(LX (AF (Bl.one k) W) (p:=⟨k,0,none⟩) (.inl rfl) s).heap C (oN (by omega)),aS E ((CJ (λk=>v.ownBlock=some k) W).setCell (p:=⟨k,0,none⟩) (λQ=>by have:=n k Q;omega) s) (λk a=>a),n⟩)
 go_enter Tryz.func61,Tryz.ntmps61;go_wp2_with (go_at_call 32;(with_reducible apply jC J);rintro e X ⟨z,rfl,G,I,rfl,v,a3,m,R⟩;have ab:=bL a3;have A:Hid (X.ownsRow 0 71 2 v j.length (eZ j)):=m;obtain⟨ad,ae,rfl⟩:=aF m;clear m);go_ret2;refine⟨_,rfl,G,(AA l:Fr (Bl.one D.d) w b).grow I (λk a=>?_),A,λk a=>by have:=R k a;have:=l.size;omega⟩;rcases a with a|a
 ·exact .inl a
 ·simp only[Bl.one]at a;exact .inr (by omega)
open Go.MuLone
theorem yQ(D c x i t w)(h:aO w c D)(l:D.ts.length<=1000000)(hi:i<D.ts.length)(b:D.ts[i]=t)(n:gF D.ts x=i)(m:t.wr=false):
  cL 38 #[.p D.d 0,.i x] w λe w'=>e=.returned (.tuple #[.pointer none,.i 4])/\bW w w':=by
 have k:t∈D.ts:=b▸AB hi
 have d:Hid (∀X,bW w X->X.cell? ⟨t.b,1,none⟩=some (.bool false)):=λX j=>by
  have:=(rF ((h.on (vV j h.lies)).each t k).box).2.1
  rw[m]at this;exact this
 go_enter Tryz.func38,Tryz.ntmps38
 go_wp2_with (go_at_call 46;(with_reducible apply jC (jI D c x i t w h l hi b n));rintro e f ⟨rfl,a⟩;have o:=d f a)
 go_ret2
 exact⟨rfl,a⟩
theorem Vs(D t w)(h:aO w 0 D)(r:D.ts.length=8):
  cL 12 #[.p D.d 0,.bool t] w λe w'=>e=.returned (.tuple #[.i 0,.i 6])/\aO w' 0 D/\Fr Bl.none w w':=by
 have c:=h.lock (st':=1);have⟨k,u,A,B,C,E,G,H,c8,c9,c10,v,x,y,z⟩:=fC h.box;have⟨b,d⟩:=nM (w.setCell ⟨D.d,0,none⟩ (.int .i32 1));rw[d]at c;have⟨l,I,N,O,P,Q,R,S,T,U,J,K,L,M,m⟩:=fC c.box;have g:=c.lock (st':=0);have F:Fr Bl.none w (b.setCell ⟨D.d,0,none⟩ (.int .i32 0)):=by
  have a:Fr (Bl.one D.d) w (b.setCell ⟨D.d,0,none⟩ (.int .i32 0)):=(d▸(AF (Bl.one D.d) w).setCell (p:=⟨D.d,0,none⟩) (.inl rfl) _:Fr (Bl.one D.d) w b).setCell (p:=⟨D.d,0,none⟩) (.inl rfl) _;refine⟨a.os,a.tape,a.output,a.size,λj q _=>?_⟩;by_cases e:j=D.d
  ·subst e;rw[g.box,h.box]
  ·exact a.block j q e
 have⟨V,W,i⟩:=aF h.row;rw[r]at i;rw[i]at m;go_enter_defers Tryz.func12,Tryz.ntmps12;go_wp2_with (go_at_call 34;apply(lock_free uC ⟨D.d,0,none⟩ _ k (aB h.box 0)).mono;rintro e w' ⟨rfl,s⟩;rw[d]at s;subst w');apply GZ (f:=35) (args:=#[.p D.d 0]) (by simp) (by simp[go_sem]);apply(unlock_deferred uC ⟨D.d,0,none⟩ .returning _ l (aB c.box 0)).mono;rintro e X Y ⟨rfl,rfl,rfl⟩;exact⟨_,results_tmp2 rfl _ _ _,rfl,g,F⟩
theorem qEz(D x key f g i j p c z w)(h:aO w 1 D)(l:cL 46 #[.p D.d 0,.i x] w λe w'=>e=.returned (.tuple #[p,.i c])/\bW w w')(E:(c≠0/\z=c)\/(c=0/\z=1/\¬(1<=key.size/\key.size<=24)))(m:w.heap[f]?=some (.cells #[.p D.d 0] 29))(n:w.heap[g]?=some (.cells #[.i x] 3))(o:w.heap[i]?=some (.cells #[.string key] 9))(q:w.heap[j]?=some (.cells #[.string ⟨#[]⟩] 9)):
  cL 45 #[.p f 0,.p g 0,.p i 0,.p j 0] w λe w'=>e=.returned (.i z)/\bW w w':=by
 have k:Hid (∀X,bW w X->X.c f 0=some (.p D.d 0)/\X.c g 0=some (.i x)/\X.c i 0=some (.string key)/\X.c j 0=some (.string ⟨#[]⟩)):=λX a=>⟨bL ((a.block _ (gL m)).trans m),bL ((a.block _ (gL n)).trans n),bL ((a.block _ (gL o)).trans o),bL ((a.block _ (gL q)).trans q)⟩;have⟨s,t,u,v⟩:=k w (AC _ _);rcases E with⟨C,rfl⟩|⟨rfl,rfl,B⟩
 ·have G:(z != 0)=true:=by simpa using C
  go_enter Tryz.func45,Tryz.ntmps45;go_wp2_with (go_at_call 46;(with_reducible apply jC l);rintro e d ⟨rfl,b⟩);go_ret;exact⟨rfl,b⟩
 ·have y:∀X,cL 39 #[.string key] X λe w'=>e=.returned (.bool false)/\w'=X:=λX=>by have:=kE key X;rw[FH B]at this;exact this
  go_enter Tryz.func45,Tryz.ntmps45;go_wp2_with (first
   |(go_at_call 46;(with_reducible apply jC l);rintro e d ⟨rfl,b⟩;have⟨s,t,u,v⟩:=k d b;have A:=y d)
   |(go_at_call 39;(with_reducible apply jC A);rintro e r ⟨rfl,F⟩;subst r))
  go_ret;exact⟨rfl,b⟩
theorem Qk(D x key d f g p b z w)(h:aO w 1 D)(k:cL 38 #[.p D.d 0,.i x] w λe w'=>e=.returned (.tuple #[p,.i b])/\bW w w')(A:(b≠0/\z=b)\/(b=0/\z=1/\¬(1<=key.size/\key.size<=24)))(l:w.heap[d]?=some (.cells #[.p D.d 0] 29))(m:w.heap[f]?=some (.cells #[.i x] 3))(n:w.heap[g]?=some (.cells #[.string key] 9)):
  cL 107 #[.p d 0,.p f 0,.p g 0] w λe w'=>e=.returned (.i z)/\bW w w':=by
 have j:Hid (∀X,bW w X->X.c d 0=some (.p D.d 0)/\X.c f 0=some (.i x)/\X.c g 0=some (.string key)):=λX i=>⟨bL ((i.block _ (gL l)).trans l),bL ((i.block _ (gL m)).trans m),bL ((i.block _ (gL n)).trans n)⟩;have⟨q,r,s⟩:=j w (AC _ _);rcases A with⟨y,rfl⟩|⟨rfl,rfl,v⟩
 ·have C:(z != 0)=true:=by simpa using y
  go_enter Tryz.func107,Tryz.ntmps107;go_wp2_with (go_at_call 38;(with_reducible apply jC k);rintro e c ⟨rfl,a⟩);go_ret;exact⟨rfl,a⟩
 ·have t:∀X,cL 39 #[.string key] X λe w'=>e=.returned (.bool false)/\w'=X:=λX=>by have:=kE key X;rw[FH v]at this;exact this
  go_enter Tryz.func107,Tryz.ntmps107;go_wp2_with (first
   |(go_at_call 38;(with_reducible apply jC k);rintro e c ⟨rfl,a⟩;have⟨q,r,s⟩:=j c a;have u:=t c)
   |(go_at_call 39;(with_reducible apply jC u);rintro e o ⟨rfl,B⟩;subst o))
  go_ret;exact⟨rfl,a⟩
theorem qDh(D x key c j k l m p f z w)(h:aO w 1 D)(q:cL 38 #[.p D.d 0,.i x] w λe w'=>e=.returned (.tuple #[p,.i f])/\bW w w')(G:(f≠0/\z=f)\/(f=0/\z=1/\¬((1<=key.size/\key.size<=24)/\c.size<=400)))(v:w.heap[j]?=some (.cells #[.p D.d 0] 29))(y:w.heap[k]?=some (.cells #[.i x] 3))(A:w.heap[l]?=some (.cells #[.string key] 9))(B:w.heap[m]?=some (.cells #[.string c] 9)):
  cL 37 #[.p j 0,.p k 0,.p l 0,.p m 0] w λe w'=>e=.returned (.i z)/\bW w w':=by
 have g:Hid (∀X,bW w X->X.c j 0=some (.p D.d 0)/\X.c k 0=some (.i x)/\X.c l 0=some (.string key)/\X.c m 0=some (.string c)):=λX d=>⟨bL ((d.block _ (gL v)).trans v),bL ((d.block _ (gL y)).trans y),bL ((d.block _ (gL A)).trans A),bL ((d.block _ (gL B)).trans B)⟩;have⟨r,s,t,u⟩:=g w (AC _ _);rcases G with⟨F,rfl⟩|⟨rfl,rfl,E⟩
 ·have I:(z != 0)=true:=by simpa using F
  go_enter Tryz.func37,Tryz.ntmps37;go_wp2_with (go_at_call 38;(with_reducible apply jC q);rintro e b ⟨rfl,a⟩);go_ret;exact⟨rfl,a⟩
 ·by_cases hk1:1<=key.size/\key.size<=24
  ·have n:∀X,cL 39 #[.string key] X λe w'=>e=.returned (.bool true)/\w'=X:=λX=>by have:=kE key X;rw[DM hk1]at this;exact this
   have H:(400:Int)<(c.size:Int):=by have:¬c.size<=400:=λh=>E ⟨hk1,h⟩;omega
   go_enter Tryz.func37,Tryz.ntmps37;go_wp2_with (first
   |(go_at_call 38;(with_reducible apply jC q);rintro e b ⟨rfl,a⟩;have⟨r,s,t,u⟩:=g b a;have o:=n b)
   |(go_at_call 39;(with_reducible apply jC o);rintro e i ⟨rfl,C⟩;subst i))
   go_ret;exact⟨rfl,a⟩
  ·have n:∀X,cL 39 #[.string key] X λe w'=>e=.returned (.bool false)/\w'=X:=λX=>by have:=kE key X;rw[FH hk1]at this;exact this
   go_enter Tryz.func37,Tryz.ntmps37;go_wp2_with (first
   |(go_at_call 38;(with_reducible apply jC q);rintro e b ⟨rfl,a⟩;have⟨r,s,t,u⟩:=g b a;have o:=n b)
   |(go_at_call 39;(with_reducible apply jC o);rintro e i ⟨rfl,C⟩;subst i))
   go_ret;exact⟨rfl,a⟩
theorem Yo(D x lo hi most i j k l m n p g z w)(h:aO w 1 D)(f:cL 46 #[.p D.d 0,.i x] w λe w'=>e=.returned (.tuple #[p,.i g])/\bW w w')(I:(g≠0/\z=g)\/(g=0/\z=1/\¬(lo.size<=24/\hi.size<=24/\0<=most)))(y:w.heap[i]?=some (.cells #[.p D.d 0] 29))(A:w.heap[j]?=some (.cells #[.i x] 3))(B:w.heap[k]?=some (.cells #[.string lo] 9))(C:w.heap[l]?=some (.cells #[.string hi] 9))(E:w.heap[m]?=some (.cells #[.i most] 3))(F:w.heap[n]?=some (.cells #[.n] 30)):
  cL 104 #[.p i 0,.p j 0,.p k 0,.p l 0,.p m 0,.p n 0] w λe w'=>e=.returned (.i z)/\bW w w':=by
 have d:Hid (∀X,bW w X->X.c i 0=some (.p D.d 0)/\X.c j 0=some (.i x)/\X.c k 0=some (.string lo)/\X.c l 0=some (.string hi)/\X.c m 0=some (.i most)/\X.c n 0=some .n):=λX c=>⟨bL ((c.block _ (gL y)).trans y),bL ((c.block _ (gL A)).trans A),bL ((c.block _ (gL B)).trans B),bL ((c.block _ (gL C)).trans C),bL ((c.block _ (gL E)).trans E),bL ((c.block _ (gL F)).trans F)⟩;have⟨o,q,r,s,t,u⟩:=d w (AC _ _);rcases I with⟨H,rfl⟩|⟨rfl,rfl,K⟩
 ·have L:(z != 0)=true:=by simpa using H
  go_enter Tryz.func104,Tryz.ntmps104;go_wp2_with (go_at_call 46;(with_reducible apply jC f);rintro e b ⟨rfl,a⟩);go_ret;exact⟨rfl,a⟩
 ·have G:(24:Int)<(lo.size:Int)\/(¬(24:Int)<(lo.size:Int)/\(24:Int)<(hi.size:Int))\/(¬(24:Int)<(lo.size:Int)/\¬(24:Int)<(hi.size:Int)/\most<0):=by omega
  rcases G with v|⟨v,J⟩|⟨v,J,M⟩
  ·skip
   go_enter Tryz.func104,Tryz.ntmps104;go_wp2_with (go_at_call 46;(with_reducible apply jC f);rintro e b ⟨rfl,a⟩;have⟨o,q,r,s,t,u⟩:=d b a);go_ret;exact⟨rfl,a⟩
  ·skip
   go_enter Tryz.func104,Tryz.ntmps104;go_wp2_with (go_at_call 46;(with_reducible apply jC f);rintro e b ⟨rfl,a⟩;have⟨o,q,r,s,t,u⟩:=d b a);go_ret;exact⟨rfl,a⟩
  ·skip
   go_enter Tryz.func104,Tryz.ntmps104;go_wp2_with (go_at_call 46;(with_reducible apply jC f);rintro e b ⟨rfl,a⟩;have⟨o,q,r,s,t,u⟩:=d b a);go_ret;exact⟨rfl,a⟩
theorem Kg(D x key c p f z w)(h:aO w 0 D)(u:∀X,aO X 1 D->cL 38 #[.p D.d 0,.i x] X λe w'=>e=.returned (.tuple #[p,.i f])/\bW X w')(A:(f≠0/\z=f)\/(f=0/\z=1/\¬((1<=key.size/\key.size<=24)/\c.size<=400))):
  cL 13 #[.p D.d 0,.i x,.string key,.string c] w λe w'=>e=.returned (.i z)/\aO w' 0 D/\Fr (Bl.one D.d) w w':=by
 obtain⟨a,d,l,o,B,C,E,-⟩:=al4 w (.cells #[.p D.d 0] 29) (.cells #[.i x] 3) (.cells #[.string key] 9) (.cells #[.string c] 9); have G:=(gL h.box);have F:=bL o;have t:=lO D 37 #[] #[.p w.heap.size 0,.p (w.heap.size+1) 0,.p (w.heap.size+1+1) 0,.p (w.heap.size+1+1+1) 0] (enters_of Tryz.func37 (by kernel_rfl) rfl) a (h.on (vV l h.lies)) Bl.none (λk _=>k=z) (λb i=>i.elim) (by
  intro m n g H;have j:∀b,w.heap.size<=b->¬Bl.one D.d b:=λb i e=>by simp only[Bl.one]at e;omega
  apply(qDh D x key c _ _ _ _ p f z m n (u m n) A (g.heap o (j _ (by omega))) (g.heap B (j _ (by omega))) (g.heap C (j _ (by omega))) (g.heap E (j _ (by omega)))).mono;rintro e w' ⟨rfl,y⟩;exact⟨z,rfl,AA y,rfl⟩) (by
  rintro k W b v rfl _;rfl)
 go_enter Tryz.func13,Tryz.ntmps13;go_wp2_with (go_at_call 32;(with_reducible apply jC t);rintro e X ⟨k,rfl,r,s,rfl⟩);go_ret;exact⟨rfl,r,(AA l:Fr (Bl.one D.d) w a).trans (s.mono (λb i=>.inl (i.elim id (λh=>h.elim))))⟩
theorem vC(D x key p c z w)(h:aO w 0 D)(t:∀X,aO X 1 D->cL 38 #[.p D.d 0,.i x] X λe w'=>e=.returned (.tuple #[p,.i c])/\bW X w')(y:(c≠0/\z=c)\/(c=0/\z=1/\¬(1<=key.size/\key.size<=24))):
  cL 71 #[.p D.d 0,.i x,.string key] w λe w'=>e=.returned (.i z)/\aO w' 0 D/\Fr (Bl.one D.d) w w':=by
 obtain⟨a,d,k,n,A,B,-⟩:=al3 w (.cells #[.p D.d 0] 29) (.cells #[.i x] 3) (.cells #[.string key] 9); have E:=(gL h.box);have C:=bL n;have s:=lO D 107 #[] #[.p w.heap.size 0,.p (w.heap.size+1) 0,.p (w.heap.size+1+1) 0] (enters_of Tryz.func107 (by kernel_rfl) rfl) a (h.on (vV k h.lies)) Bl.none (λj _=>j=z) (λb f=>f.elim) (by
  intro l m g F;have i:∀b,w.heap.size<=b->¬Bl.one D.d b:=λb f e=>by simp only[Bl.one]at e;omega
  apply(Qk D x key _ _ _ p c z l m (t l m) y (g.heap n (i _ (by omega))) (g.heap A (i _ (by omega))) (g.heap B (i _ (by omega)))).mono;rintro e w' ⟨rfl,u⟩;exact⟨z,rfl,AA u,rfl⟩) (by
  rintro j W b v rfl _;rfl)
 go_enter Tryz.func71,Tryz.ntmps71;go_wp2_with (go_at_call 32;(with_reducible apply jC s);rintro e X ⟨j,rfl,q,r,rfl⟩);go_ret;exact⟨rfl,q,(AA k:Fr (Bl.one D.d) w a).trans (r.mono (λb f=>.inl (f.elim id (λh=>h.elim))))⟩
theorem Xs(D x key p j z w)(h:aO w 0 D)(A:∀X,aO X 1 D->cL 46 #[.p D.d 0,.i x] X λe w'=>e=.returned (.tuple #[p,.i j])/\bW X w')(C:(j≠0/\z=j)\/(j=0/\z=1/\¬(1<=key.size/\key.size<=24))):
  cL 17 #[.p D.d 0,.i x,.string key] w λe w'=>e=.returned (.tuple #[.string ⟨#[]⟩,.i z])/\aO w' 0 D/\Fr (Bl.one D.d) w w':=by
 obtain⟨a,g,l,q,E,F,c,-⟩:=al4 w (.cells #[.p D.d 0] 29) (.cells #[.i x] 3) (.cells #[.string key] 9) (.cells #[.string ⟨#[]⟩] 9); have J:=(gL h.box);have N:=(gL c);have G:=bL q;have y:=lO D 45 #[] #[.p w.heap.size 0,.p (w.heap.size+1) 0,.p (w.heap.size+1+1) 0,.p (w.heap.size+1+1+1) 0] (enters_of Tryz.func45 (by kernel_rfl) rfl) a (h.on (vV l h.lies)) Bl.none (λk W=>k=z/\W.heap[w.heap.size+1+1+1]?=some (.cells #[.string ⟨#[]⟩] 9)) (λb i=>i.elim) (by
  intro m n d L;have f:∀b,w.heap.size<=b->¬Bl.one D.d b:=λb i e=>by simp only[Bl.one]at e;omega
  apply(qEz D x key _ _ _ _ p j z m n (A m n) C (d.heap q (f _ (by omega))) (d.heap E (f _ (by omega))) (d.heap F (f _ (by omega))) (d.heap c (f _ (by omega)))).mono;rintro e w' ⟨rfl,o⟩;exact⟨z,rfl,AA o,rfl,(o.block _ (jJ.1 (d.heap c (f _ (by omega)))).1).trans (d.heap c (f _ (by omega)))⟩) (by
  rintro k W b v ⟨rfl,r⟩ i;exact⟨rfl,(LX (AF (Bl.one b) W) (p:=⟨b,0,none⟩) (.inl rfl) v).heap r (oN (by omega))⟩)
 have M:a.setCell ⟨w.heap.size+1+1+1,0,none⟩ (.string ⟨#[]⟩)=a:=eD c rfl;have H:=bL c;have K:=aB c 0;go_enter Tryz.func17,Tryz.ntmps17;go_wp2_with (go_at_call 32;(with_reducible apply jC y);rintro e X ⟨k,rfl,t,u,rfl,B⟩;have I:=bL B);go_ret2;exact⟨rfl,t,(AA l:Fr (Bl.one D.d) w a).trans (u.mono (λb i=>.inl (i.elim id (λh=>h.elim))))⟩
theorem Mn(D x lo hi most p j z w)(h:aO w 0 D)(A:∀X,aO X 1 D->cL 46 #[.p D.d 0,.i x] X λe w'=>e=.returned (.tuple #[p,.i j])/\bW X w')(C:(j≠0/\z=j)\/(j=0/\z=1/\¬(lo.size<=24/\hi.size<=24/\0<=most))):
  cL 61 #[.p D.d 0,.i x,.string lo,.string hi,.i most] w λe w'=>e=.returned (.tuple #[.n,.i z])/\aO w' 0 D/\Fr (Bl.one D.d) w w':=by
 have⟨a,f⟩:=nM (((((((w.alloc (.cells #[.p D.d 0] 29)).alloc (.cells #[.i x] 3)).alloc (.cells #[.string lo] 9)).alloc (.cells #[.string hi] 9)).alloc (.cells #[.i most] 3)).alloc (.cells #[.n] 30)));have l:bW w a:=by
  rw[<-f];exact(((((bA _ _).alloc (by simp) _).alloc (by simp;omega) _).alloc (by simp;omega) _).alloc (by simp;omega) _).alloc (by simp;omega) _
 have q:a.heap[w.heap.size]?=some (.cells #[.p D.d 0] 29):=by
  rw[<-f];apply aI _;apply aI _;apply aI _;apply aI _;apply aI _;have:=aA w (.cells #[.p D.d 0] 29);simpa using this
 have E:a.heap[w.heap.size+1]?=some (.cells #[.i x] 3):=by
  rw[<-f];apply aI _;apply aI _;apply aI _;apply aI _;have:=aA (w.alloc (.cells #[.p D.d 0] 29)) (.cells #[.i x] 3);simpa using this
 have F:a.heap[w.heap.size+1+1]?=some (.cells #[.string lo] 9):=by
  rw[<-f];apply aI _;apply aI _;apply aI _;have:=aA ((w.alloc (.cells #[.p D.d 0] 29)).alloc (.cells #[.i x] 3)) (.cells #[.string lo] 9);simpa using this
 have G:a.heap[w.heap.size+1+1+1]?=some (.cells #[.string hi] 9):=by
  rw[<-f];apply aI _;apply aI _;have:=aA (((w.alloc (.cells #[.p D.d 0] 29)).alloc (.cells #[.i x] 3)).alloc (.cells #[.string lo] 9)) (.cells #[.string hi] 9);simpa using this
 have H:a.heap[w.heap.size+1+1+1+1]?=some (.cells #[.i most] 3):=by
  rw[<-f];apply aI _;have:=aA ((((w.alloc (.cells #[.p D.d 0] 29)).alloc (.cells #[.i x] 3)).alloc (.cells #[.string lo] 9)).alloc (.cells #[.string hi] 9)) (.cells #[.i most] 3);simpa using this
 have g:a.heap[w.heap.size+1+1+1+1+1]?=some (.cells #[.n] 30):=by
  rw[<-f];have:=aA (((((w.alloc (.cells #[.p D.d 0] 29)).alloc (.cells #[.i x] 3)).alloc (.cells #[.string lo] 9)).alloc (.cells #[.string hi] 9)).alloc (.cells #[.i most] 3)) (.cells #[.n] 30);simpa using this
 have L:=(gL h.box);have P:=(gL g);have I:=bL q;have y:=lO D 104 #[] #[.p w.heap.size 0,.p (w.heap.size+1) 0,.p (w.heap.size+1+1) 0,.p (w.heap.size+1+1+1) 0,.p (w.heap.size+1+1+1+1) 0,.p (w.heap.size+1+1+1+1+1) 0] (enters_of Tryz.func104 (by kernel_rfl) rfl) a (h.on (vV l h.lies)) Bl.none (λk W=>k=z/\W.heap[w.heap.size+1+1+1+1+1]?=some (.cells #[.n] 30)) (λc i=>i.elim) (by
  intro m n b N;have d:∀c,w.heap.size<=c->¬Bl.one D.d c:=λc i e=>by simp only[Bl.one]at e;omega
  apply(Yo D x lo hi most _ _ _ _ _ _ p j z m n (A m n) C (b.heap q (d _ (by omega))) (b.heap E (d _ (by omega))) (b.heap F (d _ (by omega))) (b.heap G (d _ (by omega))) (b.heap H (d _ (by omega))) (b.heap g (d _ (by omega)))).mono;rintro e w' ⟨rfl,o⟩;exact⟨z,rfl,AA o,rfl,(o.block _ (jJ.1 (b.heap g (d _ (by omega)))).1).trans (b.heap g (d _ (by omega)))⟩) (by
  rintro k W c v ⟨rfl,r⟩ i;exact⟨rfl,(LX (AF (Bl.one c) W) (p:=⟨c,0,none⟩) (.inl rfl) v).heap r (oN (by omega))⟩)
 have O:a.setCell ⟨w.heap.size+1+1+1+1+1,0,none⟩ .n=a:=eD g rfl;have J:=bL g;have M:=aB g 0;go_enter Tryz.func61,Tryz.ntmps61;go_wp2_with (go_at_call 32;(with_reducible apply jC y);rintro e X ⟨k,rfl,t,u,rfl,B⟩;have K:=bL B);go_ret2;exact⟨rfl,t,(AA l:Fr (Bl.one D.d) w a).trans (u.mono (λc i=>.inl (i.elim id (λh=>h.elim))))⟩
variable {K:List ByteArray} {n:Nat}
theorem Qb(D a x w)(h:aO w a D)(d:D.ts.length<=1000000)(f:gF D.ts x = -1):
  cL 43 #[.p D.d 0,.i x] w λe w'=>e=.returned (.tuple #[.pointer none,.i 3])/\bW w w':=by
 go_enter Tryz.func43,Tryz.ntmps43;go_wp2_with (go_at_call 46;(with_reducible apply jC (oI D a x w h d f));rintro e g ⟨rfl,c⟩);go_ret2;simp_all
theorem qJs(D:Db)(x d p a b w)(R:World->Prop)(h:cL 43 #[.p D.d 0,.i x] w λe w'=>e=.returned (.tuple #[p,.i d])/\R w')(i:w.heap[a]?=some (.cells #[.p D.d 0] 29))(j:w.heap[b]?=some (.cells #[.i x] 3)):
  cL 74 #[.p a 0,.p b 0] w λe w'=>e=.returned (.i d)/\R w':=by
 have k:=bL i
 have l:=bL j
 go_enter Tryz.func74,Tryz.ntmps74
 go_wp2_with (go_at_call 43;(with_reducible apply jC h);rintro e g ⟨rfl,c⟩;have f:Hid (R g):=c;clear c)
 go_ret
 exact⟨rfl,f⟩
theorem Jm(D x w)(h:aO w 0 D)(R:Int->Db->Prop)(I:∀X,aO X 1 D->∃(c:Int) (p:Value),cL 43 #[.p D.d 0,.i x] X λe w'=>e=.returned (.tuple #[p,.i c])/\∃D',aO w' 1 D'/\D'.d=D.d/\Fr (fpD D) X w'/\aJ X (fpD D) (fpD D')/\R c D'):
  cL 27 #[.p D.d 0,.i x] w λe w'=>∃z D',e=.returned (.i z)/\aO w' 0 D'/\D'.d=D.d/\Fr (fpD D) w w'/\aJ w (fpD D) (fpD D')/\R z D':=by
 obtain⟨a,f,d,o,J,-⟩:=al2 w (.cells #[.p D.d 0] 29) (.cells #[.i x] 3); have L:=(gL h.box);have K:=bL o;have G:=Bs D 74 #[] #[.p w.heap.size 0,.p (w.heap.size+1) 0] (enters_of Tryz.func74 (by kernel_rfl) rfl) a (h.on (vV d h.lies)) R (by
  intro g C j M;have n:∀b,w.heap.size<=b->¬Bl.one D.d b:=λb m e=>by simp only[Bl.one]at e;omega
  have⟨c,p,E⟩:=I g C;apply(qJs D x c p _ _ g _ E (j.heap o (n _ (by omega))) (j.heap J (n _ (by omega)))).mono;grind)
 go_enter Tryz.func27,Tryz.ntmps27;go_wp2_with (go_at_call 32;(with_reducible apply jC G);rintro e X ⟨z,D',rfl,i,l,F,H,k⟩;have q:Hid (aO X 0 D'):=i;have s:Hid (R z D'):=k;have r:Hid (D'.d=D.d):=l;clear i k l);go_ret;exact⟨z,D',rfl,q,r,(AA d).trans F,λb m=>(H b m).imp id (λh=>vJ d.size h),s⟩
theorem qBm(D x i t w)(h:aO w 0 D)(o:D.ts.length<=1000000)(hi:i<D.ts.length)(p:D.ts[i]=t)(q:gF D.ts x=i):
  cL 27 #[.p D.d 0,.i x] w λe w'=>e=.returned (.i 0)/\∃g c,aO w' 0 (D.drop i g c)/\Fr (fpD D) w w'/\aJ w (fpD D) (fpD (D.drop i g c)):=by
 refine(Jm D x w h (λj D'=>j=0/\∃g c,D'=D.drop i g c) (λX n=>⟨0,.p t.b 0,(La D 1 x i t X n o hi p q).mono ?_⟩)).mono ?_
 ·rintro e w' ⟨rfl,g,c,d,k,r,b⟩
  refine⟨rfl,D.drop i g c,k,rfl,b.mono (λf a=>.inl ?_),λf a=>.inl (Ep d f a),rfl,g,c,rfl⟩;rcases a with a|a
  ·exact .inl a
  ·exact .inr (.inr (.inl (by rw[d,a];rfl)))
 grind
theorem Vu(D x w)(h:aO w 0 D)(g:D.ts.length<=1000000)(i:gF D.ts x = -1):
  cL 27 #[.p D.d 0,.i x] w λe w'=>e=.returned (.i 3)/\aO w' 0 D/\Fr (fpD D) w w':=by
 refine(Jm D x w h (λc D'=>c=3/\D'=D) (λX a=>⟨3,.pointer none,(Qb D 1 x X a g i).mono ?_⟩)).mono ?_
 ·rintro e w' ⟨rfl,b⟩
  exact⟨rfl,D,a.on (vV b a.lies),rfl,AA b,CQ _ _,rfl,rfl⟩
 grind
theorem qIc(D x a b w)(h:aO w 1 D)(f:D.ts.length<=1000000)(g:gF D.ts x = -1)(i:w.heap[a]?=some (.cells #[.p D.d 0] 29))(j:w.heap[b]?=some (.cells #[.i x] 3)):
  cL 42 #[.p a 0,.p b 0] w λe w'=>e=.returned (.i 3)/\bW w w':=by
 have l:=bL i;have m:=bL j;go_enter Tryz.func42,Tryz.ntmps42;go_wp2_with (go_at_call 43;(with_reducible apply jC (Qb D 1 x w h f g));rintro e k ⟨rfl,d⟩);go_ret;simp_all
theorem qJl(D x w)(h:aO w 0 D)(s:D.ts.length<=1000000)(t:gF D.ts x = -1):
  cL 14 #[.p D.d 0,.i x] w λe w'=>e=.returned (.i 3)/\aO w' 0 D/\Fr (Bl.one D.d) w w':=by
 obtain⟨a,d,g,k,u,-⟩:=al2 w (.cells #[.p D.d 0] 29) (.cells #[.i x] 3); have z:=(gL h.box);have y:=bL k;have q:=lO D 42 #[] #[.p w.heap.size 0,.p (w.heap.size+1) 0] (enters_of Tryz.func42 (by kernel_rfl) rfl) a (h.on (vV g h.lies)) Bl.none (λf _=>f=3) (λb c=>c.elim) (by
  intro l o i A;have j:∀b,w.heap.size<=b->¬Bl.one D.d b:=λb c e=>by simp only[Bl.one]at e;omega
  apply(qIc D x _ _ l o s t (i.heap k (j _ (by omega))) (i.heap u (j _ (by omega)))).mono;rintro e w' ⟨rfl,r⟩;exact⟨3,rfl,AA r,rfl⟩) (by omega)
 go_enter Tryz.func14,Tryz.ntmps14;go_wp2_with (go_at_call 32;(with_reducible apply jC q);rintro e X ⟨f,rfl,n,p,rfl⟩);go_ret;exact⟨rfl,n,(AA g:Fr (Bl.one D.d) w a).trans (p.mono (λb c=>.inl (c.elim id (λh=>h.elim))))⟩
theorem Qv(d β t w)(a:eN w β t)(b:t.cs=[]):
  cL 44 #[.p d 0,.p t.b 0] w λe w'=>e=.returned (.i 0)/\w'=w:=by
 have⟨g,h,i,j,f,k⟩:=rF a.box;have c:t.cs.length=0:=by rw[b];rfl
 rw[Tx.cv,c]at f;go_enter Tryz.func44,Tryz.ntmps44;go_wp2;go_ret;simp
theorem qFs (D x i t)(v:Nat)(o ao a w)(h:aO w 0 D)(J:D.ts.length<=1000)(hi:i<D.ts.length)(m:D.ts[i]=t)(F:gF D.ts x=i)(L:0<t.cs.length)(H:∀c∈t.cs,c.key ∉ t.ks)(B:t.cs.length<=1000000)(S:D.fs.well)(E:D.failed=false)(Q:D.ver=v)(R:v+1<9223372036854775808)(r:lD K n D.fs v o ao)(s:2<=n)(N:D.root=rootOf o)(A:D.aroot=rootOf ao)(O:∀t∈D.ts.eraseIdx i,bJ D.fs (rootOf (a t)) (a t)/\t.root=rootOf (a t))(P:Vw K n D.fs o t.cs (dK D.fs.safe.length (cQ ([o,ao]++(D.ts.eraseIdx i).map a)))):
  cL 14 #[.p D.d 0,.i x] w λe w'=>e=.returned (.i 0)/\∃D' g c d b,aO w' 0 D'/\D' = {(D.drop i g c).made d (bZ o t.cs (dK D.fs.safe.length (cQ ([o,ao]++(D.ts.eraseIdx i).map a)))).2 (v+1) (rootOf (bZ o t.cs (dK D.fs.safe.length (cQ ([o,ao]++(D.ts.eraseIdx i).map a)))).1) with ts:=b}/\Lt (D.ts.eraseIdx i) t.cs b/\Fr (fpD D) w w'/\aJ w (fpD D) (fpD D'):=by
 refine(qKg D x i t w h J hi m F (λq D'=>q=0/\∃g c d b,D' = {(D.drop i g c).made d (bZ o t.cs (dK D.fs.safe.length (cQ ([o,ao]++(D.ts.eraseIdx i).map a)))).2 (v+1) (rootOf (bZ o t.cs (dK D.fs.safe.length (cQ ([o,ao]++(D.ts.eraseIdx i).map a)))).1) with ts:=b}/\Lt (D.ts.eraseIdx i) t.cs b) (λX g c W u y=>?_)).mono ?_
 ·have z:∀p∈D.ts.eraseIdx i,rG p t:=λp U=>by
   obtain⟨Y,G,M,rfl⟩:=LH.1 U;rw[<-m];exact Bf h.apart G hi M
  have I:(D.ts.eraseIdx i).length<=1000:=by rw[List.length_eraseIdx];split<;>omega
  apply(Vj (K:=K) (n:=n) (D.drop i g c) 1 v o ao a t X u y z L H B S E Q R I r s N A O P).mono;rintro e w' ⟨rfl,d,b,f,l,j,k⟩;grind
 grind
theorem qFu(D x i t w)(h:aO w 0 D)(s:D.ts.length<=1000)(hi:i<D.ts.length)(u:D.ts[i]=t)(q:gF D.ts x=i)(p:t.cs.length<=1000000)(z)(v:(t.cs=[]/\z=0)\/(0<t.cs.length/\(∃c∈t.cs,c.key∈t.ks)/\z=7)):
  cL 14 #[.p D.d 0,.i x] w λe w'=>e=.returned (.i z)/\∃g c,aO w' 0 (D.drop i g c)/\Fr (fpD D) w w'/\aJ w (fpD D) (fpD (D.drop i g c)):=by
 refine(qKg D x i t w h s hi u q (λj D'=>j=z/\∃g c,D'=D.drop i g c) (λX g c A b d=>?_)).mono ?_
 ·have l:cL 44 #[.p D.d 0,.p t.b 0] X λe w'=>e=.returned (.i z)/\bW X w':=by
   rcases v with⟨a,rfl⟩|⟨a,k,rfl⟩
   ·apply(Qv D.d D.β t X d a).mono
    rintro e w' ⟨rfl,rfl⟩;exact⟨rfl,AC _ _⟩
   ·exact Qx D.d D.β t X d a p k
  apply l.mono;rintro e w' ⟨rfl,f⟩;exact⟨z,D.drop i g c,rfl,b.on (vV f b.lies),rfl,AA f,λB r=>.inl r,rfl,g,c,rfl⟩
 grind
theorem qHu(D z)(g:Nat)(first q)(B:∀args w,(callFunc g args).run Tryz.prog w=.ok (.enter g args) w)(w)(h:aO w 0 D)(R:Db->Prop)(E:∀a,aO a 1 D->Fr (Bl.one D.d) w a->w.heap.size<a.heap.size->cL g (first++q) a λe w'=>∃D',e=.panicked (sS z)/\aO w' 1 D'/\D'.d=D.d/\Fr (fpD D) a w'/\aJ a (fpD D) (fpD D')/\R D'):
  cL 32 #[.p D.d 0,.func (.func g) first q] w λe w'=>∃D',e=.returned (.i z)/\aO w' 0 D'/\D'.d=D.d/\Fr (fpD D) w w'/\aJ w (fpD D) (fpD D')/\R D':=by
 have⟨b,m⟩:=nM (w.setCell ⟨D.d,0,none⟩ (.int .i32 1));have u:aO b 1 D:=m▸h.lock;have A:Fr (Bl.one D.d) w b:=m▸(AF (Bl.one D.d) w).setCell (p:=⟨D.d,0,none⟩) (.inl rfl) _;have G:b.heap.size=w.heap.size:=by rw[<-m];simp
 obtain⟨a,o,r,-⟩:=al1 b (.cells #[.i 0] 48);have y:a.heap[w.heap.size]?=some (.cells #[.i 0] 48):=by rw[<-o,<-G];exact aA b _
 have t:Fr (Bl.one D.d) w a:=A.trans (AA r);have H:w.heap.size<a.heap.size:=(gL y);have x:¬fpD D w.heap.size:=λc=>by have:=h.lies _ c;omega
 refine(qAx D.d g first q B z w (λW=>∃D',aO W 1 D'/\D'.d=D.d/\Fr (fpD D) a W/\aJ a (fpD D) (fpD D')/\R D') _ h.box rfl ?_).mono ?_
 ·rw[m,o]
  apply(E a (u.on (vV r u.lies)) t H).mono;rintro e w' ⟨D',rfl,f,j,k,l,n⟩;exact⟨rfl,k.heap y x,⟨_,j▸f.box,rfl⟩,D',f,j,k,l,n⟩
 ·rintro e w' ⟨rfl,W,⟨D',f,j,k,l,n⟩,rfl⟩
  have F:¬fpD D' w.heap.size:=λc=>by
   rcases l _ c with d|d
   ·exact x d
   ·omega
  have s:bW W (W.alloc (.cells #[.i z] 172)):=bA _ _;refine⟨D',rfl,?_,j,((((t.mono (λv c=>.inl (.inl c))).trans k).trans (AA s)).setCell (p:=⟨w.heap.size,0,none⟩) (.inr (jU _)) _).setCell (p:=⟨D.d,0,none⟩) (.inl (.inl rfl)) _,?_,n⟩
  ·have:=((f.on (vV s f.lies)).beside (i:=0) F (.i z)).lock (st':=0)
   rw[j]at this;exact this
  ·intro v c
   rcases l v c with d|d
   ·exact .inl d
   ·exact .inr (by omega)
theorem Qw (D s)(v:Nat)(o ao d t w)(h:aO w s D)(f:eN w D.β t)(V:0<t.cs.length)(F:∀c∈t.cs,c.key ∉ t.ks)(r:t.cs.length<=1000000)(O:D.fs.well)(M:D.ver=v)(N:v+1<9223372036854775808)(G:D.ts.length<=1000)(u:lD K n D.fs v o ao)(y:2<=n)(I:D.root=rootOf o)(C:D.aroot=rootOf ao)(L:∀t∈D.ts,bJ D.fs (rootOf (d t)) (d t)/\t.root=rootOf (d t))(P:rN K n D.fs o t.cs (frD D o ao d))(H:(frD D o ao d).length<(bZ o t.cs (frD D o ao d)).2.length):
  cL 44 #[.p D.d 0,.p t.b 0] w λe w'=>e=.panicked (sS 8)/\bW w w':=by
 have⟨a,c,i,E,J⟩:=bR f.row;simp only[AP,CT]at i;have A:Hid (∀X,bW w X->cL 94 #[.p D.d 0,.slice t.ca t.cs.length t.cc] X λe w'=>e=.panicked (sS 8)/\bW X w'):=λX k=>by
  have q:∀b,t.cv.ownBlock=some b->b<w.heap.size:=λb m=>aM f.row m;refine Yh D s v o ao d t.ca t.cc t.cs (λb=>t.cv.ownBlock=some b) X (h.on (vV k h.lies)) O M N G u y I C L P H ?_ (λb m=>jY (q b m) k.size) r (by rw[i.2];exact E) ?_
  ·rw[i.1];exact J.on (vV k q)
  ·rcases gR f.row with⟨j,_⟩|⟨g,R,S,p,_⟩
   ·simp only[AP]at j;exact .inl ⟨j.1,j.2.2⟩
   ·simp only[AP]at p;exact .inr ⟨g,0,p.1⟩
 have U:=(rF f.box).2.2.2.2.1;have W:¬((t.cs.length:Int)=0):=by omega
 go_enter Tryz.func44,Tryz.ntmps44;go_wp2_with (first
  |(go_at_call 93;(with_reducible apply jC (sX D.β t w f r F));rintro e x ⟨rfl,l⟩)
  |(go_at_call 94;(with_reducible apply jC (A.out x l));rintro e Q ⟨rfl,B⟩;exact⟨rfl,rfl,l.trans (B.mono l.size)⟩))
theorem qKe(D x i t l o w)(h:aO w 1 D)(q:D.ts.length<=1000)(hi:i<D.ts.length)(H:D.ts[i]=t)(G:gF D.ts x=i)(F:∀X g c,aO X 1 (D.drop i g c)->eN X D.β t->cL 44 #[.p D.d 0,.p t.b 0] X λe w'=>e=.panicked (sS 8)/\bW X w')(j:w.heap[l]?=some (.cells #[.p D.d 0] 29))(I:w.heap[o]?=some (.cells #[.i x] 3)):
  cL 42 #[.p l 0,.p o 0] w λe w'=>∃D',e=.panicked (sS 8)/\aO w' 1 D'/\D'.d=D.d/\Fr (fpD D) w w'/\aJ w (fpD D) (fpD D')/\∃g c,D'=D.drop i g c:=by
 have r:Hid (∀X,Fr (λa=>a=D.d\/D.ov.ownBlock=some a) w X->X.c l 0=some (.p D.d 0)):=λX E=>bL (E.heap j (λe=>by
  rcases e with e|e
  ·have:=h.box;rw[<-e,j]at this;simp at this
  ·exact aQ h.row j (by decide) e))
 have s:Hid (∀X g c,D.ov=.q g D.ts.length c->Fr (λa=>a=D.d\/D.ov.ownBlock=some a) w X->aO X 1 (D.drop i g c)->eN X D.β t->cL 44 #[.p D.d 0,.p t.b 0] X λe w'=>e=.panicked (sS 8)/\∃D',aO w' 1 D'/\D'.d=D.d/\Fr (fpD D) w w'/\aJ w (fpD D) (fpD D')/\∃g c,D'=D.drop i g c):=λX g c f A m B=>(F X g c m B).mono (by
  rintro e w' ⟨rfl,p⟩;exact⟨rfl,D.drop i g c,m.on (vV p m.lies),rfl,(A.mono (λa b=>.inl (by rcases b with b|b;exact .inl b;exact .inr (.inr (.inl b))))).trans (AA p),λa b=>.inl (Ep f a b),g,c,rfl⟩)
 have K:=bL j;have M:=bL I;go_enter Tryz.func42,Tryz.ntmps42;go_wp2_with (first
  |(go_at_call 43;(with_reducible apply jC (La D 1 x i t w h (by omega) hi H G));rintro e k ⟨rfl,g,c,f,y,C,d⟩;have n:Fr (λa=>a=D.d\/D.ov.ownBlock=some a) w k:=⟨d.os,d.tape,d.output,d.size,λa b q=>d.block a b (λe=>q (e.imp id (λh=>by rw[f,h];rfl)))⟩;have L:=r k n;have u:=s k g c f n y C;clear f)
  |(go_at_call 44;(with_reducible apply jC u);rintro e J ⟨rfl,D',v⟩;exact⟨rfl,D',rfl,v⟩))
theorem qFt (D x i t)(v:Nat)(o ao a w)(h:aO w 0 D)(Q:D.ts.length<=1000)(hi:i<D.ts.length)(V:D.ts[i]=t)(N:gF D.ts x=i)(R:0<t.cs.length)(O:∀c∈t.cs,c.key ∉ t.ks)(J:t.cs.length<=1000000)(a0:D.fs.well)(Y:D.ver=v)(Z:v+1<9223372036854775808)(u:lD K n D.fs v o ao)(A:2<=n)(U:D.root=rootOf o)(I:D.aroot=rootOf ao)(W:∀t∈D.ts.eraseIdx i,bJ D.fs (rootOf (a t)) (a t)/\t.root=rootOf (a t))(P:rN K n D.fs o t.cs (dK D.fs.safe.length (cQ ([o,ao]++(D.ts.eraseIdx i).map a))))(S:(dK D.fs.safe.length (cQ ([o,ao]++(D.ts.eraseIdx i).map a))).length<(bZ o t.cs (dK D.fs.safe.length (cQ ([o,ao]++(D.ts.eraseIdx i).map a)))).2.length):
  cL 14 #[.p D.d 0,.i x] w λe w'=>e=.returned (.i 8)/\∃g c,aO w' 0 (D.drop i g c)/\Fr (fpD D) w w'/\aJ w (fpD D) (fpD (D.drop i g c)):=by
 obtain⟨b,k,j,r,a1,-⟩:=al2 w (.cells #[.p D.d 0] 29) (.cells #[.i x] 3); have a3:=(gL h.box);have a2:=bL r;have M:(D.ts.eraseIdx i).length<=1000:=by rw[CH hi];omega
 have F:=qHu D 8 42 #[] #[.p w.heap.size 0,.p (w.heap.size+1) 0] (enters_of Tryz.func42 (by kernel_rfl) rfl) b (h.on (vV j h.lies)) (λD'=>∃g c,D'=D.drop i g c) (by
  intro y C l a4;have q:∀d,w.heap.size<=d->¬Bl.one D.d d:=λd p e=>by simp only[Bl.one]at e;omega
  exact qKe D x i t _ _ y C Q hi V N (λX g c B H=>Qw (K:=K) (n:=n) (D.drop i g c) 1 v o ao a t X B H R O J a0 Y Z M u A U I W P S) (l.heap r (q _ (by omega))) (l.heap a1 (q _ (by omega))))
 go_enter Tryz.func14,Tryz.ntmps14;go_wp2_with (go_at_call 32;(with_reducible apply jC F);rintro e X ⟨D',rfl,f,L,E,G,m⟩;have s:Hid (aO X 0 D'/\∃g c,D'=D.drop i g c):=⟨f,m⟩;clear f m L);go_ret;obtain⟨f,g,c,rfl⟩:=s.out;exact⟨rfl,g,c,f,(AA j).trans E,λd p=>(G d p).imp id (λh=>vJ j.size h)⟩
structure LkT (fs:Fs) (t:Tx) (ot:Option (Nat×T)) (r:RT):Prop where
 num:t.num=r.num
 wr:t.wr=r.wr
 tr:Tr [] fs ot
 root:t.root=rootOf ot
 bg:kvB (aX ot)=r.bg
 cs:t.cs=r.ch.foldl cW []
 good:∀c∈r.ch,c.good
 l:r.ch.foldl eE r.bg=r.l
 ro:t.wr=false->r.ch=[]
 lost:t.wr=true->∀y,y∈t.ks↔y∈r.oth
structure Lk (n B:Nat) (w:World) (D:Db) (v:Nat) (o ao:Option (Nat×T)) (ots:List (Option (Nat×T))) (M:RM):Prop where
 db:aO w 0 D
 well:D.fs.well
 failed:D.failed=false
 ver:D.ver=v
 root:D.root=rootOf o
 aroot:D.aroot=rootOf ao
 store:lD [] n D.fs v o ao
 nv:M.nv=v
 last:D.last=M.last
 last0:0<=M.last
 last1:M.last<=B
 vB:v<=B
 now:kvB (aX o)=M.now
 ah:kvB (aX ao)=M.ah
 len:D.ts.length=M.ts.length
 leno:ots.length=M.ts.length
 n8:M.ts.length<=8
 each:∀i (h:i<M.ts.length),LkT D.fs (D.ts[i]'(by omega)) (ots[i]'(by omega)) M.ts[i]
 rise:M.ts.Pairwise (λa b=>a.num<b.num)
 le:∀t∈M.ts,t.num<=M.last
 few:∃C,M.now.length<=C/\M.ah.length<=C/\(∀t∈M.ts,t.bg.length<=C/\t.oth.length<=C)/\C+tot (λt:RT=>t.ch.length) M.ts<=B
theorem Ad{c β:Type}(f:c->Int)(g x):∀(l:List c) (m:List β),l.map f=m.map g->l.findIdx? (λt=>f t==x)=m.findIdx? (λt=>g t==x)
 |[],[],_=>rfl
 |[],_ :: _,h=>by simp at h
 |_ :: _,[],h=>by simp at h
 |a :: l,b :: m,h=>by
  simp only[BD,GC]at h;rw[List.findIdx?_cons,List.findIdx?_cons,h.1,Ad f g x l m h.2]
section
variable {n B:Nat}{w:World}{D:Db}{v:Nat}{o ao:Option (Nat×T)}{ots:List (Option (Nat×T))}{M:RM}
theorem Lk.idx(h:Lk n B w D v o ao ots M)(x):gF D.ts x=rX M.ts x:=by
 have c:D.ts.map (·.num)=M.ts.map (·.num):=by
  refine FO (by simp[h.len]) (λe d b=>?_);simp only[AE]at d b;simp only[EB];exact(h.each e b).num
 unfold gF rX;rw[Ad (λa:Tx=>a.num) (λa:RT=>a.num) x D.ts M.ts c];cases M.ts.findIdx? (λa=>a.num==x)<;>rfl
theorem LkT.rise{fs t i r}(h:LkT fs t i r):cM (aX i)/\cJ t.cs/\kvB (bD (aX i) t.cs)=r.l/\cM (bD (aX i) t.cs)/\(∀c∈t.cs,c.good)/\t.cs.length<=r.ch.length:=by
 have e:=eI h.tr.rooted;have⟨g,j⟩:=pQ e r.ch (cs:=[]) DW;rw[<-h.cs]at g j;rw[mU e,h.bg,h.l]at g;refine⟨e,j,g,uO e j,?_,?_⟩
 ·rw[h.cs]
  have:∀(b a:List Ch),cJ a->(∀c∈b,c.good)->(∀c∈a,c.good)->∀c∈b.foldl cW a,c.good:=λb=>by
   induction b with
   |nil=>simp
   |cons d b ih=>intro a f l k;exact ih (cW a d) (mQ f d) (λc m=>l c (by simp[m])) (qBu f k (l d (by simp)))
  exact this r.ch [] DW h.good (by simp)
 ·rw[h.cs]
  have:∀(b a:List Ch),cJ a->(b.foldl cW a).length<=a.length+b.length:=λb=>by
   induction b with
   |nil=>simp
   |cons d b ih =>
    intro a f;have e:=ih (cW a d) (mQ f d);have g:=(qBs f d).1;grind
  have:=this r.ch [] DW;grind
theorem Ws{b}(f):∀{l:List b}{x:b},x∈l->f x<=tot f l
 |y :: l,x,a=>by
  rw[cG];rcases AR.1 a with rfl|a
  ·omega
  ·have:=Ws f a;omega
theorem Lk.bounds(h:Lk n B w D v o ao ots M):M.now.length<=B/\M.ah.length<=B/\∀t∈M.ts,t.bg.length<=B/\t.l.length<=B/\t.ch.length<=B/\t.oth.length<=B:=by
 have⟨f,g,i,c,j⟩:=h.few;refine⟨by omega,by omega,λt a=>?_⟩;have k:=Ws (λt:RT=>t.ch.length) a;obtain⟨b,e,rfl⟩:=AU a;have d:=sT (M.ts[b]).ch (M.ts[b]).bg;rw[(h.each b e).l]at d;grind
theorem Lk.hit(h:Lk n B w D v o ao ots M){x j r}(d:cC M.ts x (some (j,r))):∃(a:j<D.ts.length) (e:Option (Nat×T)),LkT D.fs D.ts[j] e r/\gF D.ts x=j/\r∈M.ts:=by
 have⟨b,c⟩:=d;obtain⟨a,rfl⟩:=AD.1 b;exact⟨by rw[h.len];exact a,_,h.each j a,by rw[h.idx,c],AB a⟩
theorem Lk.miss(h:Lk n B w D v o ao ots M){x}(a:cC M.ts x none):gF D.ts x = -1:=by rw[h.idx];exact a
theorem Ur(h:Lk n B w D v o ao ots M)(E:B<=1000000)(x key r)(m:cC M.ts x r):
  cL 17 #[.p D.d 0,.i x,.string key] w λe w'=>e=.returned (.tuple #[.string (eR r key).1,.i (eR r key).2])/\aO w' 0 D/\Fr (Bl.one D.d) w w':=by
 have G:=h.len;have C:=h.n8;cases r with
 |none=>exact Xs D x key (.pointer none) 3 3 w h.db (λX g=>oI D 1 x X g (by omega) (h.miss m)) (.inl ⟨by decide,rfl⟩)
 |some p =>
  have⟨a,r⟩:=p;have⟨l,i,d,k,s⟩:=h.hit m;have⟨H,u,y,z,A,I⟩:=d.rise;have F:=(h.bounds.2.2 r s).2.2.1;by_cases hk:1<=key.size/\key.size<=24
  ·apply(qHt D x a D.ts[a] i key w h.db (GQ h.well) (by rw[d.root];exact d.tr.rooted) d.tr.flat (by omega) l rfl k u A (by omega) hk.1 hk.2).mono
   rintro e w' ⟨J,K,rfl,b,c,q⟩;have j:=Wj z key;rw[y]at j;simp only[eR];rw[AW hk,j];rcases q with⟨f,rfl,rfl⟩|⟨t,f,rfl,rfl⟩
   ·rw[show valOf (bD (aX i) D.ts[a].cs) key=none from f];grind
   ·rw[show valOf (bD (aX i) D.ts[a].cs) key=some t from f];grind
  ·apply(Xs D x key (.p ((D.ts[a]).b) 0) 0 1 w h.db (λX g=>jI D 1 x a D.ts[a] X g (by omega) l rfl k) (.inr ⟨rfl,rfl,hk⟩)).mono
   rintro e w' ⟨rfl,b,c⟩;simp only[eR];grind
end
