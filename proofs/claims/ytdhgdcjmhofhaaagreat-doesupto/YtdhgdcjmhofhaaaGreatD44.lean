import Derived.Test.YtdhgdcjmhofhaaaGreatD43
set_option linter.all false
set_option maxRecDepth 100000
set_option maxHeartbeats 8000000
namespace Go.Proofs.YtdhgdcjmhofhaaaGreat.Tree
open Go.RowKit Pages
variable {K:List ByteArray} {cs:List Ch} {fr:List Nat} {fs:Fs} {n:Nat} {o:Option (Nat×T)} {w:World}
abbrev gJ(rt:Int)(v:Value):Obj:=.cells #[.int .i64 rt,v] 193
abbrev Dc(ver rt:Int):Obj:=.cells #[.int .i64 1,.int .i64 ver,.int .i64 rt,.int .i64 0,.slice none 0 0,.slice none 0 0,.slice none 0 0,.string ⟨#[]⟩] 80
abbrev gK:Obj:=.cells #[.int .i64 0,.int .i64 0,.int .i64 0,.int .i64 0,.slice none 0 0,.slice none 0 0,.slice none 0 0,.string ⟨#[]⟩] 80
abbrev frD(D:Db)(o ao:Option (Nat×T))(ot:Tx->Option (Nat×T)):List Nat:=dK D.fs.safe.length (cQ ([o,ao]++D.ts.map ot))
abbrev qCo(w:World)(b:Nat)(v0 v1 v2 v3 v4 v5 v6 v7:Value):World:=(((((((w.setCell ⟨b,0,none⟩ v0).setCell ⟨b,1,none⟩ v1).setCell ⟨b,2,none⟩ v2).setCell ⟨b,3,none⟩ v3).setCell ⟨b,4,none⟩ v4).setCell ⟨b,5,none⟩ v5).setCell ⟨b,6,none⟩ v6).setCell ⟨b,7,none⟩ v7
theorem qCn(w b a c d v3 e f g h):Fr (Bl.one b) w (qCo w b a c d v3 e f g h):=
  ((((((((AF (Bl.one b) w).setCell (p:=⟨b,0,none⟩) (.inl rfl) _).setCell (p:=⟨b,1,none⟩) (.inl rfl) _).setCell (p:=⟨b,2,none⟩) (.inl rfl) _).setCell (p:=⟨b,3,none⟩) (.inl rfl) _).setCell (p:=⟨b,4,none⟩) (.inl rfl) _).setCell (p:=⟨b,5,none⟩) (.inl rfl) _).setCell (p:=⟨b,6,none⟩) (.inl rfl) _).setCell (p:=⟨b,7,none⟩) (.inl rfl) _
theorem Yk {b j k l m n o p q t}(h:w.heap[b]?=some (.cells #[j,k,l,m,n,o,p,q] t))(a c d v3 e f g i):(qCo w b a c d v3 e f g i).heap[b]?=some (.cells #[a,c,d,v3,e,f,g,i] t):=by
  have:=aC (aC (aC (aC (aC (aC (aC (aC h 0 a) 1 c) 2 d) 3 v3) 4 e) 5 f) 6 g) 7 i;simpa using this
theorem Ct{P:Program}{j:Func}{p q:Tmp}{e f:TypeId}(h:j.results=#[.cell p e,.cell q f])(a:Array Value)(w:World)(g c:Nat)(t t':TypeId)(cs b:Array Value)(d i:TypeDesc)(r:a.getD p undef=.pointer (some ⟨g,0,none⟩))(u:a.getD q undef=.pointer (some ⟨c,0,none⟩))(m:w.heap[g]?=some (.cells cs t))(n:w.heap[c]?=some (.cells b t'))(x:P.underlying e=some d)(k:(match d with|.struct _|.array _ _=>true|_=>false)=true)(hi:(P.info? e).map (·.size)=some cs.size)(y:P.underlying f=some i)(l:(match i with|.struct _|.array _ _=>true|_=>false)=true)(o:(P.info? f).map (·.size)=some b.size):
    (results j a).run P w=.ok (.tuple #[.agg cs,.agg b]) w:=by
  have s:a[p]?.getD undef=.p g 0:=by simpa using r
  have v:a[q]?.getD undef=.p c 0:=by simpa using u
  simp[results,h,s,v,asAddr,JC w g t e cs (0,0) d m x k hi,JC w c t' f b (0,0) i n y l o]
theorem Jc(D st)(v:Nat)(o ao ot ca cc cs S w)(h:aO w st D)(hv:D.ver=v)(hv63:v+1<9223372036854775808)(hn:D.ts.length≤1000)(hl:(D.fs.life==0)=false)(hp2:1<D.fs.safe.length)(hm:pH D.fs (v % 2) v D.root)(ho:bJ D.fs (rootOf o) o)(hr:D.root=rootOf o)(hf2:oV o)(hao:bJ D.fs (rootOf ao) ao)(har:D.aroot=rootOf ao)(hts:∀ t∈D.ts,bJ D.fs (rootOf (ot t)) (ot t)∧t.root=rootOf (ot t))(hR:aD w S ca (cs.flatMap Ch.cells))(hS:∀ b,S b→b<w.heap.size)(hri:cJ cs)(hcn:cs.length≤1000000)(hc:cs.length≤cc)(hca:(ca=none∧cc=0)∨∃ b off,ca=some ⟨b,off,none⟩)(hG:Vy D.fs o cs)(hT:qGi D.fs (Kp o cs) (frD D o ao ot)):
    cL 129 #[.p D.d 0,.slice ca cs.length cc] w λe w'=>bW w w'∧(((bZ o cs (frD D o ao ot)).2.length≤(frD D o ao ot).length∧∃ wa wc,e=.returned (.tuple #[.agg #[.i (rootOf (bZ o cs (frD D o ao ot)).1:Nat),.slice wa (bZ o cs (frD D o ao ot)).2.length wc],.agg #[.i 1,.i (v+1:Nat),.i (rootOf (bZ o cs (frD D o ao ot)).1:Nat),.i 0,.n,.n,.n,.string ⟨#[]⟩]])∧aD w' (New w w') wa (((bZ o cs (frD D o ao ot)).2.map enc1).flatMap dD)∧(bZ o cs (frD D o ao ot)).2.length≤wc)∨((frD D o ao ot).length<(bZ o cs (frD D o ao ot)).2.length∧e=.panicked (sS 8))):=by
  obtain⟨fr,hfr⟩:=nM (frD D o ao ot);rw [hfr] at hT ⊢;obtain⟨rt,hrt⟩:=nM (rootOf (bZ o cs fr).1);obtain⟨l,hll⟩:=nM ((bZ o cs fr).2);rw [hrt,hll];obtain⟨W1,hW1⟩:=nM ((w.alloc (gJ 0 .n)).alloc gK);have B1:bW w W1:=hW1▸(bA _ _).alloc (by simp) _;have p1:W1.heap[w.heap.size]?=some (gJ 0 .n):=hW1▸aI _ (aA w _);have g1:W1.heap[w.heap.size+1]?=some gK:=by
    rw [← hW1];have:=aA (w.alloc (gJ 0 .n)) gK;simpa using this
  have z1:W1.heap.size=w.heap.size+2:=by rw [← hW1];simp
  have HK:Hid (∀ X,bW W1 X→aO X st D∧X.cell? ⟨D.d,2,none⟩=some (.p D.β 0)∧X.cell? ⟨D.d,4,none⟩=some (.i (v:Nat))∧X.cell? ⟨D.d,5,none⟩=some (.i D.root)∧X.heap[w.heap.size]?=some (gJ 0 .n)∧X.heap[w.heap.size+1]?=some gK∧bW w X):=by
    intro X hX;have hb:=B1.trans (hX.mono B1.size);have h1:=h.on (vV hb h.lies);obtain⟨c0,c1,c2,c3,c4,c5,c6,c7,c8,c9,c10,c11,c12,c13,c14⟩:=fC h1.box;rw [hv] at c4;exact⟨h1,c2,c4,c5,(hX.block _ (by omega)).trans p1,(hX.block _ (by omega)).trans g1,hb⟩
  have hCM:=Gw D st v W1 (HK.out W1 (AC _ _)).1 hv hl hp2 hm;have HTA:Hid (∀ X,bW W1 X→cL 36 #[.p D.d 0,.i D.root] X λe w'=>e=.returned (.agg #[.p D.β 0,.i D.root,.n])∧bW X w'):=λX hX=>nF D.d D.β D.root X (HK.out X hX).2.1;have HFe:Hid (∀ X,bW W1 X→cL 158 #[.p D.d 0] X λe w'=>∃ vf,e=.returned vf∧w'.ownsRow 0 3 1 vf fr.length (fr.map (λn:Nat=>Value.i n))∧bW X w'):=λX hX=>by
    have:=qFb D st o ao ot X (HK.out X hX).1 (by omega) hl ho hr hao har hts;rw [show dK D.fs.safe.length (cQ ([o,ao]++D.ts.map ot))=fr from hfr] at this;exact this
  have HPl:Hid (∀ X fa fc,bW W1 X→X.ownsRow 0 3 1 (.slice fa fr.length fc) fr.length (fr.map (λn:Nat=>Value.i n))→cL 157 #[.agg #[.p D.β 0,.i D.root,.slice ca cs.length cc],.slice fa fr.length fc] X λe w'=>bW X w'∧((l.length≤fr.length∧∃ wa wc,e=.returned (.agg #[.i (rt:Nat),.slice wa l.length wc])∧aD w' (New X w') wa ((l.map enc1).flatMap dD)∧l.length≤wc)∨(fr.length<l.length∧e=.panicked (sS 8)))):=λX fa fc hX hof=>by
    obtain⟨hD,_,_,_,_,_,hb⟩:=HK.out X hX;obtain⟨fa',fc',he,hfc,hrow⟩:=bR hof;simp only [AP,CT] at he;obtain⟨e1,e2⟩:=he;subst e1 e2;have:=qDj D.β D.sv D.lv D.fs hl o D.root (hr▸ho) hf2 ca cc cs S fa fc fr _ X hD.file (hR.on (vV hb hS)) (λk hk=>jY (hS k hk) hb.size) hri hcn hc hca hG hrow (λk hk=>aM hof hk) (λhne=>by
      rcases gR hof with⟨_,h2,_⟩|⟨g,c,cur,h3,_⟩
      · exact absurd (AG h2) hne
      · simp only [AP] at h3;exact⟨g,0,h3.1⟩) hfc hT
    rw [hrt,hll] at this;exact this
  have HZ:Hid (W1.heap.size=w.heap.size+2):=z1;have HD:Hid (D.d<w.heap.size):=(gL h.box);have hadd:IntKind.i64.wrap ((v:Int)+1)=(v:Int)+1:=by rw [CO];omega
  clear h hm ho hao hts hR hG hT hfr hrt hll z1 hv hr har;go_enter Tryz.func129,Tryz.ntmps129;go_wp2_with (first
    | (go_at_call 156;(with_reducible refine jC hCM ?_);rintro e X1 ⟨rfl,hX1⟩;obtain⟨_,k2,k4,k5,_⟩:=HK.out X1 hX1;have hTA:=HTA.out X1 hX1)
    | (go_at_call 36;(with_reducible refine jC hTA ?_);rintro e X2 ⟨rfl,hX2⟩;have B2:=hX1.trans (hX2.mono hX1.size)))
  obtain⟨X3,hX3⟩:=nM (X2.alloc (Wm D.β D.root ca cs.length cc));rw [hX3];have t3:X3.heap[X2.heap.size]?=some (Wm D.β D.root ca cs.length cc):=hX3▸aA X2 _;have z12:=B2.size;have B3:bW W1 X3:=hX3▸B2.alloc z12 _;have z13:=B3.size;have HS:Hid (∀ X,bW X3 X→X.cell? ⟨X2.heap.size,0,none⟩=some (.p D.β 0)∧X.cell? ⟨X2.heap.size,1,none⟩=some (.i D.root)∧X.cell? ⟨X2.heap.size,2,none⟩=some (.slice ca cs.length cc)):=λX hX=>eQ ((hX.block _ (gL t3)).trans t3);have B30:bW X3 X3:=AC _ _;by_cases hno:fr.length<l.length
  · refine dF (S:=(λX:World=>X.cell? ⟨X2.heap.size,0,none⟩=some (.p D.β 0)∧X.cell? ⟨X2.heap.size,1,none⟩=some (.i D.root)∧X.cell? ⟨X2.heap.size,2,none⟩=some (.slice ca cs.length cc))) 5 (by kernel_rfl) ?_
    have hHeld:=(show (λX:World=>X.cell? ⟨X2.heap.size,0,none⟩=some (.p D.β 0)∧X.cell? ⟨X2.heap.size,1,none⟩=some (.i D.root)∧X.cell? ⟨X2.heap.size,2,none⟩=some (.slice ca cs.length cc)) X3.drew from HS.out _ B30.drew);refine tks [(0,.agg #[.p D.β 0,.i D.root,.slice ca cs.length cc]),(1,.p D.d 0)] (by assumption) ?_;iterate 2 (refine⟨_,rfl,by kernel_rfl,λ_ _ _ h=>h,.inl ⟨by rfl,λw hSw=>by(try dsimp only at hSw);go_simp⟩,?_⟩;try simp only [Act.put,jV,jZ,jX])
    refine tke ?_;refine qD (i:=2) (j:=4) (by kernel_rfl) rfl rfl (λK hK=>?_) (λK hK=>?_)
    · go_simp
      go_at_call 158
      (with_reducible refine jC (HFe.out _ (B3.trans (Below.mono (B30.drew) z13))) ?_)
      rintro e X5 ⟨vf,rfl,hof,hX5⟩;obtain⟨fa,fc,rfl⟩:=aF hof;have BF:=(B30.drew).trans (hX5.mono (by simp));simp only [];refine hK.out _ _ (λ_=>HS.out _ BF) ?_;try simp only [Act.put,jV,jZ,jX]
      refine qD (i:=3) (j:=4) (by kernel_rfl) rfl rfl (λK hK=>?_) (λK hK=>?_)
      · go_simp
        go_at_call 157
        (with_reducible refine jC (HPl.out _ fa fc (B3.trans (Below.mono (BF) z13)) (hof)) ?_)
        rintro e X6 ⟨hX6,hQ⟩;rcases hQ with⟨hq,_⟩|⟨_,rfl⟩
        · omega
        exact⟨rfl,(B1.trans (B3.mono B1.size)).trans (((BF).trans (hX6.mono (by have:=BF.size;simp;omega))).mono (by have:=B1.size;omega)),.inr ⟨hno,rfl⟩⟩
      · go_simp
        refine hK.out _ _ (λ_=>HS.out _ (BF.alloc BF.size _)) ?_;try simp only [Act.put,jV,jZ,jX]
        refine aR (i:=3) (by kernel_rfl) rfl (λK hK=>?_);go_simp;go_at_call 157
        (with_reducible refine jC (HPl.out _ fa fc (B3.trans (Below.mono (BF.alloc BF.size _) z13)) (CG (w:=X5) hof _)) ?_)
        rintro e X6 ⟨hX6,hQ⟩;rcases hQ with⟨hq,_⟩|⟨_,rfl⟩
        · omega
        exact⟨rfl,(B1.trans (B3.mono B1.size)).trans (((BF.alloc BF.size _).trans (hX6.mono (by have:=BF.size;simp;omega))).mono (by have:=B1.size;omega)),.inr ⟨hno,rfl⟩⟩
    · go_simp
      refine hK.out _ _ (λ_=>HS.out _ (B30.drew.alloc (jU _) _)) ?_;try simp only [Act.put,jV,jZ,jX]
      refine aR (i:=2) (by kernel_rfl) rfl (λK hK=>?_);go_simp;go_at_call 158
      (with_reducible refine jC (HFe.out _ (B3.trans (Below.mono (B30.drew.alloc (jU _) _) z13))) ?_)
      rintro e X5 ⟨vf,rfl,hof,hX5⟩;obtain⟨fa,fc,rfl⟩:=aF hof;have BF:=(B30.drew.alloc (jU _) _).trans (hX5.mono (by simp));simp only [];refine hK.out _ _ (λ_=>HS.out _ BF) ?_;try simp only [Act.put,jV,jZ,jX]
      refine aR (i:=3) (by kernel_rfl) rfl (λK hK=>?_);go_simp;go_at_call 157
      (with_reducible refine jC (HPl.out _ fa fc (B3.trans (Below.mono (BF) z13)) (hof)) ?_)
      rintro e X6 ⟨hX6,hQ⟩;rcases hQ with⟨hq,_⟩|⟨_,rfl⟩
      · omega
      exact⟨rfl,(B1.trans (B3.mono B1.size)).trans (((BF).trans (hX6.mono (by have:=BF.size;simp;omega))).mono (by have:=B1.size;omega)),.inr ⟨hno,rfl⟩⟩
  have HPL:Hid (∀ X fa fc,bW W1 X→X.ownsRow 0 3 1 (.slice fa fr.length fc) fr.length (fr.map (λn:Nat=>Value.i n))→cL 157 #[.agg #[.p D.β 0,.i D.root,.slice ca cs.length cc],.slice fa fr.length fc] X λe w'=>∃ wa wc,e=.returned (.agg #[.i (rt:Nat),.slice wa l.length wc])∧aD w' (New X w') wa ((l.map enc1).flatMap dD)∧l.length≤wc∧bW X w'):=λX fa fc hX hof=>(HPl.out X fa fc hX hof).mono (by
    rintro e w' ⟨hb,(⟨_,wa,wc,he,hr,hc⟩|⟨hq,_⟩)⟩
    · exact⟨wa,wc,he,hr,hc,hb⟩
    · omega)
  go_region_held3 (λX=>X.cell? ⟨X2.heap.size,0,none⟩=some (.p D.β 0)∧X.cell? ⟨X2.heap.size,1,none⟩=some (.i D.root)∧X.cell? ⟨X2.heap.size,2,none⟩=some (.slice ca cs.length cc))
    ((refine HS.out _ ?_;(repeat (first|exact BP|exact BF|exact B30|(refine GU ?_)|(refine KN ?_ (by first|omega|(simp;omega)) _)|(refine JI ?_ (by first|omega|(simp;omega)|(show X3.heap.size≤X5.heap.size;omega)|(show X3.heap.size≤X6.heap.size;omega)|exact jU _) _)))))
    (first
      | (go_at_call 158;(with_reducible refine jC (HFe.out _ ?_) ?_);exact(B3.alloc z13 _).drew;rintro e X5 ⟨vf,rfl,hof,hX5⟩;obtain⟨fa,fc,rfl⟩:=aF hof;have BF:=(B30.alloc (jU _) _).drew.trans (hX5.mono (by simp));have zF:=BF.size;have xA:X5.heap[X3.heap.size]?=some (gJ 0 .n):=(hX5.block X3.heap.size (by simp)).trans (aA X3 (gJ 0 .n));have lA:=(gL xA))
      | (go_at_call 158;(with_reducible refine jC (HFe.out _ ?_) ?_);exact B3.drew;rintro e X5 ⟨vf,rfl,hof,hX5⟩;obtain⟨fa,fc,rfl⟩:=aF hof;have BF:=B30.drew.trans hX5;have zF:=BF.size)
      | (go_at_call 157;(with_reducible refine jC (HPL.out _ fa fc ?_ ?_) ?_);exact B3.trans (BF.mono z13);exact hof;rintro e X6 ⟨wa,wc,rfl,hRw,hwc,hX6⟩;have BP:bW X3 X6:=BF.trans (hX6.mono zF);have zP:=BP.size;have xB:X6.heap[X3.heap.size]?=some (gJ 0 .n):=(hX6.block X3.heap.size lA).trans xA;obtain⟨g0,g1⟩:=bS xB;have gfr:=aB xB)
      | (go_at_call 157;(with_reducible refine jC (HPL.out _ fa fc ?_ ?_) ?_);exact(B3.trans (BF.mono z13)).alloc (by omega) _;exact CG (w:=X5) hof _;rintro e X6 ⟨wa,wc,rfl,hRw,hwc,hX6⟩;have BP:bW X3 X6:=(BF.alloc zF _).trans (hX6.mono (by simp;omega));have zP:=BP.size;have xB:X6.heap[X5.heap.size]?=some (gJ 0 .n):=(hX6.block X5.heap.size (by simp)).trans (aA X5 (gJ 0 .n));obtain⟨g0,g1⟩:=bS xB;have gfr:=aB xB)
      | (go_at_call 157;(with_reducible refine jC (HPL.out _ fa fc ?_ ?_) ?_);exact B3.trans (BF.mono z13);exact hof;rintro e X6 ⟨wa,wc,rfl,hRw,hwc,hX6⟩;have BP:bW X3 X6:=BF.trans (hX6.mono zF);have zP:=BP.size;have xE:=aA X6 (gJ 0 .n);obtain⟨g0,g1⟩:=bS xE;have gfr:=aB xE))
  all_goals
    have zz:=HZ.out;first
      | (obtain⟨Xf,hXf⟩:=nM (X6.alloc (gJ (rt:Nat) (.slice wa l.length wc)))
         rw [hXf];have BFf:bW X3 Xf:=hXf▸BP.alloc zP _;have b7:Xf.heap[X6.heap.size]?=some (gJ (rt:Nat) (.slice wa l.length wc)):=by rw [← hXf];exact aA X6 _
         have HRF:Hid (aD Xf (λk=>X3.heap.size≤k∧k<Xf.heap.size) wa ((l.map enc1).flatMap dD)):=by show aD _ _ _ _;rw [← hXf];exact(hRw.on ((CJ _ X6).alloc (λk hk=>hk.2) _)).mono (λk hk=>⟨by have:=hk.1;omega,by have:=hk.2;simp;omega⟩)
         obtain⟨B7,hB7⟩:=nM (X6.heap.size);have zB7:X3.heap.size≤B7:=by omega
         rw [hB7] at b7 ⊢;clear hXf hB7)
      | (obtain⟨Xf,hXf⟩:=nM ((X6.setCell ⟨X5.heap.size,0,none⟩ (.i (rt:Nat))).setCell ⟨X5.heap.size,1,none⟩ (.slice wa l.length wc))
         rw [hXf];have BFf:bW X3 Xf:=hXf▸(BP.setCell (p:=⟨X5.heap.size,0,none⟩) zF _).setCell (p:=⟨X5.heap.size,1,none⟩) zF _;have b7:Xf.heap[X5.heap.size]?=some (gJ (rt:Nat) (.slice wa l.length wc)):=by rw [← hXf];have:=aC (aC xB 0 (.i (rt:Nat))) 1 (.slice wa l.length wc);simpa using this
         have HRF:Hid (aD Xf (λk=>X3.heap.size≤k∧k<Xf.heap.size) wa ((l.map enc1).flatMap dD)):=by show aD _ _ _ _;rw [← hXf];exact(hRw.on (((CJ _ X6).setCell (p:=⟨X5.heap.size,0,none⟩) (λhk=>by have h1:(X5.alloc (gJ 0 .n)).heap.size≤X5.heap.size:=hk.1;rw [LQ] at h1;omega) _).setCell (p:=⟨X5.heap.size,1,none⟩) (λhk=>by have h1:(X5.alloc (gJ 0 .n)).heap.size≤X5.heap.size:=hk.1;rw [LQ] at h1;omega) _)).mono (λk hk=>⟨by have h1:(X5.alloc (gJ 0 .n)).heap.size≤k:=hk.1;rw [LQ] at h1;omega,by have:=hk.2;simp;omega⟩)
         obtain⟨B7,hB7⟩:=nM (X5.heap.size);have zB7:X3.heap.size≤B7:=by omega
         rw [hB7] at b7 ⊢;clear hXf hB7)
      | (obtain⟨Xf,hXf⟩:=nM ((X6.setCell ⟨X3.heap.size,0,none⟩ (.i (rt:Nat))).setCell ⟨X3.heap.size,1,none⟩ (.slice wa l.length wc))
         rw [hXf];have BFf:bW X3 Xf:=hXf▸(BP.setCell (p:=⟨X3.heap.size,0,none⟩) (jU _) _).setCell (p:=⟨X3.heap.size,1,none⟩) (jU _) _;have b7:Xf.heap[X3.heap.size]?=some (gJ (rt:Nat) (.slice wa l.length wc)):=by rw [← hXf];have:=aC (aC xB 0 (.i (rt:Nat))) 1 (.slice wa l.length wc);simpa using this
         have HRF:Hid (aD Xf (λk=>X3.heap.size≤k∧k<Xf.heap.size) wa ((l.map enc1).flatMap dD)):=by show aD _ _ _ _;rw [← hXf];exact(hRw.on (((CJ _ X6).setCell (p:=⟨X3.heap.size,0,none⟩) (λhk=>by have h1:X5.heap.size≤X3.heap.size:=hk.1;omega) _).setCell (p:=⟨X3.heap.size,1,none⟩) (λhk=>by have h1:X5.heap.size≤X3.heap.size:=hk.1;omega) _)).mono (λk hk=>⟨by have h1:=hk.1;omega,by have:=hk.2;simp;omega⟩)
         obtain⟨B7,hB7⟩:=nM (X3.heap.size);have zB7:X3.heap.size≤B7:=by omega
         rw [hB7] at b7 ⊢;clear hXf hB7)
    clear g0 g1 gfr hRw hX6 hof hX5;have BW:bW W1 Xf:=B3.trans (BFf.mono z13);obtain⟨_,k2,k4,k5,pP,pG,hBw⟩:=HK.out Xf BW;have dlt:D.d<w.heap.size:=HD.out;obtain⟨g0,g1⟩:=bS b7;obtain⟨q0,q1⟩:=bS pP;have qfr:=aB pP;obtain⟨r0,r1,r2,r3,r4,r5,r6,r7⟩:=bM pG;have rfr:=aB pG;go_wp2;go_region_held3 (λX=>X.cell? ⟨B7,0,none⟩=some (.i (rt:Nat))∧X.cell? ⟨B7,1,none⟩=some (.slice wa l.length wc)∧X.cell? ⟨D.d,4,none⟩=some (.i (v:Nat)))
      ((first|(with_reducible exact⟨g0,g1,k4⟩)|(refine⟨?_,?_,?_⟩<;>(try rw [tV])<;>(repeat (with_reducible refine cD (by omega) ?_))<;>(first|(with_reducible exact g0)|(with_reducible exact g1)|(with_reducible exact k4)))|(simp [g0,g1,k4])))
      (fail)
    obtain⟨Xh,hXh⟩:=nM ((Xf.setCell ⟨w.heap.size,0,none⟩ (.i (rt:Nat))).setCell ⟨w.heap.size,1,none⟩ (.slice wa l.length wc));have fh:Fr (Bl.one w.heap.size) Xf Xh:=hXh▸(((AF (Bl.one w.heap.size) Xf).setCell (p:=⟨w.heap.size,0,none⟩) (.inl rfl) _).setCell (p:=⟨w.heap.size,1,none⟩) (.inl rfl) _);have bh:Xh.heap[w.heap.size]?=some (gJ (rt:Nat) (.slice wa l.length wc)):=by rw [← hXh];have:=aC (aC pP 0 (.i (rt:Nat))) 1 (.slice wa l.length wc);simpa using this
    have gh:=fh.heap pG (oN (by omega));obtain⟨Xg,hXg⟩:=nM ((qCo Xh (w.heap.size+1) (.i 1) (.i ((v:Int)+1)) (.i (rt:Nat)) (.i 0) .n .n .n (.string ⟨#[]⟩)).drew);have fg:Fr (Bl.one (w.heap.size+1)) Xh Xg:=hXg▸(qCn Xh (w.heap.size+1) _ _ _ _ _ _ _ _).drew;have bg:Xg.heap[w.heap.size]?=some (gJ (rt:Nat) (.slice wa l.length wc)):=fg.heap bh (oN (by omega));have gg:Xg.heap[w.heap.size+1]?=some (Dc ((v:Int)+1) (rt:Nat)):=by rw [← hXg,FL];exact Yk gh _ _ _ _ _ _ _ _
    rw [hXh,hXg];have zg:=fg.size;have zh:=fh.size;have HBG:Hid (bW w Xg):=(hBw.trans (fh.below hBw.size (oK (by omega)))).trans (fg.below (by have:=hBw.size;omega) (oK (by omega)));have HRG:Hid (aD Xg (New w Xg) wa ((l.map enc1).flatMap dD)):=by
      have hRf':aD Xf (λk=>X3.heap.size≤k∧k<Xf.heap.size) wa ((l.map enc1).flatMap dD):=HRF.out;refine((hRf'.on (fh.on (λk hk=>⟨hk.2,λe=>by simp only [Bl.one] at e;have:=hk.1;omega⟩))).on (fg.on (λk hk=>⟨by have:=hk.2;omega,λe=>by simp only [Bl.one] at e;have:=hk.1;omega⟩))).mono (λk hk=>⟨by have:=hk.1;omega,by have:=hk.2;omega⟩)
    clear hXh hXg bh gh fh fg g0 g1 q0 q1 qfr r0 r1 r2 r3 r4 r5 r6 r7 rfr pP pG;go_wp2;refine BI (v:=.tuple #[.agg #[.i (rt:Nat),.slice wa l.length wc],.agg #[.i 1,.i (v+1:Nat),.i (rt:Nat),.i 0,.n,.n,.n,.string ⟨#[]⟩]]) ?_ rfl ⟨HBG.out,.inl ⟨by omega,wa,wc,rfl,HRG.out,hwc⟩⟩;exact Ct (p:=4) (q:=5) rfl _ _ w.heap.size (w.heap.size+1) _ _ _ _ _ _ rfl rfl bg gg Tryz.underlying193 rfl (by kernel_rfl) Tryz.underlying80 rfl (by kernel_rfl)
theorem Xr (P:rN K n fs o cs fr):Vy fs o cs:=⟨P.good,P.size⟩
theorem rN.fewF (P:rN K n fs o cs fr):fr.length<=4096:=by
 have a:=Kq (l:=fr) (m:=List.range n) P.nodup (λp b=>KK.2 (P.free p b).2);rw[List.length_range]at a;have:=P.small;omega
theorem Vw.few (P:Vw K n fs o cs fr):(bZ o cs fr).2.length<=4096:=vJ P.room P.fewF
theorem qBz (P:rN K n fs o cs fr):qGi fs (Kp o cs) fr:=by
 have H:=El P.tree.rooted P.rise P.good;refine⟨λc a=>?_,by have:=P.fewF;omega,P.place⟩;have b:iG o cs=some c:=a;rw[b]at H;exact H.1
abbrev Db.made(D:Db)(lv':Value)(l:List (Nat×Pg))(v rt:Nat):Db:={D with lv:=lv',fs:=D.fs.made l (v % 2) (dR (v:Nat) (rt:Nat)),ver:=(v:Nat),root:=rt,aroot:=D.root,ka:=none,ia:=none,ea:=none,kc:=0,ic:=0,ec:=0}
theorem Mk {b k l p s u v x y z A q r m n o t}(h:w.heap[b]?=some (.cells #[k,l,p,s,u,v,x,y,z,A,q,r,m,n,o] t))(v3 d e f g i j a c):(qGt (w.setCell ⟨b,11,none⟩ c) b v3 d e f g i j a).heap[b]?=some (.cells #[k,l,p,v3,d,e,f,g,i,j,a,c,m,n,o] t):=by
 have:=aC (aC (aC (aC (aC (aC (aC (aC (aC h 11 c) 3 v3) 4 d) 5 e) 6 f) 7 g) 8 i) 9 j) 10 a;simpa using this
theorem Sn(w b v3 d e f g h i a c):Fr (Bl.one b) w (qGt (w.setCell ⟨b,11,none⟩ c) b v3 d e f g h i a):=
 (((((((((AF (Bl.one b) w).setCell (p:=⟨b,11,none⟩) (.inl rfl) _).setCell (p:=⟨b,3,none⟩) (.inl rfl) _).setCell (p:=⟨b,4,none⟩) (.inl rfl) _).setCell (p:=⟨b,5,none⟩) (.inl rfl) _).setCell (p:=⟨b,6,none⟩) (.inl rfl) _).setCell (p:=⟨b,7,none⟩) (.inl rfl) _).setCell (p:=⟨b,8,none⟩) (.inl rfl) _).setCell (p:=⟨b,9,none⟩) (.inl rfl) _).setCell (p:=⟨b,10,none⟩) (.inl rfl) _
theorem qCd (D q)(v:Nat)(o ao i s A cs S w)(h:aO w q D)(a7:D.fs.well)(a2:D.failed=false)(an:D.ver=v)(ap:v+1<9223372036854775808)(b9:D.ts.length<=1000)(m:lD K n D.fs v o ao)(az:2<=n)(x:D.root=rootOf o)(ah:D.aroot=rootOf ao)(am:∀t∈D.ts,bJ D.fs (rootOf (i t)) (i t)/\t.root=rootOf (i t))(P:Vw K n D.fs o cs (frD D o ao i))(ae:aD w S s (cs.flatMap Ch.cells))(b2:∀b,S b->b<w.heap.size)(b6:cs.length<=1000000)(a1:cs.length<=A)(b5:(s=none/\A=0)\/∃b bb,s=some ⟨b,bb,none⟩):
  cL 94 #[.p D.d 0,.slice s cs.length A] w λe w'=>e=.returned (.bool true)/\∃l,aO w' q (D.made l (bZ o cs (frD D o ao i)).2 (v+1) (rootOf (bZ o cs (frD D o ao i)).1))/\Fr (λk=>k=D.d\/fpF D.β D.sv D.lv k) w w'/\aJ w (fpF D.β D.sv D.lv) (fpF D.β D.sv l):=by
 have ag:=GQ a7;have ac:=iL D.β D.sv D.lv D.fs w h.file;rw[ag]at ac;have b8:D.fs.safe.length=n:=m.len;have ak:pH D.fs (v % 2) v D.root:=x▸m.meta0;have u:=Jc D q v o ao i s A cs S w h an ap b9 ag (by omega) ak m.sure.rooted x m.sure.flat m.ahead.rooted ah am ae b2 P.rise b6 a1 b5 (Xr P.torN) (qBz P.torN);have u:=u.mono (R':=λe w'=>∃c d,e=.returned (.tuple #[.agg #[.i (rootOf (bZ o cs (frD D o ao i)).1:Nat),.slice c (bZ o cs (frD D o ao i)).2.length d],.agg #[.i 1,.i (v+1:Nat),.i (rootOf (bZ o cs (frD D o ao i)).1:Nat),.i 0,.n,.n,.n,.string ⟨#[]⟩]])/\aD w' (New w w') c (((bZ o cs (frD D o ao i)).2.map enc1).flatMap dD)/\(bZ o cs (frD D o ao i)).2.length<=d/\bW w w') (by
  rintro e w' ⟨b4,(⟨_,c,d,b7,x,a1⟩|⟨bo,_⟩)⟩
  ·exact⟨c,d,b7,x,a1,b4⟩
  ·have:=P.room;omega)
 obtain⟨aa,z,W,_,_⟩:=wQ m P ap az;have a5:=aa.sure.root;obtain⟨p,aj⟩:=nM (frD D o ao i);rw[aj]at u P z W a5⊢;have ai:=P.few;have a4:∀C∈(bZ o cs p).2,C.1<D.fs.safe.length:=λC ba=>by
  have:C.1∈(bZ o cs p).2.map (·.1):=AY.2 ⟨C,ba,rfl⟩;rw[W]at this;have:=P.free _ (CZ this);omega
 obtain⟨a,a6⟩:=nM (rootOf (bZ o cs p).1);obtain⟨g,a3⟩:=nM ((bZ o cs p).2);rw[a6,a3]at u⊢;rw[a6]at a5;rw[a3]at z ai a4;have al:(dR ((v+1:Nat):Int) (a:Nat)).encE=0:=Qe (v+1:Nat) a (by omega) (a5.imp (λh=>by rw[h];rfl) id);obtain⟨E,F,L,M,N,O,Q,R,U,V,G,H,r,I,J⟩:=fC h.box;have bm:=(gL h.box);have aw:Hid (∀X c d,bW w X->aD X (New w X) c ((g.map enc1).flatMap dD)->g.length<=d->cL 130 #[.p D.d 0,.agg #[.i (a:Nat),.slice c g.length d],.agg #[.i 1,.i ((v:Int)+1),.i (a:Nat),.i 0,.n,.n,.n,.string ⟨#[]⟩]] X λe w'=>e=.returned (.bool true)/\∃l,aO w' q {D with lv:=l,fs:=D.fs.made g ((v+1) % 2) (dR (v+1:Nat) (a:Nat))}/\Fr (fpF D.β D.sv D.lv) X w'/\aJ X (fpF D.β D.sv D.lv) (fpF D.β D.sv l)):=λX c d a0 Z a8=>by
  have Y:=h.on (vV a0 h.lies);exact qIt D q g ⟨0,v+1,a,none,none,none,0,0,0⟩ a c d (New w X) X Y a7 m.late Z (λk f=>⟨f.2,λe=>by have:=h.file.lies k e;have:=f.1;omega⟩) a8 (by omega) z a4 al (To _ _) (by omega)
 rw[a2]at r;have ar:Hid (∀X,bW w X->X.c D.d 2=some (.p D.β 0)/\X.c D.d 12=some (.bool false)):=λX a0=>by
  have Y:=h.on (vV a0 h.lies);obtain⟨E,F,L,M,N,O,Q,R,U,V,G,H,r,I,J⟩:=fC Y.box;rw[a2]at r;exact⟨L,r⟩
 have av:Hid (∀k,w.heap.size<=k->¬fpF D.β D.sv D.lv k):=λk f e=>by have:=h.file.lies k e;omega
 have au:Hid (¬fpF D.β D.sv D.lv D.d):=h.noFile;clear a2 aj a6 a3 P m am ae a7 aa z W al ai a4 h x ah an b8 E F M N O Q R U V G H I J ak;go_enter Tryz.func94,Tryz.ntmps94;go_wp2_with (first
  |(go_at_call 49;(with_reducible refine jC ac ?_);rintro e w' ⟨rfl,bp⟩;subst w')
  |(go_at_call 129;(with_reducible refine jC u ?_);rintro e j ⟨c,d,rfl,Z,a8,af⟩;have bk:=af.size;have y:bW w ((j.alloc (gJ (a:Nat) (.slice c g.length d))).alloc (Dc ((v:Int)+1) (a:Nat))):=(af.alloc bk _).alloc (by simp;omega) _;have ax:((j.alloc (gJ (a:Nat) (.slice c g.length d))).alloc (Dc ((v:Int)+1) (a:Nat))).heap[j.heap.size]?=some (gJ (a:Nat) (.slice c g.length d)):=aI _ (aA j _);have ab:((j.alloc (gJ (a:Nat) (.slice c g.length d))).alloc (Dc ((v:Int)+1) (a:Nat))).heap[j.heap.size+1]?=some (Dc ((v:Int)+1) (a:Nat)):=(by have:=aA (j.alloc (gJ (a:Nat) (.slice c g.length d))) (Dc ((v:Int)+1) (a:Nat));simpa using this);obtain⟨br,bq⟩:=ar.out _ y;obtain⟨bs,bt⟩:=bS ax;obtain⟨bc,bd,be,bf,bg,bh,bi,bj⟩:=bM ab;have b3:=aw.out ((j.alloc (gJ (a:Nat) (.slice c g.length d))).alloc (Dc ((v:Int)+1) (a:Nat))) c d y ((Z.on (((CJ (New w j) j).alloc (λk f=>f.2) _).alloc (λk f=>by have:=f.2;simp;omega) _)).mono (λk f=>⟨f.1,by have:=f.2;simp;omega⟩)) a8)
  |(go_at_call 130;(with_reducible refine jC b3 ?_);rintro e X3 ⟨rfl,l,B,ad,b1⟩;obtain⟨E,F,L,M,N,O,Q,R,U,V,G,H,r,I,J⟩:=fC B.box;have bl:=aB B.box;have ay:=ad.heap ab (av.out _ (by omega));obtain⟨bc,bd,be,bf,bg,bh,bi,bj⟩:=bM ay))
 have bn:¬fpF D.β D.sv D.lv D.d:=au.out;have aq:=Mk B.box (.i 1) (.i ((v:Int)+1)) (.i (a:Nat)) (.i 0) .n .n .n (.string ⟨#[]⟩) (.i D.root);have a9:=Sn X3 D.d (.i 1) (.i ((v:Int)+1)) (.i (a:Nat)) (.i 0) .n .n .n (.string ⟨#[]⟩) (.i D.root);have b0:aO _ q (D.made l g (v+1) a):=B.rebox (D':=D.made l g (v+1) a) a9 rfl rfl rfl rfl rfl rfl rfl aq;go_ret;refine⟨rfl,l,b0,?_,λk f=>(b1 k f).imp id (λh=>by have:=y.size;omega)⟩;exact((AA y).trans (ad.mono (λk f=>.inl (.inr f)))).trans (a9.mono (λk f=>.inl (.inl f)))
theorem Yh (D k)(v:Nat)(o ao a d f cs S w)(h:aO w k D)(E:D.fs.well)(B:D.ver=v)(C:v+1<9223372036854775808)(z:D.ts.length<=1000)(c:lD K n D.fs v o ao)(a0:2<=n)(j:D.root=rootOf o)(s:D.aroot=rootOf ao)(A:∀t∈D.ts,bJ D.fs (rootOf (a t)) (a t)/\t.root=rootOf (a t))(P:rN K n D.fs o cs (frD D o ao a))(a2:(frD D o ao a).length<(bZ o cs (frD D o ao a)).2.length)(p:aD w S d (cs.flatMap Ch.cells))(q:∀b,S b->b<w.heap.size)(y:cs.length<=1000000)(u:cs.length<=f)(x:(d=none/\f=0)\/∃b F,d=some ⟨b,F,none⟩):
  cL 94 #[.p D.d 0,.slice d cs.length f] w λe w'=>e=.panicked (sS 8)/\bW w w':=by
 have i:=GQ E;have g:=iL D.β D.sv D.lv D.fs w h.file;rw[i]at g;have a1:D.fs.safe.length=n:=c.len;have⟨H,I,Q,R,U,V,W,X,Y,Z,J,L,M,N,O⟩:=fC h.box;go_enter Tryz.func94,Tryz.ntmps94;go_wp2_with (first
  |(go_at_call 49;(with_reducible apply jC g);rintro e w' ⟨rfl,a4⟩;subst w')
  |(go_at_call 129;(with_reducible apply jC (Jc D k v o ao a d f cs S w h B C z i (by omega) (j▸c.meta0) c.sure.rooted j c.sure.flat c.ahead.rooted s A p q P.rise y u x (Xr P) (qBz P)));intro e G ⟨r,m⟩;rcases m with⟨a3,_⟩|⟨_,rfl⟩;(exfalso;omega);exact⟨rfl,rfl,r⟩))
theorem aO.away {f D t}(h:aO w f D)(c:eN w D.β t)(d:∀x∈D.ts,rG x t):∀k,fpT t k->¬fpD D k:=by
 rintro k b (a|a|a|⟨x,e,a⟩)
 ·subst a;exact vI c h.box (by decide) (by decide) b
 ·exact h.txFile c k b a
 ·exact h.txRow c k b a
 ·exact d x e k a b
structure Lt (ts:List Tx) (cs:List Ch) (ts':List Tx):Prop where
 len:ts'.length=ts.length
 each:∀i (h:i<ts.length),qBp ts[i] cs (ts'[i]'(by omega))
structure Ls (ts:List Tx) (cs:List Ch) (j:Nat) (ts':List Tx):Prop where
 len:ts'.length=ts.length
 done:∀i (h:i<ts.length),i<j->qBp ts[i] cs (ts'[i]'(by omega))
 left:∀i (h:i<ts.length),j<=i->ts'[i]'(by omega)=ts[i]
theorem qBp.b {t t'}(h:qBp t cs t'):t'.b=t.b:=by obtain⟨_,_,rfl,_⟩:=h;rfl
theorem Ls.step {a d j t'}(h:Ls a cs j d)(i:j<a.length)(g:qBp a[j] cs t'):Ls a cs (j+1) (d.set j t'):=by
 refine⟨by rw[CL,h.len],λc b f=>?_,λc b f=>?_⟩
 ·rw[DP]
  split
  ·next e=>subst e;exact g
  ·exact h.done c b (by omega)
 ·rw[DP,AQ (by omega)]
  exact h.left c b (by omega)
def qKk(D:Db)(st:Int)(l:List (Nat×Pg))(v rt:Nat)(cs:List Ch)(w w':World):Prop:=∃lv' ts',aO w' st {D.made lv' l v rt with ts:=ts'}/\Lt D.ts cs ts'/\Fr (fpD D) w w'/\aJ w (fpD D) (fpD {D.made lv' l v rt with ts:=ts'})
theorem Vj (D st)(v:Nat)(o ao ot t w)(h:aO w st D)(hT:eN w D.β t)(hap:∀x∈D.ts,rG x t)(hne:0<t.cs.length)(hks:∀c∈t.cs,c.key ∉ t.ks)(hcn:t.cs.length<=1000000)(hw:D.fs.well)(hfd:D.failed=false)(hv:D.ver=v)(hv63:v+1<9223372036854775808)(hn:D.ts.length<=1000)(ST:lD K n D.fs v o ao)(h2:2<=n)(hr:D.root=rootOf o)(har:D.aroot=rootOf ao)(hts:∀t∈D.ts,bJ D.fs (rootOf (ot t)) (ot t)/\t.root=rootOf (ot t))(P:Vw K n D.fs o t.cs (frD D o ao ot)):
  cL 44 #[.p D.d 0,.p t.b 0] w λe w'=>e=.returned (.i 0)/\qKk D st (bZ o t.cs (frD D o ao ot)).2 (v+1) (rootOf (bZ o t.cs (frD D o ao ot)).1) t.cs w w':=by
 have hCf:=sX D.β t w hT (by omega) hks;have⟨l,hll⟩:=nM ((bZ o t.cs (frD D o ao ot)).2);have⟨rt,hrt⟩:=nM (rootOf (bZ o t.cs (frD D o ao ot)).1);have haw:=h.away hT hap;have⟨a0,c0,he,hcc,hrow⟩:=bR hT.row;simp only[Tx.cv,AP,CT]at he;have⟨e1,e2⟩:=he;subst e1 e2;have HMS:Hid (∀X,bW w X->cL 94 #[.p D.d 0,.slice t.ca t.cs.length t.cc] X λe w'=>e=.returned (.bool true)/\∃lv',aO w' st (D.made lv' l (v+1) rt)/\Fr (λk=>k=D.d\/fpF D.β D.sv D.lv k) X w'/\aJ X (fpF D.β D.sv D.lv) (fpF D.β D.sv lv')):=λX hX=>by
  have hTX:=hT.on (vV hX hT.lies);have:=qCd D st v o ao ot t.ca t.cc t.cs (λk=>t.cv.ownBlock=some k) X (h.on (vV hX h.lies)) hw hfd hv hv63 hn ST h2 hr har hts P (hrow.on (vV hX (λk hk=>aM hT.row hk))) (λk hk=>aM hTX.row hk) hcn hcc (by
   rcases gR hTX.row with⟨h3,h4,_⟩|⟨g,c,cur,h3,_⟩
   ·simp only[Tx.cv,AP]at h3;exact .inl ⟨h3.1,h3.2.2⟩
   ·simp only[Tx.cv,AP]at h3;exact .inr ⟨g,0,h3.1⟩)
  rw[hll,hrt]at this;exact this
 rw[hll,hrt];have hD0:=(rF hT.box).2.2.2.2.1;have hni:¬((t.cs.length:Int)=0):=by omega
 have HD:Hid (aO w st D):=h;have HT:Hid (eN w D.β t):=hT;have HAW:Hid (∀k,fpT t k->¬fpD D k):=haw;have HROW:Hid (aD w (λk=>t.cv.ownBlock=some k) t.ca (t.cs.flatMap Ch.cells)):=hrow;have HOV:Hid (∀X lv' ts',ts'.length=D.ts.length->aO X st {D.made lv' l (v+1) rt with ts:=ts'}->∃ova ovc,D.ov=.slice ova D.ts.length ovc/\X.c D.d 14=some (.slice ova D.ts.length ovc)/\aD X (λk=>D.ov.ownBlock=some k) ova (lG ts')):=λX lv' ts' hl hX=>by
  have⟨a0,a1,a2,a3,a4,a5,a6,a7,a8,a9,a10,a11,a12,a13,a14⟩:=fC hX.box;have⟨ova,ovc,he,hc,hro⟩:=bR hX.row;have he':D.ov=.slice ova D.ts.length ovc:=by rw[<-hl];exact he
  exact⟨ova,ovc,he',by rw[<-he'];exact a14,hro⟩
 clear hll hrt P ST hw hT h hv hr har hts haw hrow hap;go_enter Tryz.func44,Tryz.ntmps44;go_wp2_with (first
  |(go_at_call 93;(with_reducible apply jC hCf);rintro e X1 ⟨rfl,hX1⟩;have hMS:=HMS X1 hX1)
  |(go_at_call 94;(with_reducible apply jC hMS);rintro e X2 ⟨rfl,lv',hD2,hF2,hG2⟩;have⟨ova,ovc,hov,c14,hro2⟩:=HOV X2 lv' D.ts rfl hD2))
 have F2:Fr (fpD D) w X2:=(AA hX1:Fr (fpD D) w X1).trans (hF2.mono (λk hk=>.inl (hk.elim .inl (λh=>.inr (.inl h)))));have G2:aJ w (fpD D) (fpD (D.made lv' l (v+1) rt)):=by
  rintro k (hk|hk|hk|hk)
  ·exact .inl (.inl hk)
  ·exact(hG2 k hk).imp (λh=>.inr (.inl h)) (λh=>vJ hX1.size h)
  ·exact .inl (.inr (.inr (.inl hk)))
  ·exact .inl (.inr (.inr (.inr hk)))
 have HD2:Hid (aO X2 st (D.made lv' l (v+1) rt)):=hD2;have HF2:Hid (Fr (fpD D) w X2):=F2;have HG2:Hid (aJ w (fpD D) (fpD (D.made lv' l (v+1) rt))):=G2;clear hD2 hF2 hG2 F2 G2 hMS hCf;go_loopw [30] (λi wr=>∃(j:Nat) (ts':List Tx),i=.i j/\j<=D.ts.length/\Hid (Ls D.ts t.cs j ts')/\Hid (aO wr st {D.made lv' l (v+1) rt with ts:=ts'})/\Hid (Fr (fpD D) w wr)/\Hid (aJ w (fpD D) (fpD {D.made lv' l (v+1) rt with ts:=ts'}))) (λi _=>D.ts.length-(intOf i).toNat)
 case atStart=>exact⟨0,D.ts,rfl,AH _,⟨rfl,λi _ h=>by omega,λi _ _=>rfl⟩,HD2,HF2,HG2⟩
 case round =>
  obtain⟨j,ts',rfl,hj,HL,HDb,HF,HG⟩:=hrel;clear hro2 c14;by_cases hlt:j<D.ts.length
  ·have hlti:(j:Int)<(D.ts.length:Int):=by omega
   have hlt':j<ts'.length:=by rw[HL.out.len];exact hlt
   have⟨ova',ovc',hov',c14,hro⟩:=HOV wr lv' ts' HL.len HDb;rw[hov]at hov';simp only[AP,CT]at hov';obtain⟨rfl,rfl⟩:=hov';have⟨rb,ro,hra,hrb,hrc⟩:=aD.at (f:=λt:Tx=>Value.p t.b 0) (l:=ts') (j:=j) hro hlt';have hleft:ts'[j]=D.ts[j]:=HL.left j hlt (jU _);rw[hleft]at hrc;have hmem:D.ts[j]∈D.ts:=AB hlt;have hTj:eN wr D.β D.ts[j]:=hleft▸HDb.out.each ts'[j] (AB hlt');have hin:∀k,fpT D.ts[j] k->fpD D k:=λk hk=>.inr (.inr (.inr ⟨_,hmem,hk⟩));have hLo:=qEj D.β D.ts[j] t.cs t.ca t.cc (λk=>t.cv.ownBlock=some k) wr hTj (HROW.on (HF.on (λk hk=>⟨aM HT.row hk,HAW k (.inr (.inl hk))⟩))) (λk hk=>⟨jY (aM HT.row hk) HF.size,λe=>HAW k (.inr (.inl hk)) (hin k e)⟩) (by omega);have⟨tj,htj⟩:=nM (D.ts[j]);have HTJ:Hid (D.ts[j]=tj):=htj;have HLE:Hid (ts'[j]=tj):=hleft.trans htj;have HIN:Hid (∀k,fpT tj k->fpD D k):=htj▸hin;rw[htj]at hLo hrc;subst hra;go_wp2_with (go_at_call 95;(with_reducible apply jC hLo);rintro e X3 ⟨rfl,t',hLt,hT',hF',hg'⟩);refine⟨⟨j+1,ts'.set j t',by go_num,by omega,HL.step hlt (by rw[HTJ.out];exact hLt),HDb.retx (i:=j) (t:=tj) (t':=t') hlt' HLE hT' hLt.b hF' hg',HF.trans (hF'.mono (λk hk=>.inl (HIN k hk))),λk hk=>?_⟩,by simp[intOf];omega⟩;rcases Eo (D:={D.made lv' l (v+1) rt with ts:=ts'}) (i:=j) hlt' HLE hg' k hk with h'|h'
   ·exact HG k h'
   ·exact .inr (vJ HF.size h')
  ·obtain rfl:j=D.ts.length:=by omega
   go_wp2;go_ret;exact⟨rfl,lv',ts',HDb,⟨HL.len,λi hi=>HL.done i hi hi⟩,HF,HG⟩
theorem Qx(d β t w)(a:eN w β t)(n:0<t.cs.length)(m:t.cs.length<=1000000)(j:∃c∈t.cs,c.key∈t.ks):
  cL 44 #[.p d 0,.p t.b 0] w λe w'=>e=.returned (.i 7)/\bW w w':=by
 have g:cL 93 #[.pointer (some ⟨t.b,0,none⟩)] w λe w'=>e=.returned (.bool true)/\bW w w':=by
  apply(uH β t w a (by omega)).mono
  rintro e w' ⟨b,rfl,i,f⟩
  rw[i.2 j]
  exact⟨rfl,f⟩
 have l:=(rF a.box).2.2.2.2.1
 have o:¬((t.cs.length:Int)=0):=by omega
 go_enter Tryz.func44,Tryz.ntmps44
 go_wp2_with (go_at_call 93;(with_reducible apply jC g);rintro e k ⟨rfl,h⟩)
 go_ret
 exact⟨rfl,h⟩
