import Derived.Test.YtpifffkkgnbfpaaGreatQ33
import Derived.Test.YtpifffkkgnbfpaaGreatQ40
set_option linter.unusedSimpArgs false
set_option linter.unusedVariables false
set_option maxRecDepth 100000
set_option maxHeartbeats 8000000
namespace Go.Proofs.YtpifffkkgnbfpaaGreat.Tree
open Go.RowKit Pages
theorem aM.away {w:World} {st:Int} {D:Db} {t:Tx} (h:aM w st D) (hT:eF w D.β t) (hap:∀ x∈D.ts,qC x t):∀ k,fpT t k→¬ fpD D k:=by
 rintro k hk (e|e|e|⟨x,hx,e⟩)
 ·subst e;exact uE hT h.box (by decide) (by decide) hk
 ·exact h.txFile hT k hk e
 ·exact h.txRow hT k hk e
 ·exact hap x hx k e hk
structure Ag (ts:List Tx) (cs:List Ch) (ts':List Tx):Prop where
 len:ts'.length=ts.length
 each:∀ i (h:i<ts.length),Xm ts[i] cs (ts'[i]'(by omega))
structure Js (ts:List Tx) (cs:List Ch) (j:Nat) (ts':List Tx):Prop where
 len:ts'.length=ts.length
 done:∀ i (h:i<ts.length),i<j→Xm ts[i] cs (ts'[i]'(by omega))
 left:∀ i (h:i<ts.length),j≤i→ts'[i]'(by omega)=ts[i]
theorem Xm.b {t t':Tx} {cs:List Ch} (h:Xm t cs t'):t'.b=t.b:=by obtain⟨_,_,rfl,_⟩:=h;rfl
theorem Js.step {ts ts':List Tx} {cs:List Ch} {j:Nat} {t':Tx} (h:Js ts cs j ts') (hj:j<ts.length) (ht:Xm ts[j] cs t'):Js ts cs (j+1) (ts'.set j t'):=by
 refine⟨by rw [List.length_set,h.len],fun i hi hij=>?_,fun i hi hij=>?_⟩
 ·rw [List.getElem_set]
  split
  ·next e=>subst e;exact ht
  ·exact h.done i hi (by omega)
 ·rw [List.getElem_set,if_neg (by omega)]
  exact h.left i hi (by omega)
def qFi (D:Db) (st:Int) (l:List (Nat×Pg)) (v rt:Nat) (cs:List Ch) (w w':World):Prop:=∃ lv' ts',aM w' st { D.made lv' l v rt with ts:=ts' }∧Ag D.ts cs ts'∧Fr (fpD D) w w'∧aI w (fpD D) (fpD { D.made lv' l v rt with ts:=ts' })
theorem Rq {K:List ByteArray} {n:Nat} (D:Db) (st:Int) (v:Nat) (o ao:Option (Nat×T)) (ot:Tx→Option (Nat×T)) (t:Tx) (w:World) (h:aM w st D) (hT:eF w D.β t) (hap:∀ x∈D.ts,qC x t) (hne:0<t.cs.length) (hks:∀ c∈t.cs,c.key ∉ t.ks) (hcn:t.cs.length≤1000) (hw:D.fs.well) (hfd:D.failed=false) (hv:D.ver=v) (hv63:v+1<9223372036854775808) (hn:D.ts.length≤1000) (ST:lH K n D.fs v o ao) (h2:2≤n) (hr:D.root=rootOf o) (har:D.aroot=rootOf ao) (hts:∀ t∈D.ts,bI D.fs (rootOf (ot t)) (ot t)∧t.root=rootOf (ot t)) (P:rR K n D.fs o t.cs (frD D o ao ot)) :
  Calls Tryz.prog 51 #[.pointer (some ⟨D.d,0,none⟩),.pointer (some ⟨t.b,0,none⟩)] w fun e w'=>e=.returned (.int .i64 0)∧qFi D st (cJ o t.cs (frD D o ao ot)).2 (v+1) (rootOf (cJ o t.cs (frD D o ao ot)).1) t.cs w w':=by
 have hCf:=rO D.β t w hT (by omega) hks
 obtain⟨l,hll⟩:=nM ((cJ o t.cs (frD D o ao ot)).2)
 obtain⟨rt,hrt⟩:=nM (rootOf (cJ o t.cs (frD D o ao ot)).1)
 have haw:=h.away hT hap
 obtain⟨a0,c0,he,hcc,hrow⟩:=cP hT.row
 simp only [Tx.cv,Value.slice.injEq,true_and] at he
 obtain⟨e1,e2⟩:=he
 subst e1 e2
 have HMS:Hid (∀ X,Below w.heap.size w X→Calls Tryz.prog 76 #[.pointer (some ⟨D.d,0,none⟩),.slice t.ca t.cs.length t.cc] X fun e w'=>e=.returned (.bool true)∧∃ lv',aM w' st (D.made lv' l (v+1) rt)∧Fr (fun k=>k=D.d∨fpF D.β D.sv D.lv k) X w'∧aI X (fpF D.β D.sv D.lv) (fpF D.β D.sv lv')):=fun X hX=>by
  have hDX:=h.on (vV hX h.lies)
  have hTX:=hT.on (vV hX hT.lies)
  have:=Xv D st v o ao ot t.ca t.cc t.cs (fun k=>t.cv.ownBlock=some k) X hDX hw hfd hv hv63 hn ST h2 hr har hts P (hrow.on (vV hX (fun k hk=>aQ hT.row hk))) (fun k hk=>aQ hTX.row hk) hcn hcc (by
   rcases iD hTX.row with⟨h3,h4,_⟩|⟨g,c,cur,h3,_⟩
   ·simp only [Tx.cv,Value.slice.injEq] at h3;exact .inl ⟨h3.1,h3.2.2⟩
   ·simp only [Tx.cv,Value.slice.injEq] at h3;exact .inr ⟨g,0,h3.1⟩)
  rw [hll,hrt] at this
  exact this
 rw [hll,hrt]
 have hD0:=(rQ hT.box).2.2.2.2.1
 have hni:¬ ((t.cs.length:Int)=0):=by omega
 have HD:Hid (aM w st D):=h
 have HT:Hid (eF w D.β t):=hT
 have HAW:Hid (∀ k,fpT t k→¬ fpD D k):=haw
 have HROW:Hid (aH w (fun k=>t.cv.ownBlock=some k) t.ca (t.cs.flatMap Ch.cells)):=hrow
 have HOV:Hid (∀ X lv' ts',ts'.length=D.ts.length→aM X st { D.made lv' l (v+1) rt with ts:=ts' }→∃ ova ovc,D.ov=.slice ova D.ts.length ovc∧X.cell? ⟨D.d,14,none⟩=some (.slice ova D.ts.length ovc)∧aH X (fun k=>D.ov.ownBlock=some k) ova (kI ts')):=fun X lv' ts' hl hX=>by
  obtain⟨a0,a1,a2,a3,a4,a5,a6,a7,a8,a9,a10,a11,a12,a13,a14⟩:=eQ hX.box
  have hr:=hX.row
  obtain⟨ova,ovc,he,hc,hro⟩:=cP hr
  have he':D.ov=.slice ova D.ts.length ovc:=by rw [← hl];exact he
  exact⟨ova,ovc,he',by rw [← he'];exact a14,hro⟩
 clear hll hrt P ST hw hT h hv hr har hts haw hrow hap
 go_enter Tryz.func51,Tryz.ntmps51
 go_wp2_with (first
  | (go_at_call 75;(with_reducible refine jC hCf ?_);rintro e X1 ⟨rfl,hX1⟩;have hMS:=HMS.out X1 hX1)
  | (go_at_call 76;(with_reducible refine jC hMS ?_);rintro e X2 ⟨rfl,lv',hD2,hF2,hG2⟩;obtain⟨ova,ovc,hov,c14,hro2⟩:=HOV.out X2 lv' D.ts rfl hD2))
 have F2:Fr (fpD D) w X2:=(Fr.of_below hX1:Fr (fpD D) w X1).trans (hF2.mono (fun k hk=>.inl (hk.elim .inl (fun h=>.inr (.inl h)))))
 have G2:aI w (fpD D) (fpD (D.made lv' l (v+1) rt)):=by
  rintro k (hk|hk|hk|hk)
  ·exact .inl (.inl hk)
  ·exact(hG2 k hk).imp (fun h=>.inr (.inl h)) (fun h=>vJ hX1.size h)
  ·exact .inl (.inr (.inr (.inl hk)))
  ·exact .inl (.inr (.inr (.inr hk)))
 have HD2:Hid (aM X2 st (D.made lv' l (v+1) rt)):=hD2
 have HF2:Hid (Fr (fpD D) w X2):=F2
 have HG2:Hid (aI w (fpD D) (fpD (D.made lv' l (v+1) rt))):=G2
 clear hD2 hF2 hG2 F2 G2 hMS hCf
 go_loopw [30] (fun i wr=>∃ (j:Nat) (ts':List Tx),i=.int .i64 j∧j≤D.ts.length∧Hid (Js D.ts t.cs j ts')∧Hid (aM wr st { D.made lv' l (v+1) rt with ts:=ts' })∧Hid (Fr (fpD D) w wr)∧Hid (aI w (fpD D) (fpD { D.made lv' l (v+1) rt with ts:=ts' }))) (fun i _=>D.ts.length-(intOf i).toNat)
 case atStart=>exact⟨0,D.ts,rfl,Nat.zero_le _,⟨rfl,fun i _ h=>by omega,fun i _ _=>rfl⟩,HD2,HF2,HG2⟩
 case round =>
  obtain⟨j,ts',rfl,hj,HL,HDb,HF,HG⟩:=hrel
  clear hro2 c14
  by_cases hlt:j<D.ts.length
  ·have hlti:(j:Int)<(D.ts.length:Int):=by omega
   have hlt':j<ts'.length:=by rw [HL.out.len];exact hlt
   obtain⟨ova',ovc',hov',c14,hro⟩:=HOV.out wr lv' ts' HL.out.len HDb.out
   rw [hov] at hov'
   simp only [Value.slice.injEq,true_and] at hov'
   obtain⟨rfl,rfl⟩:=hov'
   obtain⟨rb,ro,hra,hrb,hrc⟩:=aH.at (f:=fun t:Tx=>Value.pointer (some ⟨t.b,0,none⟩)) (l:=ts') (j:=j) hro hlt'
   have hleft:ts'[j]=D.ts[j]:=HL.out.left j hlt (jU _)
   rw [hleft] at hrc
   have hmem:D.ts[j]∈D.ts:=List.getElem_mem hlt
   have hTj:eF wr D.β D.ts[j]:=hleft▸HDb.out.each ts'[j] (List.getElem_mem hlt')
   have hin:∀ k,fpT D.ts[j] k→fpD D k:=fun k hk=>.inr (.inr (.inr ⟨_,hmem,hk⟩))
   have hLo:=Zm D.β D.ts[j] t.cs t.ca t.cc (fun k=>t.cv.ownBlock=some k) wr hTj (HROW.out.on (HF.out.on (fun k hk=>⟨aQ HT.out.row hk,HAW.out k (.inr (.inl hk))⟩))) (fun k hk=>⟨jY (aQ HT.out.row hk) HF.out.size,fun e=>HAW.out k (.inr (.inl hk)) (hin k e)⟩) (by omega)
   obtain⟨tj,htj⟩:=nM (D.ts[j])
   have HTJ:Hid (D.ts[j]=tj):=htj
   have HLE:Hid (ts'[j]=tj):=hleft.trans htj
   have HIN:Hid (∀ k,fpT tj k→fpD D k):=htj▸hin
   rw [htj] at hLo hrc
   clear hin hTj hmem hleft htj
   subst hra
   go_wp2_with (go_at_call 77;(with_reducible refine jC hLo ?_);rintro e X3 ⟨rfl,t',hLt,hT',hF',hg'⟩)
   have hDn:=HDb.out.retx (i:=j) (t:=tj) (t':=t') hlt' HLE.out hT' hLt.b hF' hg'
   refine⟨⟨j+1,ts'.set j t',by go_num,by omega,HL.out.step hlt (by rw [HTJ.out];exact hLt),hDn,HF.out.trans (hF'.mono (fun k hk=>.inl (HIN.out k hk))),fun k hk=>?_⟩,by simp [intOf];omega⟩
   rcases Cy (D:={ D.made lv' l (v+1) rt with ts:=ts' }) (i:=j) hlt' HLE.out hg' k hk with h'|h'
   ·exact HG.out k h'
   ·exact .inr (vJ HF.out.size h')
  ·obtain rfl:j=D.ts.length:=by omega
   go_wp2
   go_ret
   exact⟨rfl,lv',ts',HDb.out,⟨HL.out.len,fun i hi=>HL.out.done i hi hi⟩,HF.out,HG.out⟩
theorem Nv (d β:Nat) (t:Tx) (w:World) (hT:eF w β t) (hne:0<t.cs.length) (hcn:t.cs.length≤1000) (hks:∃ c∈t.cs,c.key∈t.ks) :
  Calls Tryz.prog 51 #[.pointer (some ⟨d,0,none⟩),.pointer (some ⟨t.b,0,none⟩)] w fun e w'=>e=.returned (.int .i64 7)∧Below w.heap.size w w':=by
 have hCf:Calls Tryz.prog 75 #[.pointer (some ⟨t.b,0,none⟩)] w fun e w'=>e=.returned (.bool true)∧Below w.heap.size w w':=by
  refine(tC β t w hT (by omega)).mono ?_
  rintro e w' ⟨b,rfl,hb,hB⟩
  rw [hb.2 hks]
  exact⟨rfl,hB⟩
 have hD0:=(rQ hT.box).2.2.2.2.1
 have hni:¬ ((t.cs.length:Int)=0):=by omega
 clear hT hks
 go_enter Tryz.func51,Tryz.ntmps51
 go_wp2_with (go_at_call 75;(with_reducible refine jC hCf ?_);rintro e X1 ⟨rfl,hX1⟩)
 go_ret
 exact⟨rfl,hX1⟩
