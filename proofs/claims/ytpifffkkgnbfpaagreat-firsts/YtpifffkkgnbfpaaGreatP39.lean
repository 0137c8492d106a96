import Derived.Test.YtpifffkkgnbfpaaGreatP27
import Derived.Test.YtpifffkkgnbfpaaGreatP30
set_option linter.unusedSimpArgs false
set_option linter.unusedVariables false
set_option maxRecDepth 100000
set_option maxHeartbeats 8000000
namespace Go.Proofs.YtpifffkkgnbfpaaGreat.Tree
open Go.RowKit Pages
theorem eF.remap {w w':World} {β:Nat} {t:Tx} {r:Nat} {ks:List ByteArray} (h:eF w β t) (ht:t.tk=.map (some r)) (hk:Tk w' (.map (some r)) ks) (hF:Fr (Bl.one r) w w'):eF w' β { t with ks:=ks }:=by
 obtain⟨es,cl,hb⟩:=h.tk.block ht
 refine⟨hF.heap h.box (fun e=>by simp only [Bl.one] at e;subst e;rw [h.box] at hb;cases hb),dN h.row hF (fun k hk' e=>by simp only [Bl.one] at e;subst e;exact rA h.row hb hk'),by rw [← ht] at hk;exact hk⟩
def qD (cs:List Ch) (j:Nat):List ByteArray:=(cs.take j).map (·.key)
theorem zB {cs:List Ch} {j:Nat} (hj:j<cs.length) (y:ByteArray):y∈qD cs (j+1)↔y∈qD cs j∨y=(cs[j]).key:=by
 unfold qD
 rw [List.take_succ_eq_append_getElem hj,List.map_append,List.mem_append]
 simp
theorem qCz (β:Nat) (t:Tx) (cs:List Ch) (xa:Option Addr) (xc:Nat) (S:Bl) (w:World) (h:eF w β t) (hw:t.wr=true) (hR:aH w S xa (cs.flatMap Ch.cells)) (hS:∀ k,S k→k<w.heap.size∧k≠t.b∧t.tk≠.map (some k)) (hn:cs.length≤1000000) :
  Calls Tryz.prog 77 #[.pointer (some ⟨t.b,0,none⟩),.slice xa cs.length xc] w fun e w'=>e=.returned (.tuple #[])∧∃ r ks,eF w' β { t with tk:=.map (some r),ks:=ks }∧Fr (fun k=>k=t.b∨t.tk=.map (some k)) w w'∧(t.tk=.map (some r)∨w.heap.size≤r)∧∀ y,y∈ks↔y∈t.ks∨y∈cs.map (·.key):=by
 obtain⟨q0,q1,q2,q3,q4,q5⟩:=rU h.box
 have hfr:=aF h.box
 rw [hw] at q1
 have qm:∀ (W:World) (r:Option Nat),(binOp .eql 97 (.map r) (.map none)).run Tryz.prog W=.ok (.bool r.isNone) W:=fun W r=>run_eql_map_nil W _ _ _ r Tryz.underlying97
 have hbl:=(gL h.box)
 obtain⟨tv,htv⟩:=nM (t.tk)
 have HTV:Hid (t.tk=tv):=htv
 have hTk:=h.tk
 rw [htv] at hTk q5
 have H:Hid (eF w β t):=h
 have HW:Hid (t.wr=true):=hw
 have HKS:Hid (∀ k,S k→k<w.heap.size∧k≠t.b∧t.tk≠.map (some k)):=hS
 clear h hw htv hS
 rcases hTk with⟨rfl,hks⟩|⟨r,es,cl,rfl,hb,hm⟩
 ·have HKE:Hid (t.ks=[]):=hks
  clear hks
  have HW0:Hid (∀ W0,(w.setCell ⟨t.b,5,none⟩ (.map (some w.heap.size))).alloc (.map #[] 0)=W0→eF W0 β { t with tk:=.map (some w.heap.size),ks:=t.ks }∧Fr (fun k=>k=t.b∨t.tk=.map (some k)) w W0∧(∀ k,S k→k<W0.heap.size∧k≠w.heap.size)∧aH W0 S xa (cs.flatMap Ch.cells)∧(t.tk=.map (some w.heap.size)∨w.heap.size≤w.heap.size)∧w.heap.size≤W0.heap.size):=by
   intro W0 hW0
   have F0:Fr (fun k=>k=t.b∨t.tk=.map (some k)) w W0:=hW0▸((Fr.refl _ w).setCell (p:=⟨t.b,5,none⟩) (.inl (.inl rfl)) _).alloc _
   have b2:=aB (.map #[] 0) (aD H.out.box 5 (.map (some w.heap.size)))
   have m2:W0.heap[w.heap.size]?=some (.map #[] 0):=by
    have:=aA (w.setCell ⟨t.b,5,none⟩ (.map (some w.heap.size))) (.map #[] 0)
    rw [← hW0];simpa using this
   refine⟨⟨by rw [← hW0];simpa using b2,dN H.out.row (Y:=Bl.one t.b) (hW0▸((Fr.refl (Bl.one t.b) w).setCell (p:=⟨t.b,5,none⟩) (.inl rfl) _).alloc _) (fun k hk e=>by simp only [Bl.one] at e;subst e;exact aV H.out.row H.out.box (by decide) hk),.inr ⟨_,_,_,rfl,m2,by rw [HKE.out];rfl⟩⟩,F0,fun k hk=>⟨jY (HKS.out k hk).1 F0.size,by have:=(HKS.out k hk).1;omega⟩,hR.on (F0.on (fun k hk=>⟨(HKS.out k hk).1,fun e=>e.elim (HKS.out k hk).2.1 (HKS.out k hk).2.2⟩)),.inr (jU _),F0.size⟩
  have hmk:(Instr.makeMap 97 none).run Tryz.prog w=.ok (.map (some w.heap.size)) (w.alloc (.map #[] 0)):=by kernel_rfl
  go_enter Tryz.func77,Tryz.ntmps77
  go_wp2
  obtain⟨W0,hW0⟩:=nM ((w.setCell ⟨t.b,5,none⟩ (.map (some w.heap.size))).alloc (.map #[] 0))
  rw [hW0]
  obtain⟨hT0,hF0,hS0,hR0,hr0,hz0⟩:=HW0.out W0 hW0
  obtain⟨r,hr⟩:∃ r,r=w.heap.size:=⟨_,rfl⟩
  rw [← hr] at hT0 hS0 hr0 ⊢
  have HRZ:Hid (t.tk=.map (some r)∨w.heap.size≤r):=.inr (by omega)
  have HFN:Hid (∀ X,Fr (Bl.one r) W0 X→Fr (fun k=>k=t.b∨t.tk=.map (some k)) w X):=fun X hX=>hF0.grow hX (fun k hk=>.inr (by simp only [Bl.one] at hk;omega))
  clear HW0 hmk q0 q1 q2 q3 q4 q5 hfr hW0 hF0 hr0 hr
  go_loopw [22] (fun a wr=>∃ (j:Nat) (ks:List ByteArray),a=.int .i64 j∧j≤cs.length∧eF wr β { t with tk:=.map (some r),ks:=ks }∧Fr (Bl.one r) W0 wr∧Hid (∀ y,y∈ks↔y∈t.ks∨y∈qD cs j)) (fun a _=>cs.length-(intOf a).toNat)
  case atStart=>exact⟨0,t.ks,rfl,Nat.zero_le _,hT0,Fr.refl _ _,fun y=>by simp [qD]⟩
  case round =>
   obtain⟨j,ks,rfl,hj,hT,hF,HY⟩:=hrel
   clear hT0
   by_cases hlt:j<cs.length
   ·have hlti:(j:Int)<(cs.length:Int):=by omega
    have oS:On S W0 wr:=hF.on (fun k hk=>⟨(hS0 k hk).1,fun e=>by simp only [Bl.one] at e;exact(hS0 k hk).2 e⟩)
    obtain⟨rb,ro,hca,hrb,k0,k1,k2⟩:=(hR0.on oS).ch hlt
    obtain⟨c,hcc⟩:=nM (cs[j])
    rw [hcc] at k0 k1 k2
    obtain⟨W1,hW1⟩:=nM (wr.alloc (.cells #[.string c.key,.string c.val,.bool c.gone] 106))
    have x1:W1.heap[wr.heap.size]?=some (.cells #[.string c.key,.string c.val,.bool c.gone] 106):=hW1▸aA wr _
    have B1:Below wr.heap.size wr W1:=hW1▸(bA _ _)
    have hT1:=hT.on (vV B1 hT.lies)
    obtain⟨u0,u1,u2,u3,u4,u5⟩:=rU hT1.box
    have d0:W1.cell? ⟨wr.heap.size,0,none⟩=some (.string c.key):=by simp [World.cell?,x1]
    have hTk:Tk W1.drew (.map (some r)) ks:=hT1.tk
    obtain⟨W2,ks2,hup,hTk2,hF2,hY2⟩:=hTk.lay c.key
    have F2:Fr (Bl.one r) wr W2:=(Fr.of_below B1:Fr (Bl.one r) wr W1).trans ((Fr.refl (Bl.one r) W1).drew.trans hF2)
    have hT2:eF W2 β { t with tk:=.map (some r),ks:=ks2 }:=eF.remap (t:={ t with tk:=.map (some r),ks:=ks }) (ks:=ks2) (hT1.on (On.refl _ _).drew) rfl hTk2 hF2
    have x2:W2.cell? ⟨wr.heap.size,0,none⟩=some (.string c.key)∧W2.cell? ⟨t.b,5,none⟩=some (.map (some r)):=by
     obtain⟨v0,v1,v2,v3,v4,v5⟩:=rU hT2.box
     have hz:wr.heap.size≠r:=fun e=>by obtain⟨es,cl,hb⟩:=hT.tk.block rfl;have:=(gL hb);omega
     have:=hF2.heap (o:=.cells #[.string c.key,.string c.val,.bool c.gone] 106) (k:=wr.heap.size) x1 (fun e=>by simp only [Bl.one] at e;exact hz e)
     exact⟨by simp [World.cell?,this],v5⟩
    obtain⟨y0,y5⟩:=x2
    rw [hca]
    have HCC:Hid (cs[j]=c):=hcc
    have HT2:Hid (eF W2 β { t with tk:=.map (some r),ks:=ks2 }):=hT2
    have HF2:Hid (Fr (Bl.one r) W0 W2):=hF.trans F2
    have HY2:Hid (∀ y,y∈ks2↔y∈ks∨y=c.key):=hY2
    clear hcc hT hT1 hT2 hTk hTk2 hF2 F2 hY2 u0 u1 u2 u3 u4 oS x1
    go_wp2
    go_region_held3 (fun X=>X.cell? ⟨t.b,5,none⟩=some (.map (some r))∧X.cell? ⟨wr.heap.size,0,none⟩=some (.string c.key))
     ((first|(with_reducible exact⟨y5,y0⟩)|exact⟨u5,d0⟩))
     (fail)
    all_goals go_wp2
    all_goals
     refine⟨⟨j+1,ks2,by simp,by omega,HT2.out,HF2.out,fun y=>?_⟩,by simp [intOf];omega⟩
     rw [HY2.out y,HY.out y,zB hlt,HCC.out]
     exact or_assoc
   ·obtain rfl:j=cs.length:=by omega
    have hlti:¬ (cs.length:Int)<(cs.length:Int):=by omega
    go_wp2
    go_end0
    exact⟨rfl,r,ks,hT,HFN.out _ hF,HRZ.out,fun y=>by rw [HY.out y];simp [qD]⟩
 ·have hT0:eF w β { t with tk:=.map (some r),ks:=t.ks }:=⟨by have:=H.out.box;rw [txO,HTV.out] at this;exact this,H.out.row,.inr ⟨r,es,cl,rfl,hb,hm⟩⟩
  have hS0:∀ k,S k→k<w.heap.size∧k≠r:=fun k hk=>⟨(HKS.out k hk).1,fun e=>(HKS.out k hk).2.2 (by rw [HTV.out,e])⟩
  have hR0:=hR
  have HRZ:Hid (t.tk=.map (some r)∨w.heap.size≤r):=.inl HTV.out
  have HFW:Hid (∀ X,Fr (Bl.one r) w X→Fr (fun k=>k=t.b∨t.tk=.map (some k)) w X):=fun X hX=>hX.mono (fun k hk=>.inl (.inr (by simp only [Bl.one] at hk;rw [HTV.out,hk])))
  clear hb hm
  go_enter Tryz.func77,Tryz.ntmps77
  go_wp2
  obtain⟨W0,hW0⟩:∃ W0,W0=w:=⟨_,rfl⟩
  rw [← hW0] at hT0 hS0 hR0 ⊢
  have HFN:Hid (∀ X,Fr (Bl.one r) W0 X→Fr (fun k=>k=t.b∨t.tk=.map (some k)) w X):=by rw [hW0];exact HFW.out
  clear q0 q1 q2 q3 q4 q5 hfr hW0
  go_loopw [22] (fun a wr=>∃ (j:Nat) (ks:List ByteArray),a=.int .i64 j∧j≤cs.length∧eF wr β { t with tk:=.map (some r),ks:=ks }∧Fr (Bl.one r) W0 wr∧Hid (∀ y,y∈ks↔y∈t.ks∨y∈qD cs j)) (fun a _=>cs.length-(intOf a).toNat)
  case atStart=>exact⟨0,t.ks,rfl,Nat.zero_le _,hT0,Fr.refl _ _,fun y=>by simp [qD]⟩
  case round =>
   obtain⟨j,ks,rfl,hj,hT,hF,HY⟩:=hrel
   clear hT0
   by_cases hlt:j<cs.length
   ·have hlti:(j:Int)<(cs.length:Int):=by omega
    have oS:On S W0 wr:=hF.on (fun k hk=>⟨(hS0 k hk).1,fun e=>by simp only [Bl.one] at e;exact(hS0 k hk).2 e⟩)
    obtain⟨rb,ro,hca,hrb,k0,k1,k2⟩:=(hR0.on oS).ch hlt
    obtain⟨c,hcc⟩:=nM (cs[j])
    rw [hcc] at k0 k1 k2
    obtain⟨W1,hW1⟩:=nM (wr.alloc (.cells #[.string c.key,.string c.val,.bool c.gone] 106))
    have x1:W1.heap[wr.heap.size]?=some (.cells #[.string c.key,.string c.val,.bool c.gone] 106):=hW1▸aA wr _
    have B1:Below wr.heap.size wr W1:=hW1▸(bA _ _)
    have hT1:=hT.on (vV B1 hT.lies)
    obtain⟨u0,u1,u2,u3,u4,u5⟩:=rU hT1.box
    have d0:W1.cell? ⟨wr.heap.size,0,none⟩=some (.string c.key):=by simp [World.cell?,x1]
    have hTk:Tk W1.drew (.map (some r)) ks:=hT1.tk
    obtain⟨W2,ks2,hup,hTk2,hF2,hY2⟩:=hTk.lay c.key
    have F2:Fr (Bl.one r) wr W2:=(Fr.of_below B1:Fr (Bl.one r) wr W1).trans ((Fr.refl (Bl.one r) W1).drew.trans hF2)
    have hT2:eF W2 β { t with tk:=.map (some r),ks:=ks2 }:=eF.remap (t:={ t with tk:=.map (some r),ks:=ks }) (ks:=ks2) (hT1.on (On.refl _ _).drew) rfl hTk2 hF2
    have x2:W2.cell? ⟨wr.heap.size,0,none⟩=some (.string c.key)∧W2.cell? ⟨t.b,5,none⟩=some (.map (some r)):=by
     obtain⟨v0,v1,v2,v3,v4,v5⟩:=rU hT2.box
     have hz:wr.heap.size≠r:=fun e=>by obtain⟨es,cl,hb⟩:=hT.tk.block rfl;have:=(gL hb);omega
     have:=hF2.heap (o:=.cells #[.string c.key,.string c.val,.bool c.gone] 106) (k:=wr.heap.size) x1 (fun e=>by simp only [Bl.one] at e;exact hz e)
     exact⟨by simp [World.cell?,this],v5⟩
    obtain⟨y0,y5⟩:=x2
    rw [hca]
    have HCC:Hid (cs[j]=c):=hcc
    have HT2:Hid (eF W2 β { t with tk:=.map (some r),ks:=ks2 }):=hT2
    have HF2:Hid (Fr (Bl.one r) W0 W2):=hF.trans F2
    have HY2:Hid (∀ y,y∈ks2↔y∈ks∨y=c.key):=hY2
    clear hcc hT hT1 hT2 hTk hTk2 hF2 F2 hY2 u0 u1 u2 u3 u4 oS x1
    go_wp2
    go_region_held3 (fun X=>X.cell? ⟨t.b,5,none⟩=some (.map (some r))∧X.cell? ⟨wr.heap.size,0,none⟩=some (.string c.key))
     ((first|(with_reducible exact⟨y5,y0⟩)|exact⟨u5,d0⟩))
     (fail)
    all_goals go_wp2
    all_goals
     refine⟨⟨j+1,ks2,by simp,by omega,HT2.out,HF2.out,fun y=>?_⟩,by simp [intOf];omega⟩
     rw [HY2.out y,HY.out y,zB hlt,HCC.out]
     exact or_assoc
   ·obtain rfl:j=cs.length:=by omega
    have hlti:¬ (cs.length:Int)<(cs.length:Int):=by omega
    go_wp2
    go_end0
    exact⟨rfl,r,ks,hT,HFN.out _ hF,HRZ.out,fun y=>by rw [HY.out y];simp [qD]⟩
theorem qDa (β:Nat) (t:Tx) (xa:Option Addr) (xn xc:Nat) (w:World) (h:eF w β t) (hw:t.wr=false) :
  Calls Tryz.prog 77 #[.pointer (some ⟨t.b,0,none⟩),.slice xa xn xc] w fun e w'=>e=.returned (.tuple #[])∧w'=w:=by
 obtain⟨q0,q1,q2,q3,q4,q5⟩:=rU h.box
 rw [hw] at q1
 clear h hw
 go_enter Tryz.func77,Tryz.ntmps77
 go_wp2
 refine bodyPost_ret (results_none rfl _ _ _) rfl ?_
 exact⟨rfl,rfl⟩
def Ym (t:Tx) (cs:List Ch) (t':Tx):Prop:=∃ tk ks,t' = { t with tk:=tk,ks:=ks }∧(t.wr=true→∀ y,y∈ks↔y∈t.ks∨y∈cs.map (·.key))
theorem qAj (β:Nat) (t:Tx) (cs:List Ch) (xa:Option Addr) (xc:Nat) (S:Bl) (w:World) (h:eF w β t) (hR:aH w S xa (cs.flatMap Ch.cells)) (hS:∀ k,S k→k<w.heap.size∧¬ fpT t k) (hn:cs.length≤1000000) :
  Calls Tryz.prog 77 #[.pointer (some ⟨t.b,0,none⟩),.slice xa cs.length xc] w fun e w'=>e=.returned (.tuple #[])∧∃ t',Ym t cs t'∧eF w' β t'∧Fr (fpT t) w w'∧∀ k,fpT t' k→fpT t k∨w.heap.size≤k:=by
 cases hw:t.wr with
 | false =>
  refine(qDa β t xa _ xc w h hw).mono ?_
  rintro e w' ⟨rfl,rfl⟩
  exact⟨rfl,t,⟨t.tk,t.ks,rfl,fun e=>by rw [hw] at e;cases e⟩,h,Fr.refl _ _,fun k hk=>.inl hk⟩
 | true =>
  refine(qCz β t cs xa xc S w h hw hR (fun k hk=>⟨(hS k hk).1,fun e=>(hS k hk).2 (.inl e),fun e=>(hS k hk).2 (.inr (.inr e))⟩) hn).mono ?_
  rintro e w' ⟨rfl,r,ks,hT,hF,hr,hy⟩
  refine⟨rfl,_,⟨_,_,rfl,fun _=>hy⟩,hT,hF.mono (fun k hk=>.inl (hk.elim (fun h=>.inl h) (fun h=>.inr (.inr h)))),?_⟩
  rintro k (hk|hk|hk)
  ·exact .inl (.inl hk)
  ·exact .inl (.inr (.inl hk))
  ·have e:r=k:=by simpa using hk
   subst e
   exact hr.imp (fun h=>.inr (.inr h)) id
