import Derived.Test.YtpifffkkgnbfpaaGreatQ29
import Derived.Test.YtpifffkkgnbfpaaGreatQ24
set_option linter.unusedSimpArgs false
set_option linter.unusedVariables false
set_option maxRecDepth 100000
set_option maxHeartbeats 8000000
namespace Go.Proofs.YtpifffkkgnbfpaaGreat.Tree
open Go.RowKit Pages
theorem rQ {w:World} {β:Nat} {a0 a1 a2 a3 a4 a5:Value} {t:TypeId} (h:w.heap[β]?=some (.cells #[a0,a1,a2,a3,a4,a5] t)):w.cell? ⟨β,0,none⟩=some a0∧w.cell? ⟨β,1,none⟩=some a1∧w.cell? ⟨β,2,none⟩=some a2∧w.cell? ⟨β,3,none⟩=some a3∧w.cell? ⟨β,4,none⟩=some a4∧w.cell? ⟨β,5,none⟩=some a5:=by
 simp [World.cell?,h]
theorem Dp (t:Tx) (β:Nat) (c:Ch) (w:World) (h:eF w β t) (hr:cH t.cs) (hn:t.cs.length≤1000) :
  Calls Tryz.prog 46 #[.pointer (some ⟨t.b,0,none⟩),.agg #[.string c.key,.string c.val,.bool c.gone]] w fun e w'=>e=.returned (.tuple #[])∧∃ ca' cc',eF w' β { t with cs:=cL t.cs c,ca:=ca',cc:=cc' }∧Fr (fpT t) w w'∧∀ k,fpT { t with cs:=cL t.cs c,ca:=ca',cc:=cc' } k→fpT t k∨w.heap.size≤k:=by
 obtain⟨b,num,wr,root,cs,ca,cc,tk,ks⟩:=t
 dsimp only at hr hn ⊢
 obtain⟨hbox,hrow,htk⟩:=h
 dsimp only [Tx.cv,txO] at hbox hrow htk
 obtain⟨W1,hW1⟩:=nM (w.alloc (.cells #[.string c.key,.string c.val,.bool c.gone] 106))
 have B1:Below w.heap.size w W1:=hW1▸(bA _ _)
 have x1:W1.heap[w.heap.size]?=some (.cells #[.string c.key,.string c.val,.bool c.gone] 106):=hW1▸aA w _
 have hbl:b<w.heap.size:=(gL hbox)
 have hb1:=(B1.block b hbl).trans hbox
 have ho1:W1.ownsRow 0 106 3 (.slice ca cs.length cc) cs.length (cs.flatMap Ch.cells):=aZ hrow (vV B1 (Y:=fun k=>(Value.slice ca cs.length cc).ownBlock=some k) (fun k hk=>aQ hrow hk)) (fun k hk=>hk)
 have hWi:=Xo (.slice ca cs.length cc) cs c W1.drew ho1 hr hn
 obtain⟨c0,c1,c2⟩:=eR x1
 obtain⟨t0,t1,t2,t3,t4,t5⟩:=rQ hb1
 have hnb:(Value.slice ca cs.length cc).ownBlock≠some b:=bD hrow hbox (by decide)
 have HX1:Hid _:=x1
 have HB1:Hid _:=hb1
 have hN1:=(gL x1)
 have hNn:(Value.slice ca cs.length cc).ownBlock≠some w.heap.size:=fun e=>by have:=aQ hrow e;omega
 clear x1 hb1
 go_enter Tryz.func46,Tryz.ntmps46
 go_wp2
 go_region_law (first
  | (go_simp;go_at_call 70;(with_reducible refine jC hWi ?_);rintro e X ⟨v',rfl,hoX,hFX,hli⟩;obtain⟨ca',cc',rfl⟩:=aO hoX;have FX:Fr (fun k=>(Value.slice ca cs.length cc).ownBlock=some k) W1 X:=(Fr.refl _ W1).drew.trans hFX;have xX:=FX.heap HX1.out hNn;have bX:=FX.heap HB1.out hnb;obtain⟨c0,c1,c2⟩:=eR xX;obtain⟨t0,t1,t2,t3,t4,t5⟩:=rQ bX;have bfr:=aD bX))
 all_goals
  have hnX:(Value.slice ca' (cL cs c).length cc').ownBlock≠some b:=bD hoX bX (by decide)
  have e4:=aF bX 4 (.slice ca' (cL cs c).length cc')
  have hli':∀ k,(Value.slice ca' (cL cs c).length cc').ownBlock=some k→(Value.slice ca cs.length cc).ownBlock=some k∨w.heap.size≤k:=fun k hk=>(hli k hk).imp id (fun h=>by have h1:W1.heap.size≤k:=h;omega)
  have FN:Fr (fun k=>k=b∨(Value.slice ca cs.length cc).ownBlock=some k) w (X.setCell ⟨b,4,none⟩ (.slice ca' (cL cs c).length cc')):=((Fr.of_below B1).trans (FX.mono (fun k hk=>.inl (.inr hk)))).setCell (p:=⟨b,4,none⟩) (.inl (.inl rfl)) _
  have htk':Tk (X.setCell ⟨b,4,none⟩ (.slice ca' (cL cs c).length cc')) tk ks:=htk.on (FN.on (Z:=fun k=>tk=.map (some k)) (fun k hk=>by
   obtain⟨es,cl,hb⟩:=htk.block hk
   exact⟨(gL hb),fun e=>by
    rcases e with e|e
    ·subst e;rw [hbox] at hb;cases hb
    ·exact qX hrow hb e⟩)) (fun k hk=>hk)
  refine bodyPost_end (v:=.tuple #[]) ?_ rfl ⟨rfl,ca',cc',⟨by simpa using e4,aZ hoX ((On.refl (fun k=>(Value.slice ca' (cL cs c).length cc').ownBlock=some k) X).setCell (p:=⟨b,4,none⟩) (fun hk=>hnX hk) _) (fun k hk=>hk),htk'⟩,FN.mono (fun k hk=>.inl (by rcases hk with hk|hk;exact .inl hk;exact .inr (.inl hk))),?_⟩
  ·simp [results,Tryz.results46]
  ·rintro k (hk|hk|hk)
   ·exact .inl (.inl hk)
   ·exact(hli' k hk).imp (fun h=>.inr (.inl h)) id
   ·exact .inl (.inr (.inr hk))
