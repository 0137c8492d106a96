import Derived.Test.YtpifffkkgnbfpaaGreatP2
import Derived.WalkKit
set_option linter.unusedSimpArgs false
set_option linter.unusedVariables false
set_option maxRecDepth 100000
set_option maxHeartbeats 8000000
namespace Go.Proofs.YtpifffkkgnbfpaaGreat.Tree
open Go.RowKit Go.MuLone
theorem Kk (p:Addr) (w:World) :
  CallsD Tryz.prog 82 #[.pointer (some p)] .returning w fun e u' w'=>e=.returned (.tuple #[])∧u'=.returning∧w'=w:=by
 refine callsD_of_wpS Tryz.func82 rfl fun c₀ cs hu=>?_
 apply wpS_seq
 apply wpS_region
 simp [wpOpsS,go_sem,recoverD,hu,Tryz.ntmps82,Exit.thenS]
 apply wpS_seq
 apply wpS_seq
 apply wpS_region
 simp [wpOpsS,go_sem,recoverD,hu,Tryz.ntmps82,Exit.thenS]
 refine wpS_cond (t:=true) (by simp [Act.eval,Array.replicate]) ?_
 simp only [if_true]
 refine wpS_of_wp (wp_ret ?_)
 cases c₀
 simp_all [bodyPostS,results,Exit.thenS,Tryz.results82]
theorem Ef (g:Nat) (first lb:Array Value) (eg:∀ args w,(callFunc g args).run Tryz.prog w=.ok (.enter g args) w) (w:World) (R:Int→World→Prop)
  (h:Calls Tryz.prog g (first++lb) (w.alloc (.cells #[.int .i64 0] 37)) fun e w'=>∃ z,e=.returned (.int .i64 z)∧w'.heap[w.heap.size]?=some (.cells #[.int .i64 0] 37)∧R z w') :
  Calls Tryz.prog 59 #[.func (.func g) first lb] w fun e w'=>∃ z W,e=.returned (.int .i64 z)∧R z W∧w'=W.setCell ⟨w.heap.size,0,none⟩ (.int .i64 z):=by
 have hmf:∀ (fn:Fn) (first cap:Array Value) (w:World),(Instr.makeFunc fn first cap).run Tryz.prog w=.ok (.func fn first cap) w:=fun _ _ _ _=>rfl
 go_enter_defers Tryz.func59,Tryz.ntmps59
 go_wp2_with (fail)
 refine h.mono ?_
 rintro e W ⟨z,rfl,hb,hR⟩
 have hc:W.cell? ⟨w.heap.size,0,none⟩=some (.int .i64 0):=by simp [World.cell?,hb]
 have hz:W.frozen? ⟨w.heap.size,0,none⟩=false:=by simp [World.frozen?,hb]
 go_wp2
 refine leaves_cons (f:=82) (args:=#[.pointer (some ⟨w.heap.size,0,none⟩)]) (by simp) (by simp [go_sem]) ?_
 refine(Kk ⟨w.heap.size,0,none⟩ _).mono ?_
 rintro e u' w'' ⟨rfl,rfl,rfl⟩
 have hs:(W.setCell ⟨w.heap.size,0,none⟩ (.int .i64 z)).cell? ⟨w.heap.size,0,none⟩=some (.int .i64 z):=World.cell?_setCell_same _ _ _ hc
 simp only [Leaves,settle]
 refine⟨.int .i64 z,?_,z,W,rfl,hR,rfl⟩
 simp [results,Tryz.results59,go_sem,hs]
theorem Du (d:Nat) (g:Nat) (first lb:Array Value) (eg:∀ args w,(callFunc g args).run Tryz.prog w=.ok (.enter g args) w) (w:World) (R:Int→World→Prop) (cs:Array Value) (hd:w.heap[d]?=some (.cells cs 88)) (h0:cs[0]?=some (.int .i32 0))
  (h:Calls Tryz.prog g (first++lb) ((w.setCell ⟨d,0,none⟩ (.int .i32 1)).alloc (.cells #[.int .i64 0] 37)) fun e w'=>∃ z,e=.returned (.int .i64 z)∧w'.heap[w.heap.size]?=some (.cells #[.int .i64 0] 37)∧(∃ cs',w'.heap[d]?=some (.cells cs' 88)∧cs'[0]?=some (.int .i32 1))∧R z w') :
  Calls Tryz.prog 35 #[.pointer (some ⟨d,0,none⟩),.func (.func g) first lb] w fun e w'=>∃ z W,e=.returned (.int .i64 z)∧R z W∧w'=(W.setCell ⟨w.heap.size,0,none⟩ (.int .i64 z)).setCell ⟨d,0,none⟩ (.int .i32 0):=by
 have c0:w.cell? ⟨d,0,none⟩=some (.int .i32 0):=by simp [World.cell?,hd,h0]
 have f0:w.frozen? ⟨d,0,none⟩=false:=by simp [World.frozen?,hd]
 have hdlt:d<w.heap.size:=(Array.getElem?_eq_some_iff.1 hd).1
 have hC:=Ef g first lb eg (w.setCell ⟨d,0,none⟩ (.int .i32 1)) (fun z w'=>(∃ cs',w'.heap[d]?=some (.cells cs' 88)∧cs'[0]?=some (.int .i32 1))∧R z w') (by simpa using h)
 go_enter_defers Tryz.func35,Tryz.ntmps35
 go_wp2_with (first
  | (go_at_call 37;refine(lock_free Hc ⟨d,0,none⟩ _ c0 f0).mono ?_;rintro e w' ⟨rfl,rfl⟩)
  | (go_at_call 59;refine hC.mono ?_;rintro e w' ⟨z,W,rfl,⟨⟨cs',hd',h1'⟩,hR⟩,rfl⟩))
 have e1:(w.setCell ⟨d,0,none⟩ (.int .i32 1)).heap.size=w.heap.size:=by simp [World.setCell]
 refine leaves_cons (f:=38) (args:=#[.pointer (some ⟨d,0,none⟩)]) (by simp) (by simp [go_sem]) ?_
 refine(unlock_deferred Hc ⟨d,0,none⟩ .returning _ ?_ ?_).mono ?_
 ·rw [World.cell?_setCell_other _ _ _ _ (by simp)]
  simp [World.cell?,hd',h1']
 ·rw [World.frozen?_setCell]
  simp [World.frozen?,hd']
 rintro e u' w'' ⟨rfl,rfl,rfl⟩
 exact⟨_,results_tmp rfl _ _ _,z,W,rfl,hR,rfl⟩
