/-
  Joined: Db.
-/
import Derived.Test.YtfnhmpcpeahfkaaGreatU4
import Derived.Test.YtfnhmpcpeahfkaaGreatU27
import Derived.Test.YtfnhmpcpeahfkaaGreatU25
set_option linter.unusedSimpArgs false
set_option linter.unusedVariables false
set_option maxRecDepth 100000
set_option maxHeartbeats 8000000
namespace Go.Proofs.YtfnhmpcpeahfkaaGreat.Tree
open Go.RowKit Go.MuLone Pages
variable {D:Db} {k β:Nat} {st:Int} {t:Tx} {v:Value} {w w':World}
def Tk (w:World) (v:Value) (ks:List ByteArray):Prop:=(v=.map none∧ks=[])∨∃ (r:Nat) (es:Array MapEntry) (cl:Nat),v=.map (some r)∧w.heap[r]?=some (.map es cl)∧es.toList.map (fun e=>(e.key,e.val))=ks.map (fun k=>(Value.string k,Value.agg #[]))
theorem Tk.block {ks:List ByteArray} (h:Tk w v ks)  (hk:v=.map (some k)):∃ es cl,w.heap[k]?=some (.map es cl):=by
 rcases h with⟨h,_⟩|⟨r,es,cl,h,hb,_⟩
 ·rw [h] at hk;cases hk
 ·rw [h] at hk;cases hk;exact⟨es,cl,hb⟩
theorem uH {B:Nat} {e:TypeId} {z n:Nat}  {xs:List Value} (h:w.ownsRow B e z v n xs) {r:Nat} {es:Array MapEntry} {cl:Nat} (hr:w.heap[r]?=some (.map es cl)):v.ownBlock≠some r:=by
 intro hv
 obtain⟨_,h2⟩:=h
 rcases h2 with⟨h3,_⟩|⟨g,cap,cur,h3,_,hg,_⟩
 ·rw [h3] at hv;simp [Value.ownBlock] at hv
 ·rw [h3] at hv
  simp only [Value.ownBlock,Option.some.injEq] at hv
  subst hv
  rw [hg] at hr;cases hr
structure Tx where
 b:Nat
 num:Int
 wr:Bool
 root:Nat
 cs:List Ch
 ca:Option Addr
 cc:Nat
 tk:Value
 ks:List ByteArray
abbrev Tx.cv (t:Tx):Value:=.slice t.ca t.cs.length t.cc
abbrev txO (β:Nat) (t:Tx):Obj:=.cells #[.int .i64 t.num,.bool t.wr,.pointer (some ⟨β,0,none⟩),.int .i64 t.root,t.cv,t.tk] 99
structure iX (w:World) (β:Nat) (t:Tx):Prop where
 box:w.heap[t.b]?=some (txO β t)
 row:w.ownsRow 0 106 3 t.cv t.cs.length (t.cs.flatMap Ch.cells)
 tk:Tk w t.tk t.ks
def fpT (t:Tx):Bl:=fun k=>k=t.b∨t.cv.ownBlock=some k∨t.tk=.map (some k)
theorem Tk.on {ks:List ByteArray} {Y:Bl} (h:Tk w v ks) (ho:On Y w w') (hy:∀ k,v=.map (some k)→Y k):Tk w' v ks:=by
 rcases h with h|⟨r,es,cl,h1,hb,h2⟩
 ·exact .inl h
 ·exact .inr ⟨r,es,cl,h1,ho.heap hb (hy r h1),h2⟩
theorem iX.on (h:iX w β t) (ho:On (fpT t) w w'):iX w' β t:=⟨ho.heap h.box (.inl rfl),bN h.row ho (fun k hk=>.inr (.inl hk)),h.tk.on ho (fun k hk=>.inr (.inr hk))⟩
theorem iX.lies (h:iX w β t):∀ k,fpT t k→k<w.heap.size:=by
 rintro k (rfl|hk|hk)
 ·exact(Array.getElem?_eq_some_iff.1 h.box).1
 ·exact bI h.row hk
 ·obtain⟨es,cl,hb⟩:=h.tk.block hk
  exact(Array.getElem?_eq_some_iff.1 hb).1
structure Db where
 d:Nat
 β:Nat
 sv:Value
 lv:Value
 fs:Fs
 ver:Int
 root:Nat
 aroot:Nat
 ka:Option Addr
 ia:Option Addr
 ea:Option Addr
 kc:Nat
 ic:Nat
 ec:Nat
 failed:Bool
 last:Int
 ov:Value
 ts:List Tx
abbrev dbC (st:Int) (D:Db):Array Value:=#[.int .i32 st,.int .u32 0,.pointer (some ⟨D.β,0,none⟩),.int .i64 1,.int .i64 D.ver,.int .i64 D.root,.int .i64 0,.slice D.ka 0 D.kc,.slice D.ia 0 D.ic,.slice D.ea 0 D.ec,.string ⟨#[]⟩,.int .i64 D.aroot,.bool D.failed,.int .i64 D.last,D.ov]
abbrev dbO (st:Int) (D:Db):Obj:=.cells (dbC st D) 88
def kB (ts:List Tx):List Value:=ts.map fun t=>.pointer (some ⟨t.b,0,none⟩)
def zH (a b:Tx):Prop:=∀ k,fpT a k→¬ fpT b k
structure aS (w:World) (st:Int) (D:Db):Prop where
 box:w.heap[D.d]?=some (dbO st D)
 file:aH w D.β D.sv D.lv D.fs
 row:w.ownsRow 0 91 1 D.ov D.ts.length (kB D.ts)
 each:∀ t∈D.ts,iX w D.β t
 apart:D.ts.Pairwise zH
def fpD (D:Db):Bl:=fun k=>k=D.d∨fpF D.β D.sv D.lv k∨D.ov.ownBlock=some k∨∃ t∈D.ts,fpT t k
theorem aS.on (h:aS w st D) (ho:On (fpD D) w w'):aS w' st D :=
 ⟨ho.heap h.box (.inl rfl),h.file.on (ho.mono (fun k hk=>.inr (.inl hk))),bN h.row ho (fun k hk=>.inr (.inr (.inl hk))),fun t ht=>(h.each t ht).on (ho.mono (fun k hk=>.inr (.inr (.inr ⟨t,ht,hk⟩)))),h.apart⟩
theorem aS.lies (h:aS w st D):∀ k,fpD D k→k<w.heap.size:=by
 rintro k (rfl|hk|hk|⟨t,ht,hk⟩)
 ·exact(Array.getElem?_eq_some_iff.1 h.box).1
 ·exact h.file.lies k hk
 ·exact bI h.row hk
 ·exact(h.each t ht).lies k hk
theorem gA {sv lv:Value} {fs:Fs} (h:aH w β sv lv fs)  {cs:Array Value} {t:TypeId} (hk:w.heap[k]?=some (.cells cs t)) (h1:t≠73) (h2:t≠9) (h3:t≠75):¬ fpF β sv lv k:=by
 rintro(rfl|h'|h')
 ·rw [h.box] at hk
  simp at hk
  exact h1 hk.2.symm
 ·exact bD h.safe hk h2 h'
 ·exact bD h.late hk h3 h'
theorem zT {x:Tx} (h:iX w β x)  {cs:Array Value} {t:TypeId} (hk:w.heap[k]?=some (.cells cs t)) (h1:t≠99) (h2:t≠106):¬ fpT x k:=by
 rintro(rfl|h'|h')
 ·rw [h.box] at hk
  simp at hk
  exact h1 hk.2.symm
 ·exact bD h.row hk h2 h'
 ·obtain⟨es,cl,hb⟩:=h.tk.block h'
  rw [hb] at hk;cases hk
theorem qTp {sv lv:Value} {fs:Fs} (h:aH w β sv lv fs)  {es:Array MapEntry} {cl:Nat} (hk:w.heap[k]?=some (.map es cl)):¬ fpF β sv lv k:=by
 rintro(rfl|h'|h')
 ·rw [h.box] at hk;cases hk
 ·exact uH h.safe hk h'
 ·exact uH h.late hk h'
theorem aS.noFile (h:aS w st D):¬ fpF D.β D.sv D.lv D.d:=gA h.file h.box (by decide) (by decide) (by decide)
theorem aS.noTx (h:aS w st D)  (ht:t∈D.ts):¬ fpT t D.d:=zT (h.each t ht) h.box (by decide) (by decide)
theorem aS.noRow (h:aS w st D):D.ov.ownBlock≠some D.d:=bD h.row h.box (by decide)
theorem aS.rebox {st st':Int} {D D':Db} (h:aS w st D) (f:Fr (Bl.one D.d) w w') (e1:D'.d=D.d) (e2:D'.β=D.β) (e3:D'.sv=D.sv) (e4:D'.lv=D.lv) (e5:D'.fs=D.fs) (e6:D'.ov=D.ov) (e7:D'.ts=D.ts) (hb:w'.heap[D.d]?=some (dbO st' D')):aS w' st' D':=by
 have one:∀ {Z:Bl},(∀ k,Z k→k<w.heap.size∧k≠D.d)→On Z w w':=fun hz=>f.on (fun k hk=>⟨(hz k hk).1,fun e=>(hz k hk).2 e⟩)
 refine⟨by rw [e1];exact hb,?_,?_,?_,by rw [e7];exact h.apart⟩
 ·rw [e2,e3,e4,e5]
  exact h.file.on (one (fun k hk=>⟨h.file.lies k hk,fun e=>h.noFile (e▸hk)⟩))
 ·rw [e6,e7]
  exact bN h.row (one (Z:=fun k=>D.ov.ownBlock=some k) (fun k hk=>⟨bI h.row hk,fun e=>h.noRow (e▸hk)⟩)) (fun k hk=>hk)
 ·rw [e7,e2]
  intro t ht
  exact(h.each t ht).on (one (fun k hk=>⟨(h.each t ht).lies k hk,fun e=>h.noTx ht (e▸hk)⟩))
theorem aS.lock {st st':Int}  (h:aS w st D):aS (w.setCell ⟨D.d,0,none⟩ (.int .i32 st')) st' D :=
 h.rebox ((Fr.refl (Bl.one D.d) w).setCell (p:=⟨D.d,0,none⟩) (.inl rfl) _) rfl rfl rfl rfl rfl rfl rfl (by have:=aI h.box 0 (.int .i32 st');simpa using this)
theorem eS {a0 a1 a2 a3 a4 a5 a6 a7 a8 a9 a10 a11 a12 a13 a14:Value} {t:TypeId} (h:w.heap[β]?=some (.cells #[a0,a1,a2,a3,a4,a5,a6,a7,a8,a9,a10,a11,a12,a13,a14] t)) :
  w.cell? ⟨β,0,none⟩=some a0∧w.cell? ⟨β,1,none⟩=some a1∧w.cell? ⟨β,2,none⟩=some a2∧w.cell? ⟨β,3,none⟩=some a3∧w.cell? ⟨β,4,none⟩=some a4∧w.cell? ⟨β,5,none⟩=some a5∧w.cell? ⟨β,6,none⟩=some a6∧w.cell? ⟨β,7,none⟩=some a7∧w.cell? ⟨β,8,none⟩=some a8∧w.cell? ⟨β,9,none⟩=some a9∧w.cell? ⟨β,10,none⟩=some a10∧w.cell? ⟨β,11,none⟩=some a11∧w.cell? ⟨β,12,none⟩=some a12∧w.cell? ⟨β,13,none⟩=some a13∧w.cell? ⟨β,14,none⟩=some a14:=by
 simp [World.cell?,h]
theorem qIa (D:Db) (w:World) (h:aS w 0 D) :
  Calls Tryz.prog 17 #[.pointer (some ⟨D.d,0,none⟩)] w fun e w'=>e=.returned (.int .i64 D.ver)∧aS w' 0 D∧Fr Bl.none w w':=by
 have h1:=h.lock (st':=1)
 obtain⟨c0,c1,c2,c3,c4,c5,c6,c7,c8,c9,c10,c11,c12,c13,c14⟩:=eS h.box
 have f0:w.frozen? ⟨D.d,0,none⟩=false:=aJ h.box 0
 obtain⟨W1,hW1⟩:=nM (w.setCell ⟨D.d,0,none⟩ (.int .i32 1))
 rw [hW1] at h1
 obtain⟨d0,d1,d2,d3,d4,d5,d6,d7,d8,d9,d10,d11,d12,d13,d14⟩:=eS h1.box
 have g0:W1.frozen? ⟨D.d,0,none⟩=false:=aJ h1.box 0
 have h2:=h1.lock (st':=0)
 have hlt:D.d<w.heap.size:=(Array.getElem?_eq_some_iff.1 h.box).1
 have F:Fr Bl.none w (W1.setCell ⟨D.d,0,none⟩ (.int .i32 0)):=by
  have F1:Fr (Bl.one D.d) w (W1.setCell ⟨D.d,0,none⟩ (.int .i32 0)):=(hW1▸(Fr.refl (Bl.one D.d) w).setCell (p:=⟨D.d,0,none⟩) (.inl rfl) _:Fr (Bl.one D.d) w W1).setCell (p:=⟨D.d,0,none⟩) (.inl rfl) _
  refine⟨F1.os,F1.tape,F1.output,F1.size,fun k hk _=>?_⟩
  by_cases e:k=D.d
  ·subst e;rw [h2.box,h.box]
  ·exact F1.block k hk e
 go_enter_defers Tryz.func17,Tryz.ntmps17
 go_wp2_with (go_at_call 37;refine(lock_free xJ ⟨D.d,0,none⟩ _ c0 f0).mono ?_;rintro e w' ⟨rfl,hw'⟩;rw [hW1] at hw';subst w')
 refine leaves_cons (f:=38) (args:=#[.pointer (some ⟨D.d,0,none⟩)]) (by simp) (by simp [go_sem]) ?_
 refine(unlock_deferred xJ ⟨D.d,0,none⟩ .returning _ d0 g0).mono ?_
 rintro e u' w'' ⟨rfl,rfl,rfl⟩
 exact⟨_,results_tmp rfl _ _ _,rfl,h2,F⟩
end Go.Proofs.YtfnhmpcpeahfkaaGreat.Tree
