import Derived.Test.YtpifffkkgnbfpaaGreatP4
import Derived.Test.YtpifffkkgnbfpaaGreatP18
set_option linter.unusedSimpArgs false
set_option linter.unusedVariables false
set_option maxRecDepth 100000
set_option maxHeartbeats 8000000
namespace Go.Proofs.YtpifffkkgnbfpaaGreat.Tree
open Go.RowKit Go.MuLone Pages
variable {b k β:Nat} {st:Int} {v:Value} {w w':World}
def Tk (w:World) (v:Value) (ks:List ByteArray):Prop:=(v=.map none∧ks=[])∨∃ (r:Nat) (es:Array MapEntry) (cl:Nat),v=.map (some r)∧w.heap[r]?=some (.map es cl)∧es.toList.map (fun e=>(e.key,e.val))=ks.map (fun k=>(Value.string k,Value.agg #[]))
theorem Tk.block {ks:List ByteArray} (h:Tk w v ks)  (hk:v=.map (some k)):∃ es cl,w.heap[k]?=some (.map es cl):=by
 rcases h with⟨h,_⟩|⟨r,es,cl,h,hb,_⟩
 ·rw [h] at hk;cases hk
 ·rw [h] at hk;cases hk;exact⟨es,cl,hb⟩
theorem rA {B:Nat} {e:TypeId} {z n:Nat}  {xs:List Value} (h:w.ownsRow B e z v n xs) {r:Nat} {es:Array MapEntry} {cl:Nat} (hr:w.heap[r]?=some (.map es cl)):v.ownBlock≠some r:=by
 intro hv
 obtain⟨_,h2⟩:=h
 rcases h2 with⟨h3,_⟩|⟨g,cap,cur,h3,_,hg,_⟩
 ·rw [h3] at hv;simp [Value.ownBlock] at hv
 ·rw [h3] at hv
  simp only [Value.ownBlock,Option.some.injEq] at hv
  subst hv
  rw [hg] at hr;cases hr
structure Tx where
 b:Nat
 num:Int
 wr:Bool
 root:Nat
 cs:List Ch
 ca:Option Addr
 cc:Nat
 tk:Value
 ks:List ByteArray
abbrev Tx.cv (t:Tx):Value:=.slice t.ca t.cs.length t.cc
variable {t:Tx}
abbrev txO (β:Nat) (t:Tx):Obj:=.cells #[.int .i64 t.num,.bool t.wr,.pointer (some ⟨β,0,none⟩),.int .i64 t.root,t.cv,t.tk] 99
structure eF (w:World) (β:Nat) (t:Tx):Prop where
 box:w.heap[t.b]?=some (txO β t)
 row:w.ownsRow 0 106 3 t.cv t.cs.length (t.cs.flatMap Ch.cells)
 tk:Tk w t.tk t.ks
def fpT (t:Tx):Bl:=fun k=>k=t.b∨t.cv.ownBlock=some k∨t.tk=.map (some k)
theorem Tk.on {ks:List ByteArray} {Y:Bl} (h:Tk w v ks) (ho:On Y w w') (hy:∀ k,v=.map (some k)→Y k):Tk w' v ks:=by
 rcases h with h|⟨r,es,cl,h1,hb,h2⟩
 ·exact .inl h
 ·exact .inr ⟨r,es,cl,h1,ho.heap hb (hy r h1),h2⟩
theorem eF.on (h:eF w β t) (ho:On (fpT t) w w'):eF w' β t:=⟨ho.heap h.box (.inl rfl),bK h.row ho (fun k hk=>.inr (.inl hk)),h.tk.on ho (fun k hk=>.inr (.inr hk))⟩
theorem eF.lies (h:eF w β t):∀ k,fpT t k→k<w.heap.size:=by
 rintro k (rfl|hk|hk)
 ·exact(gL h.box)
 ·exact aX h.row hk
 ·obtain⟨es,cl,hb⟩:=h.tk.block hk
  exact(gL hb)
structure Db where
 d:Nat
 β:Nat
 sv:Value
 lv:Value
 fs:Fs
 ver:Int
 root:Nat
 aroot:Nat
 ka:Option Addr
 ia:Option Addr
 ea:Option Addr
 kc:Nat
 ic:Nat
 ec:Nat
 failed:Bool
 last:Int
 ov:Value
 ts:List Tx
variable {D:Db}
abbrev dbC (st:Int) (D:Db):Array Value:=#[.int .i32 st,.int .u32 0,.pointer (some ⟨D.β,0,none⟩),.int .i64 1,.int .i64 D.ver,.int .i64 D.root,.int .i64 0,.slice D.ka 0 D.kc,.slice D.ia 0 D.ic,.slice D.ea 0 D.ec,.string ⟨#[]⟩,.int .i64 D.aroot,.bool D.failed,.int .i64 D.last,D.ov]
abbrev dbO (st:Int) (D:Db):Obj:=.cells (dbC st D) 88
def kO (ts:List Tx):List Value:=ts.map fun t=>.pointer (some ⟨t.b,0,none⟩)
def qG (a b:Tx):Prop:=∀ k,fpT a k→¬ fpT b k
structure aN (w:World) (st:Int) (D:Db):Prop where
 box:w.heap[D.d]?=some (dbO st D)
 file:aG w D.β D.sv D.lv D.fs
 row:w.ownsRow 0 91 1 D.ov D.ts.length (kO D.ts)
 each:∀ t∈D.ts,eF w D.β t
 apart:D.ts.Pairwise qG
def fpD (D:Db):Bl:=fun k=>k=D.d∨fpF D.β D.sv D.lv k∨D.ov.ownBlock=some k∨∃ t∈D.ts,fpT t k
theorem aN.on (h:aN w st D) (ho:On (fpD D) w w'):aN w' st D :=
 ⟨ho.heap h.box (.inl rfl),h.file.on (ho.mono (fun k hk=>.inr (.inl hk))),bK h.row ho (fun k hk=>.inr (.inr (.inl hk))),fun t ht=>(h.each t ht).on (ho.mono (fun k hk=>.inr (.inr (.inr ⟨t,ht,hk⟩)))),h.apart⟩
theorem aN.lies (h:aN w st D):∀ k,fpD D k→k<w.heap.size:=by
 rintro k (rfl|hk|hk|⟨t,ht,hk⟩)
 ·exact(gL h.box)
 ·exact h.file.lies k hk
 ·exact aX h.row hk
 ·exact(h.each t ht).lies k hk
theorem gK {sv lv:Value} {fs:Fs} (h:aG w β sv lv fs)  {cs:Array Value} {t:TypeId} (hk:w.heap[k]?=some (.cells cs t)) (h1:t≠73) (h2:t≠9) (h3:t≠75):¬ fpF β sv lv k:=by
 rintro(rfl|h'|h')
 ·rw [h.box] at hk
  simp at hk
  exact h1 hk.2.symm
 ·exact aV h.safe hk h2 h'
 ·exact aV h.late hk h3 h'
theorem uN {x:Tx} (h:eF w β x)  {cs:Array Value} {t:TypeId} (hk:w.heap[k]?=some (.cells cs t)) (h1:t≠99) (h2:t≠106):¬ fpT x k:=by
 rintro(rfl|h'|h')
 ·rw [h.box] at hk
  simp at hk
  exact h1 hk.2.symm
 ·exact aV h.row hk h2 h'
 ·obtain⟨es,cl,hb⟩:=h.tk.block h'
  rw [hb] at hk;cases hk
theorem Xu {sv lv:Value} {fs:Fs} (h:aG w β sv lv fs)  {es:Array MapEntry} {cl:Nat} (hk:w.heap[k]?=some (.map es cl)):¬ fpF β sv lv k:=by
 rintro(rfl|h'|h')
 ·rw [h.box] at hk;cases hk
 ·exact rA h.safe hk h'
 ·exact rA h.late hk h'
theorem aN.noFile (h:aN w st D):¬ fpF D.β D.sv D.lv D.d:=gK h.file h.box (by decide) (by decide) (by decide)
theorem aN.noTx (h:aN w st D)  (ht:t∈D.ts):¬ fpT t D.d:=uN (h.each t ht) h.box (by decide) (by decide)
theorem aN.noRow (h:aN w st D):D.ov.ownBlock≠some D.d:=aV h.row h.box (by decide)
theorem aN.rebox {st st':Int} {D D':Db} (h:aN w st D) (f:Fr (Bl.one D.d) w w') (e1:D'.d=D.d) (e2:D'.β=D.β) (e3:D'.sv=D.sv) (e4:D'.lv=D.lv) (e5:D'.fs=D.fs) (e6:D'.ov=D.ov) (e7:D'.ts=D.ts) (hb:w'.heap[D.d]?=some (dbO st' D')):aN w' st' D':=by
 have one:∀ {Z:Bl},(∀ k,Z k→k<w.heap.size∧k≠D.d)→On Z w w':=fun hz=>f.on (fun k hk=>⟨(hz k hk).1,fun e=>(hz k hk).2 e⟩)
 refine⟨by rw [e1];exact hb,?_,?_,?_,by rw [e7];exact h.apart⟩
 ·rw [e2,e3,e4,e5]
  exact h.file.on (one (fun k hk=>⟨h.file.lies k hk,fun e=>h.noFile (e▸hk)⟩))
 ·rw [e6,e7]
  exact bK h.row (one (Z:=fun k=>D.ov.ownBlock=some k) (fun k hk=>⟨aX h.row hk,fun e=>h.noRow (e▸hk)⟩)) (fun k hk=>hk)
 ·rw [e7,e2]
  intro t ht
  exact(h.each t ht).on (one (fun k hk=>⟨(h.each t ht).lies k hk,fun e=>h.noTx ht (e▸hk)⟩))
theorem aN.lock {st st':Int}  (h:aN w st D):aN (w.setCell ⟨D.d,0,none⟩ (.int .i32 st')) st' D :=
 h.rebox ((Fr.refl (Bl.one D.d) w).setCell (p:=⟨D.d,0,none⟩) (.inl rfl) _) rfl rfl rfl rfl rfl rfl rfl (by have:=aD h.box 0 (.int .i32 st');simpa using this)
theorem eT {a0 a1 a2 a3 a4 a5 a6 a7 a8 a9 a10 a11 a12 a13 a14:Value} {t:TypeId} (h:w.heap[β]?=some (.cells #[a0,a1,a2,a3,a4,a5,a6,a7,a8,a9,a10,a11,a12,a13,a14] t)) :
  w.cell? ⟨β,0,none⟩=some a0∧w.cell? ⟨β,1,none⟩=some a1∧w.cell? ⟨β,2,none⟩=some a2∧w.cell? ⟨β,3,none⟩=some a3∧w.cell? ⟨β,4,none⟩=some a4∧w.cell? ⟨β,5,none⟩=some a5∧w.cell? ⟨β,6,none⟩=some a6∧w.cell? ⟨β,7,none⟩=some a7∧w.cell? ⟨β,8,none⟩=some a8∧w.cell? ⟨β,9,none⟩=some a9∧w.cell? ⟨β,10,none⟩=some a10∧w.cell? ⟨β,11,none⟩=some a11∧w.cell? ⟨β,12,none⟩=some a12∧w.cell? ⟨β,13,none⟩=some a13∧w.cell? ⟨β,14,none⟩=some a14:=by
 simp [World.cell?,h]
theorem qO (D:Db) (w:World) (h:aN w 0 D) :
  Calls Tryz.prog 17 #[.pointer (some ⟨D.d,0,none⟩)] w fun e w'=>e=.returned (.int .i64 D.ver)∧aN w' 0 D∧Fr Bl.none w w':=by
 have h1:=h.lock (st':=1)
 obtain⟨c0,c1,c2,c3,c4,c5,c6,c7,c8,c9,c10,c11,c12,c13,c14⟩:=eT h.box
 have f0:w.frozen? ⟨D.d,0,none⟩=false:=aF h.box 0
 obtain⟨W1,hW1⟩:=nM (w.setCell ⟨D.d,0,none⟩ (.int .i32 1))
 rw [hW1] at h1
 obtain⟨d0,d1,d2,d3,d4,d5,d6,d7,d8,d9,d10,d11,d12,d13,d14⟩:=eT h1.box
 have g0:W1.frozen? ⟨D.d,0,none⟩=false:=aF h1.box 0
 have h2:=h1.lock (st':=0)
 have hlt:D.d<w.heap.size:=(gL h.box)
 have F:Fr Bl.none w (W1.setCell ⟨D.d,0,none⟩ (.int .i32 0)):=by
  have F1:Fr (Bl.one D.d) w (W1.setCell ⟨D.d,0,none⟩ (.int .i32 0)):=(hW1▸(Fr.refl (Bl.one D.d) w).setCell (p:=⟨D.d,0,none⟩) (.inl rfl) _:Fr (Bl.one D.d) w W1).setCell (p:=⟨D.d,0,none⟩) (.inl rfl) _
  refine⟨F1.os,F1.tape,F1.output,F1.size,fun k hk _=>?_⟩
  by_cases e:k=D.d
  ·subst e;rw [h2.box,h.box]
  ·exact F1.block k hk e
 go_enter_defers Tryz.func17,Tryz.ntmps17
 go_wp2_with (go_at_call 37;refine(lock_free Hc ⟨D.d,0,none⟩ _ c0 f0).mono ?_;rintro e w' ⟨rfl,hw'⟩;rw [hW1] at hw';subst w')
 refine leaves_cons (f:=38) (args:=#[.pointer (some ⟨D.d,0,none⟩)]) (by simp) (by simp [go_sem]) ?_
 refine(unlock_deferred Hc ⟨D.d,0,none⟩ .returning _ d0 g0).mono ?_
 rintro e u' w'' ⟨rfl,rfl,rfl⟩
 exact⟨_,results_tmp rfl _ _ _,rfl,h2,F⟩
theorem lt_of_cell {b o:Nat}  (h:w.cell? ⟨b,o,none⟩=some v):b<w.heap.size:=by
 rcases Nat.lt_or_ge b w.heap.size with h1|h1
 ·exact h1
 ·have:w.heap[b]?=none:=Array.getElem?_eq_none h1
  simp [World.cell?,this] at h
theorem mD (d β:Nat) (root:Int) (w:World) (hc:w.cell? ⟨d,2,none⟩=some (.pointer (some ⟨β,0,none⟩))) :
  Calls Tryz.prog 39 #[.pointer (some ⟨d,0,none⟩),.int .i64 root] w fun e w'=>e=.returned (.agg #[.pointer (some ⟨β,0,none⟩),.int .i64 root,.slice none 0 0])∧Below w.heap.size w w':=by
 obtain⟨W1,hW1⟩:=nM (w.alloc (.cells #[.pointer none,.int .i64 0,.slice none 0 0] 95))
 have b1:Below w.heap.size w W1:=hW1▸(bA _ _)
 have x1:W1.heap[w.heap.size]?=some (.cells #[.pointer none,.int .i64 0,.slice none 0 0] 95):=hW1▸aA w _
 have hlt:d<w.heap.size:=lt_of_cell hc
 have hc1:W1.cell? ⟨d,2,none⟩=some (.pointer (some ⟨β,0,none⟩)):=by
  rw [World.cell?_of_block (w:=w) (b1.block d hlt)];exact hc
 have m0:W1.cell? ⟨w.heap.size,0,none⟩=some (.pointer none):=by simp [World.cell?,x1]
 have m1:W1.cell? ⟨w.heap.size,1,none⟩=some (.int .i64 0):=by simp [World.cell?,x1]
 have m2:W1.cell? ⟨w.heap.size,2,none⟩=some (.slice none 0 0):=by simp [World.cell?,x1]
 have mfr:=aF x1
 have e3:=aD (aD (aD x1 0 (.pointer (some ⟨β,0,none⟩))) 1 (.int .i64 root)) 2 (.slice none 0 0)
 have HB:Hid (Below w.heap.size w (((W1.setCell ⟨w.heap.size,0,none⟩ (.pointer (some ⟨β,0,none⟩))).setCell ⟨w.heap.size,1,none⟩ (.int .i64 root)).setCell ⟨w.heap.size,2,none⟩ (.slice none 0 0))) :=
  ((b1.setCell (p:=⟨w.heap.size,0,none⟩) (jU _) _).setCell (p:=⟨w.heap.size,1,none⟩) (jU _) _).setCell (p:=⟨w.heap.size,2,none⟩) (jU _) _
 have E3:Hid ((((W1.setCell ⟨w.heap.size,0,none⟩ (.pointer (some ⟨β,0,none⟩))).setCell ⟨w.heap.size,1,none⟩ (.int .i64 root)).setCell ⟨w.heap.size,2,none⟩ (.slice none 0 0)).heap[w.heap.size]?=some (.cells #[.pointer (some ⟨β,0,none⟩),.int .i64 root,.slice none 0 0] 95)):=by
  show _=_;simpa using e3
 clear e3
 go_enter Tryz.func39,Tryz.ntmps39
 go_wp2
 refine bodyPost_ret (v:=.agg #[.pointer (some ⟨β,0,none⟩),.int .i64 root,.slice none 0 0]) ?_ rfl ⟨rfl,HB.out⟩
 exact results_cell_row (p:=4) rfl _ _ w.heap.size _ _ _ _ rfl E3.out Tryz.underlying95 rfl (by kernel_rfl)
theorem aN.fileRow (h:aN w st D):∀ k,fpF D.β D.sv D.lv k→D.ov.ownBlock≠some k:=by
 rintro k (rfl|hk|hk) e
 ·exact aV h.row h.file.box (by decide) e
 ·rcases pY h.row h.file.safe (by decide) with h1|h1
  ·rw [h1] at e;cases e
  ·exact h1 (e.trans hk.symm)
 ·rcases pY h.row h.file.late (by decide) with h1|h1
  ·rw [h1] at e;cases e
  ·exact h1 (e.trans hk.symm)
theorem aN.txRow (h:aN w st D)  (ht:eF w D.β t):∀ k,fpT t k→D.ov.ownBlock≠some k:=by
 rintro k (rfl|hk|hk) e
 ·exact aV h.row ht.box (by decide) e
 ·rcases pY h.row ht.row (by decide) with h1|h1
  ·rw [h1] at e;cases e
  ·exact h1 (e.trans hk.symm)
 ·obtain⟨es,cl,hb⟩:=ht.tk.block hk
  exact rA h.row hb e
theorem aN.pushed {wX w3:World}    {v3:Value} (h:aN wX st D) (ht:eF wX D.β t) (hd:¬ fpT t D.d) (hn:∀ x∈D.ts,qG x t) (A:lU 91 1 D.ov D.ts.length (kO D.ts) [.pointer (some ⟨t.b,0,none⟩)] 1 wX v3 w3) :
  aN (w3.setCell ⟨D.d,14,none⟩ v3) st { D with ov:=v3,ts:=D.ts++[t] }:=by
 have on3:∀ {Z:Bl},(∀ k,Z k→k<wX.heap.size∧D.ov.ownBlock≠some k∧k≠D.d)→On Z wX (w3.setCell ⟨D.d,14,none⟩ v3):=fun hz=>(A.fr.on (fun k hk=>⟨(hz k hk).1,(hz k hk).2.1⟩)).setCell (p:=⟨D.d,14,none⟩) (fun hk=>(hz _ hk).2.2 rfl) _
 have b3:=A.fr.heap h.box h.noRow
 refine⟨by have:=aD b3 14 v3;simpa using this,?_,?_,?_,?_⟩
 ·exact h.file.on (on3 (fun k hk=>⟨h.file.lies k hk,h.fileRow k hk,fun e=>h.noFile (e▸hk)⟩))
 ·have hr:=A.row
  have hne:=aV A.row b3 (by decide)
  have:w3.ownsRow 0 91 1 v3 (D.ts++[t]).length (kO (D.ts++[t])):=by
   rw [jK,List.length_singleton,kO,List.map_append];exact hr
  exact bK this ((On.refl (fun k=>v3.ownBlock=some k) w3).setCell (p:=⟨D.d,14,none⟩) (fun hk=>hne hk) _) (fun k hk=>hk)
 ·intro x hx
  rcases List.mem_append.1 hx with hx|hx
  ·exact(h.each x hx).on (on3 (fun k hk=>⟨(h.each x hx).lies k hk,h.txRow (h.each x hx) k hk,fun e=>h.noTx hx (e▸hk)⟩))
  ·rw [List.mem_singleton] at hx
   subst hx
   exact ht.on (on3 (fun k hk=>⟨ht.lies k hk,h.txRow ht k hk,fun e=>hd (e▸hk)⟩))
 ·exact List.pairwise_append.2 ⟨h.apart,by simp,fun a ha b hb=>by rw [List.mem_singleton] at hb;subst hb;exact hn a ha⟩
abbrev Cm (b:Nat) (num:Int) (wr:Bool) (root:Nat):Tx:=⟨b,num,wr,root,[],none,0,.map none,[]⟩
theorem qAc {num:Int} {wr:Bool} {root:Nat} (h:w.heap[b]?=some (txO β (Cm b num wr root))):eF w β (Cm b num wr root):=⟨h,World.ownsRow_nil _ _ _ _,.inl ⟨rfl,rfl⟩⟩
theorem rG {num:Int} {wr:Bool} {root:Nat}  (h:fpT (Cm b num wr root) k):k=b:=by
 rcases h with h|h|h
 ·exact h
 ·simp [Value.ownBlock] at h
 ·cases h
theorem Yn {P:Program} {c:Code} {K:Act→World→Prop} {Q:Exit→Act→World→Prop} {a:Act}  (h:c.wp P (Exit.then K (fun _ _ _=>False)) a w):c.wp P (Exit.then K Q) a w :=
 Code.wp_mono (fun e a w h=>by cases e<;>first|exact h|exact h.elim) h
theorem qAp:(Tryz.prog.info? 91).map (fun i=>(i.zero,i.size,i.bytes))=some (some (.pointer none),1,8):=by kernel_rfl
theorem xT (D:Db) (wr:Bool) (w:World) (h:aN w 0 D) (hn:D.ts.length<8) (hl0:0≤D.last) (hl1:D.last<1000000000) :
  Calls Tryz.prog 18 #[.pointer (some ⟨D.d,0,none⟩),.bool wr] w fun e w'=>e=.returned (.tuple #[.int .i64 (D.last+1),.int .i64 0]) ∧
   ∃ b ov',aN w' 0 { D with last:=D.last+1,ov:=ov',ts:=D.ts++[Cm b (D.last+1) wr D.root] }∧Fr (fpD D) w w'∧w.heap.size≤b∧∀ k,ov'.ownBlock=some k→D.ov.ownBlock=some k∨w.heap.size≤k:=by
 obtain⟨d,β,sv,lv,fs,ver,root,aroot,ka,ia,ea,kc,ic,ec,failed,last,ov,ts⟩:=D
 dsimp only at hn hl0 hl1 ⊢
 have hbox:w.heap[d]?=some (dbO 0 ⟨d,β,sv,lv,fs,ver,root,aroot,ka,ia,ea,kc,ic,ec,failed,last,ov,ts⟩):=h.box
 obtain⟨c0,c1,c2,c3,c4,c5,c6,c7,c8,c9,c10,c11,c12,c13,c14⟩:=eT hbox
 have f0:w.frozen? ⟨d,0,none⟩=false:=aF hbox 0
 obtain⟨W1,hW1⟩:=nM (w.setCell ⟨d,0,none⟩ (.int .i32 1))
 have h1:=h.lock (st':=1)
 rw [hW1] at h1
 have hbox1:W1.heap[d]?=some (dbO 1 ⟨d,β,sv,lv,fs,ver,root,aroot,ka,ia,ea,kc,ic,ec,failed,last,ov,ts⟩):=h1.box
 obtain⟨d0,d1,d2,d3,d4,d5,d6,d7,d8,d9,d10,d11,d12,d13,d14⟩:=eT hbox1
 have g0:=aF hbox1
 obtain⟨W2,hW2⟩:=nM (W1.setCell ⟨d,13,none⟩ (.int .i64 (last+1)))
 have hbox2:W2.heap[d]?=some (dbO 1 ⟨d,β,sv,lv,fs,ver,root,aroot,ka,ia,ea,kc,ic,ec,failed,last+1,ov,ts⟩):=by rw [← hW2];have:=aD hbox1 13 (.int .i64 (last+1));simpa using this
 have h2:aN W2 1 ⟨d,β,sv,lv,fs,ver,root,aroot,ka,ia,ea,kc,ic,ec,failed,last+1,ov,ts⟩:=h1.rebox (hW2▸(Fr.refl (Bl.one d) W1).setCell (p:=⟨d,13,none⟩) (.inl rfl) _) rfl rfl rfl rfl rfl rfl rfl hbox2
 have F2:Fr (fpD ⟨d,β,sv,lv,fs,ver,root,aroot,ka,ia,ea,kc,ic,ec,failed,last,ov,ts⟩) w W2:=hW2▸(hW1▸(Fr.refl _ w).setCell (p:=⟨d,0,none⟩) (.inl (.inl rfl)) _:Fr _ w W1).setCell (p:=⟨d,13,none⟩) (.inl (.inl rfl)) _
 obtain⟨k0,k1,k2,k3,k4,k5,k6,k7,k8,k9,k10,k11,k12,k13,k14⟩:=eT hbox2
 have hadd:IntKind.i64.wrap (last+1)=last+1:=by rw [IntKind.wrap_i64];omega
 have hnb:((ts.length:Int)==8)=false:=by simp;omega
 obtain⟨oa,oc,hov⟩:=aO h.row
 dsimp only at hov
 subst hov
 have HH:Hid (aN W2 1 ⟨d,β,sv,lv,fs,ver,root,aroot,ka,ia,ea,kc,ic,ec,failed,last+1,.slice oa ts.length oc,ts⟩):=h2
 have HF:Hid (Fr (fpD ⟨d,β,sv,lv,fs,ver,root,aroot,ka,ia,ea,kc,ic,ec,failed,last,.slice oa ts.length oc,ts⟩) w W2):=F2
 have dlt:d<W2.heap.size:=(gL hbox2)
 clear h h1 hbox hbox1 h2 F2
 go_enter_defers Tryz.func18,Tryz.ntmps18
 go_wp2_with (go_at_call 37;refine(lock_free Hc ⟨d,0,none⟩ _ c0 f0).mono ?_;rintro e w' ⟨rfl,hw'⟩;rw [hW1] at hw';subst w')
 clear c0 c1 c2 c3 c4 c5 c6 c7 c8 c9 c10 c11 c12 c13 c14 d0 d1 d2 d3 d4 d5 d6 d7 d8 d9 d10 d11 d12 d13 d14 k0 k1 k3 k4 k6 k7 k8 k9 k10 k11 k12
 refine Yn ?_
 go_region_law (first
  | (go_simp;go_at_call 39;refine(mD d β root _ (by simpa using k2)).mono ?_;rintro e wt ⟨rfl,hbt⟩;have Ft:Fr Bl.none W2 wt:=(Fr.refl _ _).drew.trans (Fr.of_below hbt);have bt:=Ft.heap hbox2 (fun h=>h);obtain⟨p0,p1,p2,p3,p4,p5,p6,p7,p8,p9,p10,p11,p12,p13,p14⟩:=eT bt;clear p0 p1 p2 p3 p4 p5 p6 p7 p8 p9 p10 p11 p12;obtain⟨WX,hWX⟩:=nM (wt.alloc (.cells #[.int .i64 (last+1),.bool wr,.pointer (some ⟨β,0,none⟩),.int .i64 root,.slice none 0 0,.map none] 99));have bX:WX.heap[d]?=some (dbO 1 ⟨d,β,sv,lv,fs,ver,root,aroot,ka,ia,ea,kc,ic,ec,failed,last+1,.slice oa ts.length oc,ts⟩):=hWX▸aB _ bt;obtain⟨q0,q1,q2,q3,q4,q5,q6,q7,q8,q9,q10,q11,q12,q13,q14⟩:=eT bX;clear q0 q1 q2 q3 q4 q5 q6 q7 q8 q9 q10 q11 q12 q13;have bY:=aB (.cells #[.pointer (some ⟨wt.heap.size,0,none⟩)] 91) bX;obtain⟨r0,r1,r2,r3,r4,r5,r6,r7,r8,r9,r10,r11,r12,r13,r14⟩:=eT bY;clear r0 r1 r2 r3 r4 r5 r6 r7 r8 r9 r10 r11 r12 r13;have HX:aN WX 1 ⟨d,β,sv,lv,fs,ver,root,aroot,ka,ia,ea,kc,ic,ec,failed,last+1,.slice oa ts.length oc,ts⟩:=HH.out.on ((Ft.trans (hWX▸(Fr.refl _ wt).alloc _)).on (fun k hk=>⟨HH.out.lies k hk,fun h=>h⟩)))
  | (refine kN WX rfl (.tmp 30) (.tmp 45) 86 91 _ 1 8 rfl Tryz.underlying86 qAp rfl (by decide) (.slice oa ts.length oc) ts.length (kO ts) (by simp [Act.eval,Act.put]) HX.row [.pointer (some ⟨wt.heap.size,0,none⟩)] (by simp [Act.eval,Act.put]) rfl (by simp [Value.oneCell']) (by omega) (by omega) ?_;intro v3 w3 A3;obtain⟨g3,k3,rfl⟩:=A3.shape (by decide);have b3:=A3.fr.heap bX (aV HX.row bX (by decide));obtain⟨m0,m1,m2,m3,m4,m5,m6,m7,m8,m9,m10,m11,m12,m13,m14⟩:=eT b3;have mfr:=aF b3;clear m0 m1 m2 m3 m4 m5 m6 m7 m8 m9 m10 m11 m12))
 all_goals
  have hclt:d<w3.heap.size:=(gL b3)
  have xX:WX.heap[wt.heap.size]?=some (txO β (Cm wt.heap.size (last+1) wr root)):=hWX▸aA wt _
  have hTx:eF WX β (Cm wt.heap.size (last+1) wr root):=qAc xX
  have hbtd:d<wt.heap.size:=(gL bt)
  have HD:=HX.pushed hTx (fun h=>by have:=rG h;dsimp only at this;omega) (fun x hx k hk hk'=>by have h1:=HH.out.lies k (.inr (.inr (.inr ⟨x,hx,hk⟩)));have h2:=rG hk';have h3:=Ft.size;omega) A3
  have HU:=HD.lock (st':=0)
  have u0:(w3.setCell ⟨d,14,none⟩ (.slice (some ⟨g3,0,none⟩) (ts.length+1) k3)).cell? ⟨d,0,none⟩=some (.int .i32 1):=(eT HD.box).1
  have u13:(w3.setCell ⟨d,14,none⟩ (.slice (some ⟨g3,0,none⟩) (ts.length+1) k3)).cell? ⟨d,13,none⟩=some (.int .i64 (last+1)):=(eT HD.box).2.2.2.2.2.2.2.2.2.2.2.2.2.1
  have uf:(w3.setCell ⟨d,14,none⟩ (.slice (some ⟨g3,0,none⟩) (ts.length+1) k3)).frozen? ⟨d,0,none⟩=false:=aF HD.box 0
  obtain⟨W4,hW4⟩:=nM (w3.setCell ⟨d,14,none⟩ (.slice (some ⟨g3,0,none⟩) (ts.length+1) k3))
  rw [hW4] at u0 u13 uf HU
  have F4:Fr (fpD ⟨d,β,sv,lv,fs,ver,root,aroot,ka,ia,ea,kc,ic,ec,failed,last,.slice oa ts.length oc,ts⟩) w (W4.setCell ⟨d,0,none⟩ (.int .i32 0)):=by
   rw [← hW4]
   refine(((HF.out.trans (Ft.mono (fun _ h=>h.elim))).trans ((hWX▸(Fr.refl _ wt).alloc _:Fr (fpD ⟨d,β,sv,lv,fs,ver,root,aroot,ka,ia,ea,kc,ic,ec,failed,last,.slice oa ts.length oc,ts⟩) wt WX))).trans (A3.fr.mono (fun k hk=>.inl (.inr (.inr (.inl hk)))))).setCell (p:=⟨d,14,none⟩) (.inl (.inl rfl)) _ |>.setCell (p:=⟨d,0,none⟩) (.inl (.inl rfl)) _
  have hsz:w.heap.size≤wt.heap.size:=vJ HF.out.size Ft.size
  have hlies:∀ k,(Value.slice (some ⟨g3,0,none⟩) (ts.length+1) k3).ownBlock=some k→(Value.slice oa ts.length oc).ownBlock=some k∨w.heap.size≤k:=fun k hk=>(A3.lies k hk).imp id (fun h=>by have:wt.heap.size≤WX.heap.size:=hWX▸(by simp);omega)
  have HU':=HU
  clear HU HD hTx xX HX HH HF
  go_wp2
  refine leaves_cons (f:=38) (args:=#[.pointer (some ⟨d,0,none⟩)]) (by simp) (by simp [go_sem]) ?_
  refine(unlock_deferred Hc ⟨d,0,none⟩ .returning _ (by simpa using u0) (by simpa using uf)).mono ?_
  rintro e u' w'' ⟨rfl,rfl,rfl⟩
  exact⟨_,results_tmp2 rfl _ _ _,rfl,wt.heap.size,_,HU',F4,hsz,hlies⟩
