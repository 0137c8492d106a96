/-
  Joined: Begin.
-/
import Derived.Test.YtfnhmpcpeahfkaaGreatU37
set_option linter.unusedSimpArgs false
set_option linter.unusedVariables false
set_option maxRecDepth 100000
set_option maxHeartbeats 8000000
namespace Go.Proofs.YtfnhmpcpeahfkaaGreat.Tree
open Go.RowKit Go.MuLone Pages
variable {D:Db} {b:Nat} {st:Int} {w:World}
theorem lt_of_cell {b o:Nat} {v:Value} (h:w.cell? ⟨b,o,none⟩=some v):b<w.heap.size:=by
 rcases Nat.lt_or_ge b w.heap.size with h1|h1
 ·exact h1
 ·have:w.heap[b]?=none:=Array.getElem?_eq_none h1
  simp [World.cell?,this] at h
theorem lF (d β:Nat) (root:Int) (w:World) (hc:w.cell? ⟨d,2,none⟩=some (.pointer (some ⟨β,0,none⟩))) :
  Calls Tryz.prog 39 #[.pointer (some ⟨d,0,none⟩),.int .i64 root] w fun e w'=>e=.returned (.agg #[.pointer (some ⟨β,0,none⟩),.int .i64 root,.slice none 0 0])∧Below w.heap.size w w':=by
 obtain⟨W1,hW1⟩:=nM (w.alloc (.cells #[.pointer none,.int .i64 0,.slice none 0 0] 95))
 have b1:Below w.heap.size w W1:=hW1▸(Below.refl _ _).alloc (Nat.le_refl _) _
 have x1:W1.heap[w.heap.size]?=some (.cells #[.pointer none,.int .i64 0,.slice none 0 0] 95):=hW1▸aB w _
 have hlt:d<w.heap.size:=lt_of_cell hc
 have hc1:W1.cell? ⟨d,2,none⟩=some (.pointer (some ⟨β,0,none⟩)):=by
  rw [World.cell?_of_block (w:=w) (b1.block d hlt)];exact hc
 have m0:W1.cell? ⟨w.heap.size,0,none⟩=some (.pointer none):=by simp [World.cell?,x1]
 have m1:W1.cell? ⟨w.heap.size,1,none⟩=some (.int .i64 0):=by simp [World.cell?,x1]
 have m2:W1.cell? ⟨w.heap.size,2,none⟩=some (.slice none 0 0):=by simp [World.cell?,x1]
 have mfr:=aJ x1
 have e3:=aI (aI (aI x1 0 (.pointer (some ⟨β,0,none⟩))) 1 (.int .i64 root)) 2 (.slice none 0 0)
 have HB:Hid (Below w.heap.size w (((W1.setCell ⟨w.heap.size,0,none⟩ (.pointer (some ⟨β,0,none⟩))).setCell ⟨w.heap.size,1,none⟩ (.int .i64 root)).setCell ⟨w.heap.size,2,none⟩ (.slice none 0 0))) :=
  ((b1.setCell (p:=⟨w.heap.size,0,none⟩) (Nat.le_refl _) _).setCell (p:=⟨w.heap.size,1,none⟩) (Nat.le_refl _) _).setCell (p:=⟨w.heap.size,2,none⟩) (Nat.le_refl _) _
 have E3:Hid ((((W1.setCell ⟨w.heap.size,0,none⟩ (.pointer (some ⟨β,0,none⟩))).setCell ⟨w.heap.size,1,none⟩ (.int .i64 root)).setCell ⟨w.heap.size,2,none⟩ (.slice none 0 0)).heap[w.heap.size]?=some (.cells #[.pointer (some ⟨β,0,none⟩),.int .i64 root,.slice none 0 0] 95)):=by
  show _=_;simpa using e3
 clear e3
 go_enter Tryz.func39,Tryz.ntmps39
 go_wp2
 refine bodyPost_ret (v:=.agg #[.pointer (some ⟨β,0,none⟩),.int .i64 root,.slice none 0 0]) ?_ rfl ⟨rfl,HB.out⟩
 exact results_cell_row (p:=4) rfl _ _ w.heap.size _ _ _ _ rfl E3.out Tryz.underlying95 rfl (by kernel_rfl)
theorem aS.fileRow (h:aS w st D):∀ k,fpF D.β D.sv D.lv k→D.ov.ownBlock≠some k:=by
 rintro k (rfl|hk|hk) e
 ·exact bD h.row h.file.box (by decide) e
 ·rcases oU h.row h.file.safe (by decide) with h1|h1
  ·rw [h1] at e;cases e
  ·exact h1 (e.trans hk.symm)
 ·rcases oU h.row h.file.late (by decide) with h1|h1
  ·rw [h1] at e;cases e
  ·exact h1 (e.trans hk.symm)
theorem aS.txRow (h:aS w st D) {t:Tx} (ht:iX w D.β t):∀ k,fpT t k→D.ov.ownBlock≠some k:=by
 rintro k (rfl|hk|hk) e
 ·exact bD h.row ht.box (by decide) e
 ·rcases oU h.row ht.row (by decide) with h1|h1
  ·rw [h1] at e;cases e
  ·exact h1 (e.trans hk.symm)
 ·obtain⟨es,cl,hb⟩:=ht.tk.block hk
  exact uH h.row hb e
theorem aS.pushed {wX w3:World}   {t:Tx} {v3:Value} (h:aS wX st D) (ht:iX wX D.β t) (hd:¬ fpT t D.d) (hn:∀ x∈D.ts,zH x t) (A:kV 91 1 D.ov D.ts.length (kB D.ts) [.pointer (some ⟨t.b,0,none⟩)] 1 wX v3 w3) :
  aS (w3.setCell ⟨D.d,14,none⟩ v3) st { D with ov:=v3,ts:=D.ts++[t] }:=by
 have on3:∀ {Z:Bl},(∀ k,Z k→k<wX.heap.size∧D.ov.ownBlock≠some k∧k≠D.d)→On Z wX (w3.setCell ⟨D.d,14,none⟩ v3):=fun hz=>(A.fr.on (fun k hk=>⟨(hz k hk).1,(hz k hk).2.1⟩)).setCell (p:=⟨D.d,14,none⟩) (fun hk=>(hz _ hk).2.2 rfl) _
 have b3:=A.fr.heap h.box h.noRow
 refine⟨by have:=aI b3 14 v3;simpa using this,?_,?_,?_,?_⟩
 ·exact h.file.on (on3 (fun k hk=>⟨h.file.lies k hk,h.fileRow k hk,fun e=>h.noFile (e▸hk)⟩))
 ·have hr:=A.row
  have hne:=bD A.row b3 (by decide)
  have:w3.ownsRow 0 91 1 v3 (D.ts++[t]).length (kB (D.ts++[t])):=by
   rw [List.length_append,List.length_singleton,kB,List.map_append];exact hr
  exact bN this ((On.refl (fun k=>v3.ownBlock=some k) w3).setCell (p:=⟨D.d,14,none⟩) (fun hk=>hne hk) _) (fun k hk=>hk)
 ·intro x hx
  rcases List.mem_append.1 hx with hx|hx
  ·exact(h.each x hx).on (on3 (fun k hk=>⟨(h.each x hx).lies k hk,h.txRow (h.each x hx) k hk,fun e=>h.noTx hx (e▸hk)⟩))
  ·rw [List.mem_singleton] at hx
   subst hx
   exact ht.on (on3 (fun k hk=>⟨ht.lies k hk,h.txRow ht k hk,fun e=>hd (e▸hk)⟩))
 ·exact List.pairwise_append.2 ⟨h.apart,by simp,fun a ha b hb=>by rw [List.mem_singleton] at hb;subst hb;exact hn a ha⟩
abbrev qEo (b:Nat) (num:Int) (wr:Bool) (root:Nat):Tx:=⟨b,num,wr,root,[],none,0,.map none,[]⟩
theorem qVz {b β:Nat} {num:Int} {wr:Bool} {root:Nat} (h:w.heap[b]?=some (txO β (qEo b num wr root))):iX w β (qEo b num wr root):=⟨h,World.ownsRow_nil _ _ _ _,.inl ⟨rfl,rfl⟩⟩
theorem qAz {num:Int} {wr:Bool} {root:Nat} {k:Nat} (h:fpT (qEo b num wr root) k):k=b:=by
 rcases h with h|h|h
 ·exact h
 ·simp [Value.ownBlock] at h
 ·cases h
theorem qUh {P:Program} {c:Code} {K:Act→World→Prop} {Q:Exit→Act→World→Prop} {a:Act}  (h:c.wp P (Exit.then K (fun _ _ _=>False)) a w):c.wp P (Exit.then K Q) a w :=
 Code.wp_mono (fun e a w h=>by cases e<;>first|exact h|exact h.elim) h
theorem qWl:(Tryz.prog.info? 91).map (fun i=>(i.zero,i.size,i.bytes))=some (some (.pointer none),1,8):=by kernel_rfl
theorem qUe (D:Db) (wr:Bool) (w:World) (h:aS w 0 D) (hn:D.ts.length<8) (hl0:0≤D.last) (hl1:D.last<1000000000) :
  Calls Tryz.prog 18 #[.pointer (some ⟨D.d,0,none⟩),.bool wr] w fun e w'=>e=.returned (.tuple #[.int .i64 (D.last+1),.int .i64 0]) ∧
   ∃ b ov',aS w' 0 { D with last:=D.last+1,ov:=ov',ts:=D.ts++[qEo b (D.last+1) wr D.root] }∧Fr (fpD D) w w'∧w.heap.size≤b∧∀ k,ov'.ownBlock=some k→D.ov.ownBlock=some k∨w.heap.size≤k:=by
 obtain⟨d,β,sv,lv,fs,ver,root,aroot,ka,ia,ea,kc,ic,ec,failed,last,ov,ts⟩:=D
 dsimp only at hn hl0 hl1 ⊢
 have hbox:w.heap[d]?=some (dbO 0 ⟨d,β,sv,lv,fs,ver,root,aroot,ka,ia,ea,kc,ic,ec,failed,last,ov,ts⟩):=h.box
 obtain⟨c0,c1,c2,c3,c4,c5,c6,c7,c8,c9,c10,c11,c12,c13,c14⟩:=eS hbox
 have f0:w.frozen? ⟨d,0,none⟩=false:=aJ hbox 0
 obtain⟨W1,hW1⟩:=nM (w.setCell ⟨d,0,none⟩ (.int .i32 1))
 have h1:=h.lock (st':=1)
 rw [hW1] at h1
 have hbox1:W1.heap[d]?=some (dbO 1 ⟨d,β,sv,lv,fs,ver,root,aroot,ka,ia,ea,kc,ic,ec,failed,last,ov,ts⟩):=h1.box
 obtain⟨d0,d1,d2,d3,d4,d5,d6,d7,d8,d9,d10,d11,d12,d13,d14⟩:=eS hbox1
 have g0:=aJ hbox1
 obtain⟨W2,hW2⟩:=nM (W1.setCell ⟨d,13,none⟩ (.int .i64 (last+1)))
 have hbox2:W2.heap[d]?=some (dbO 1 ⟨d,β,sv,lv,fs,ver,root,aroot,ka,ia,ea,kc,ic,ec,failed,last+1,ov,ts⟩):=by rw [← hW2];have:=aI hbox1 13 (.int .i64 (last+1));simpa using this
 have h2:aS W2 1 ⟨d,β,sv,lv,fs,ver,root,aroot,ka,ia,ea,kc,ic,ec,failed,last+1,ov,ts⟩:=h1.rebox (hW2▸(Fr.refl (Bl.one d) W1).setCell (p:=⟨d,13,none⟩) (.inl rfl) _) rfl rfl rfl rfl rfl rfl rfl hbox2
 have F2:Fr (fpD ⟨d,β,sv,lv,fs,ver,root,aroot,ka,ia,ea,kc,ic,ec,failed,last,ov,ts⟩) w W2:=hW2▸(hW1▸(Fr.refl _ w).setCell (p:=⟨d,0,none⟩) (.inl (.inl rfl)) _:Fr _ w W1).setCell (p:=⟨d,13,none⟩) (.inl (.inl rfl)) _
 obtain⟨k0,k1,k2,k3,k4,k5,k6,k7,k8,k9,k10,k11,k12,k13,k14⟩:=eS hbox2
 have hadd:IntKind.i64.wrap (last+1)=last+1:=by rw [IntKind.wrap_i64];omega
 have hnb:((ts.length:Int)==8)=false:=by simp;omega
 obtain⟨oa,oc,hov⟩:=aT h.row
 dsimp only at hov
 subst hov
 have HH:Hid (aS W2 1 ⟨d,β,sv,lv,fs,ver,root,aroot,ka,ia,ea,kc,ic,ec,failed,last+1,.slice oa ts.length oc,ts⟩):=h2
 have HF:Hid (Fr (fpD ⟨d,β,sv,lv,fs,ver,root,aroot,ka,ia,ea,kc,ic,ec,failed,last,.slice oa ts.length oc,ts⟩) w W2):=F2
 have dlt:d<W2.heap.size:=(Array.getElem?_eq_some_iff.1 hbox2).1
 clear h h1 hbox hbox1 h2 F2
 go_enter_defers Tryz.func18,Tryz.ntmps18
 go_wp2_with (go_at_call 37;refine(lock_free xJ ⟨d,0,none⟩ _ c0 f0).mono ?_;rintro e w' ⟨rfl,hw'⟩;rw [hW1] at hw';subst w')
 clear c0 c1 c2 c3 c4 c5 c6 c7 c8 c9 c10 c11 c12 c13 c14 d0 d1 d2 d3 d4 d5 d6 d7 d8 d9 d10 d11 d12 d13 d14 k0 k1 k3 k4 k6 k7 k8 k9 k10 k11 k12
 refine qUh ?_
 go_region_law (first
  | (go_simp;go_at_call 39;refine(lF d β root _ (by simpa using k2)).mono ?_;rintro e wt ⟨rfl,hbt⟩;have Ft:Fr Bl.none W2 wt:=(Fr.refl _ _).drew.trans (Fr.of_below hbt);have bt:=Ft.heap hbox2 (fun h=>h);obtain⟨p0,p1,p2,p3,p4,p5,p6,p7,p8,p9,p10,p11,p12,p13,p14⟩:=eS bt;clear p0 p1 p2 p3 p4 p5 p6 p7 p8 p9 p10 p11 p12;obtain⟨WX,hWX⟩:=nM (wt.alloc (.cells #[.int .i64 (last+1),.bool wr,.pointer (some ⟨β,0,none⟩),.int .i64 root,.slice none 0 0,.map none] 99));have bX:WX.heap[d]?=some (dbO 1 ⟨d,β,sv,lv,fs,ver,root,aroot,ka,ia,ea,kc,ic,ec,failed,last+1,.slice oa ts.length oc,ts⟩):=hWX▸aF _ bt;obtain⟨q0,q1,q2,q3,q4,q5,q6,q7,q8,q9,q10,q11,q12,q13,q14⟩:=eS bX;clear q0 q1 q2 q3 q4 q5 q6 q7 q8 q9 q10 q11 q12 q13;have bY:=aF (.cells #[.pointer (some ⟨wt.heap.size,0,none⟩)] 91) bX;obtain⟨r0,r1,r2,r3,r4,r5,r6,r7,r8,r9,r10,r11,r12,r13,r14⟩:=eS bY;clear r0 r1 r2 r3 r4 r5 r6 r7 r8 r9 r10 r11 r12 r13;have HX:aS WX 1 ⟨d,β,sv,lv,fs,ver,root,aroot,ka,ia,ea,kc,ic,ec,failed,last+1,.slice oa ts.length oc,ts⟩:=HH.out.on ((Ft.trans (hWX▸(Fr.refl _ wt).alloc _)).on (fun k hk=>⟨HH.out.lies k hk,fun h=>h⟩)))
  | (refine jP WX rfl (.tmp 30) (.tmp 45) 86 91 _ 1 8 rfl Tryz.underlying86 qWl rfl (by decide) (.slice oa ts.length oc) ts.length (kB ts) (by simp [Act.eval,Act.put]) HX.row [.pointer (some ⟨wt.heap.size,0,none⟩)] (by simp [Act.eval,Act.put]) rfl (by simp [Value.oneCell']) (by omega) (by omega) ?_;intro v3 w3 A3;obtain⟨g3,k3,rfl⟩:=A3.shape (by decide);have b3:=A3.fr.heap bX (bD HX.row bX (by decide));obtain⟨m0,m1,m2,m3,m4,m5,m6,m7,m8,m9,m10,m11,m12,m13,m14⟩:=eS b3;have mfr:=aJ b3;clear m0 m1 m2 m3 m4 m5 m6 m7 m8 m9 m10 m11 m12))
 all_goals
  have hclt:d<w3.heap.size:=(Array.getElem?_eq_some_iff.1 b3).1
  have xX:WX.heap[wt.heap.size]?=some (txO β (qEo wt.heap.size (last+1) wr root)):=hWX▸aB wt _
  have hTx:iX WX β (qEo wt.heap.size (last+1) wr root):=qVz xX
  have hbtd:d<wt.heap.size:=(Array.getElem?_eq_some_iff.1 bt).1
  have HD:=HX.pushed hTx (fun h=>by have:=qAz h;dsimp only at this;omega) (fun x hx k hk hk'=>by have h1:=HH.out.lies k (.inr (.inr (.inr ⟨x,hx,hk⟩)));have h2:=qAz hk';have h3:=Ft.size;omega) A3
  have HU:=HD.lock (st':=0)
  have u0:(w3.setCell ⟨d,14,none⟩ (.slice (some ⟨g3,0,none⟩) (ts.length+1) k3)).cell? ⟨d,0,none⟩=some (.int .i32 1):=(eS HD.box).1
  have u13:(w3.setCell ⟨d,14,none⟩ (.slice (some ⟨g3,0,none⟩) (ts.length+1) k3)).cell? ⟨d,13,none⟩=some (.int .i64 (last+1)):=(eS HD.box).2.2.2.2.2.2.2.2.2.2.2.2.2.1
  have uf:(w3.setCell ⟨d,14,none⟩ (.slice (some ⟨g3,0,none⟩) (ts.length+1) k3)).frozen? ⟨d,0,none⟩=false:=aJ HD.box 0
  obtain⟨W4,hW4⟩:=nM (w3.setCell ⟨d,14,none⟩ (.slice (some ⟨g3,0,none⟩) (ts.length+1) k3))
  rw [hW4] at u0 u13 uf HU
  have F4:Fr (fpD ⟨d,β,sv,lv,fs,ver,root,aroot,ka,ia,ea,kc,ic,ec,failed,last,.slice oa ts.length oc,ts⟩) w (W4.setCell ⟨d,0,none⟩ (.int .i32 0)):=by
   rw [← hW4]
   refine(((HF.out.trans (Ft.mono (fun _ h=>h.elim))).trans ((hWX▸(Fr.refl _ wt).alloc _:Fr (fpD ⟨d,β,sv,lv,fs,ver,root,aroot,ka,ia,ea,kc,ic,ec,failed,last,.slice oa ts.length oc,ts⟩) wt WX))).trans (A3.fr.mono (fun k hk=>.inl (.inr (.inr (.inl hk)))))).setCell (p:=⟨d,14,none⟩) (.inl (.inl rfl)) _ |>.setCell (p:=⟨d,0,none⟩) (.inl (.inl rfl)) _
  have hsz:w.heap.size≤wt.heap.size:=Nat.le_trans HF.out.size Ft.size
  have hlies:∀ k,(Value.slice (some ⟨g3,0,none⟩) (ts.length+1) k3).ownBlock=some k→(Value.slice oa ts.length oc).ownBlock=some k∨w.heap.size≤k:=fun k hk=>(A3.lies k hk).imp id (fun h=>by have:wt.heap.size≤WX.heap.size:=hWX▸(by simp);omega)
  have HU':=HU
  clear HU HD hTx xX HX HH HF
  go_wp2
  refine leaves_cons (f:=38) (args:=#[.pointer (some ⟨d,0,none⟩)]) (by simp) (by simp [go_sem]) ?_
  refine(unlock_deferred xJ ⟨d,0,none⟩ .returning _ (by simpa using u0) (by simpa using uf)).mono ?_
  rintro e u' w'' ⟨rfl,rfl,rfl⟩
  exact⟨_,results_tmp2 rfl _ _ _,rfl,wt.heap.size,_,HU',F4,hsz,hlies⟩
end Go.Proofs.YtfnhmpcpeahfkaaGreat.Tree
