/-
  Joined: Find, Dele, St, PSee.
-/
import Derived.Test.YtfnhmpcpeahfkaaGreatU49
set_option linter.unusedSimpArgs false
set_option linter.unusedVariables false
set_option maxRecDepth 100000
set_option maxHeartbeats 8000000
namespace Go.Proofs.YtfnhmpcpeahfkaaGreat.Tree
open Go.RowKit Go.Shelf Pages
attribute [local go_sem] Oper.semAt_some
theorem nQ {P:Program} {fn:Func} {p q:Tmp} {ty ty':TypeId} (h:fn.results=#[.cell p ty,.cell q ty']) (tmps:Array Value) (w:World) (g g':Nat) (t t':TypeId) (cs:Array Value) (v:Value) (d:TypeDesc)
  (hp:tmps.getD p undef=.pointer (some ⟨g,0,none⟩)) (hq:tmps.getD q undef=.pointer (some ⟨g',0,none⟩)) (hg:w.heap[g]?=some (.cells cs t)) (hg':w.heap[g']?=some (.cells #[v] t'))
  (hu:P.underlying ty=some d) (hd:(match d with|.struct _|.array _ _=>true|_=>false)=true) (hi:(P.info? ty).map (·.size)=some cs.size) (hu':∀ w,(isAgg ty').run P w=.ok false w) :
  (results fn tmps).run P w=.ok (.tuple #[.agg cs,v]) w:=by
 have hp':tmps[p]?.getD undef=.pointer (some ⟨g,0,none⟩):=by simpa using hp
 have hq':tmps[q]?.getD undef=.pointer (some ⟨g',0,none⟩):=by simpa using hq
 have c0:w.cell? ⟨g',0,none⟩=some v:=by simp [World.cell?,hg']
 have h2:(loadVar ty' ⟨g',0,none⟩).run P w=.ok v w:=by
  simp [loadVar,hu',go_sem,c0]
 simp [results,h,hp',hq',asAddr,run_loadVar_row w g t ty cs (0,0) d hg hu hd hi,h2]
abbrev mJ:Obj:=.cells #[.string ⟨#[]⟩,.string ⟨#[]⟩,.int .i64 0,.int .i64 0] 108
abbrev oG (b:Bool):Obj:=.cells #[.bool b] 4
theorem yB {w:World} {β:Nat} {a0 a1 a2 a3:Value} {t:TypeId} (h:w.heap[β]?=some (.cells #[a0,a1,a2,a3] t)):w.cell? ⟨β,0,none⟩=some a0∧w.cell? ⟨β,1,none⟩=some a1∧w.cell? ⟨β,2,none⟩=some a2∧w.cell? ⟨β,3,none⟩=some a3:=by
 simp [World.cell?,h]
theorem qWz (β:Nat) (root:Int) (ca:Option Addr) (cc:Nat) (cs:List Ch) (key:ByteArray) (S:Bl) (w:World) (hR:aL w S ca (cs.flatMap Ch.cells)) (hS:∀ b,S b→b<w.heap.size) (hr:cI cs) (hn:cs.length≤1000) (hc:cs.length≤cc) (hf:fnd cs key=true) (i:Nat) (hi:cL cs key=i) (hil:i<cs.length) (c:Ch) (hci:cs[i]=c) :
  Calls Tryz.prog 49 #[.agg #[.pointer (some ⟨β,0,none⟩),.int .i64 root,.slice ca cs.length cc],.string key] w fun e w'=>e=.returned (.tuple #[.agg #[.string c.key,.string c.val,.int .i64 c.val.size,.int .i64 0],.bool (!c.gone)])∧Below w.heap.size w w':=by
 obtain⟨W1,hW1⟩:=nM (((w.alloc (.cells #[.pointer (some ⟨β,0,none⟩),.int .i64 root,.slice ca cs.length cc] 95)).alloc mJ).alloc (oG false))
 have B1:Below w.heap.size w W1:=hW1▸(((Below.refl _ _).alloc (Nat.le_refl _) _).alloc (by simp) _).alloc (by simp;omega) _
 have t1:W1.heap[w.heap.size]?=some (.cells #[.pointer (some ⟨β,0,none⟩),.int .i64 root,.slice ca cs.length cc] 95):=hW1▸aF _ (aF _ (aB w _))
 have s1:W1.heap[w.heap.size+1]?=some mJ:=by
  rw [← hW1];refine aF _ ?_;have:=aB (w.alloc (.cells #[.pointer (some ⟨β,0,none⟩),.int .i64 root,.slice ca cs.length cc] 95)) mJ;simpa using this
 have r1:W1.heap[w.heap.size+1+1]?=some (oG false):=by
  rw [← hW1];have:=aB ((w.alloc (.cells #[.pointer (some ⟨β,0,none⟩),.int .i64 root,.slice ca cs.length cc] 95)).alloc mJ) (oG false);simpa using this
 have z1:W1.heap.size=w.heap.size+3:=by rw [← hW1];simp
 have hSe:=lL ca cc cs key S W1 (hR.on (On.of_below B1 hS)) (fun b hb=>Nat.lt_of_lt_of_le (hS b hb) B1.size) hr (by omega) hc
 rw [hf,hi] at hSe
 have HK:Hid (∀ X,Below W1.heap.size W1 X→X.cell? ⟨w.heap.size,2,none⟩=some (.slice ca cs.length cc)∧X.heap[w.heap.size+1]?=some mJ∧X.heap[w.heap.size+1+1]?=some (oG false)∧Below w.heap.size w X∧∃ b off,ca=some ⟨b,off,none⟩∧b<w.heap.size∧X.cell? ⟨b,off+i * 3,none⟩=some (.string c.key)∧X.cell? ⟨b,off+i * 3+1,none⟩=some (.string c.val)∧X.cell? ⟨b,off+i * 3+2,none⟩=some (.bool c.gone)):=by
  intro X hX
  have hb:=B1.trans (hX.mono B1.size)
  have h1:=(hX.block _ (by omega)).trans t1
  obtain⟨b,off,e1,e2,e3,e4,e5⟩:=(hR.on (On.of_below hb hS)).ch hil
  rw [hci] at e3 e4 e5
  exact⟨(dM h1).2.2,(hX.block _ (by omega)).trans s1,(hX.block _ (by omega)).trans r1,hb,b,off,e1,hS b e2,e3,e4,e5⟩
 obtain⟨m2,_,_,_,b,off,hca,hbl,_⟩:=HK.out W1 (Below.refl _ _)
 subst hca
 have HK2:Hid (∀ X,Below W1.heap.size W1 X→X.cell? ⟨w.heap.size,2,none⟩=some (.slice (some ⟨b,off,none⟩) cs.length cc)∧X.heap[w.heap.size+1]?=some mJ∧X.heap[w.heap.size+1+1]?=some (oG false)∧Below w.heap.size w X∧X.cell? ⟨b,off+i * 3,none⟩=some (.string c.key)∧X.cell? ⟨b,off+i * 3+1,none⟩=some (.string c.val)∧X.cell? ⟨b,off+i * 3+2,none⟩=some (.bool c.gone)):=by
  intro X hX
  obtain⟨h1,h2,h3,h4,b',off',h5,h6,h7⟩:=HK.out X hX
  simp only [Option.some.injEq,Addr.mk.injEq,and_true] at h5
  obtain⟨rfl,rfl⟩:=h5
  exact⟨h1,h2,h3,h4,h7⟩
 have hEn:=fun X=>qFu c X
 have hii:(i:Int)<(cs.length:Int):=by omega
 clear HK hR hi hci hf
 go_enter Tryz.func49,Tryz.ntmps49
 go_wp2_with (go_at_call 72;(with_reducible refine Calls.mono hSe ?_);rintro e X1 ⟨rfl,hX1⟩;obtain⟨m2,xs,xr,hb1,k0,k1,k2⟩:=HK2.out X1 hX1)
 obtain⟨q0,q1,q2,q3⟩:=yB xs
 have qfr:=aJ xs
 have p0:=dE xr
 have pfr:=aJ xr
 go_region_held3 (fun X=>X.cell? ⟨w.heap.size,2,none⟩=some (.slice (some ⟨b,off,none⟩) cs.length cc)∧X.cell? ⟨b,off+i * 3,none⟩=some (.string c.key)∧X.cell? ⟨b,off+i * 3+1,none⟩=some (.string c.val)∧X.cell? ⟨b,off+i * 3+2,none⟩=some (.bool c.gone))
  ((first|(with_reducible exact⟨m2,k0,k1,k2⟩)|(refine⟨?_,?_,?_,?_⟩<;>(repeat (with_reducible refine bV (by omega) ?_))<;>(first|(with_reducible exact m2)|(with_reducible exact k0)|(with_reducible exact k1)|(with_reducible exact k2)))|(simp [m2,k0,k1,k2])))
  (first
   | (go_at_call 73;(with_reducible refine Calls.mono (hEn _) ?_);rintro e X2 ⟨rfl,hX2⟩;have B2:Below W1.heap.size W1 X2:=hX1.drew.trans (hX2.mono hX1.size);obtain⟨m2,xs,xr,hb1,k0,k1,k2⟩:=HK2.out X2 B2;obtain⟨q0,q1,q2,q3⟩:=yB xs;have qfr:=aJ xs;have p0:=dE xr;have pfr:=aJ xr))
 all_goals
  have HE1:=aI (aI (aI (aI xs 0 (.string c.key)) 1 (.string c.val)) 2 (.int .i64 c.val.size)) 3 (.int .i64 0)
  obtain⟨X3,hX3⟩:=nM ((((X2.setCell ⟨w.heap.size+1,0,none⟩ (.string c.key)).setCell ⟨w.heap.size+1,1,none⟩ (.string c.val)).setCell ⟨w.heap.size+1,2,none⟩ (.int .i64 c.val.size)).setCell ⟨w.heap.size+1,3,none⟩ (.int .i64 0))
  rw [hX3] at HE1 ⊢
  have f3:Fr (Bl.one (w.heap.size+1)) X2 X3:=hX3▸((((Fr.refl (Bl.one (w.heap.size+1)) X2).setCell (p:=⟨w.heap.size+1,0,none⟩) (.inl rfl) _).setCell (p:=⟨w.heap.size+1,1,none⟩) (.inl rfl) _).setCell (p:=⟨w.heap.size+1,2,none⟩) (.inl rfl) _).setCell (p:=⟨w.heap.size+1,3,none⟩) (.inl rfl) _
  have r3:=f3.heap xr (oN (by omega))
  have HB4:Below w.heap.size w (X3.setCell ⟨w.heap.size+1+1,0,none⟩ (.bool (!c.gone))):=(hb1.trans (f3.below hb1.size (fun k hk=>by simp only [Bl.one] at hk;omega))).setCell (p:=⟨w.heap.size+1+1,0,none⟩) (by show w.heap.size≤w.heap.size+1+1;omega) _
  have HR4:=aI r3 0 (.bool (!c.gone))
  have HE4:(X3.setCell ⟨w.heap.size+1+1,0,none⟩ (.bool (!c.gone))).heap[w.heap.size+1]?=some (.cells #[.string c.key,.string c.val,.int .i64 c.val.size,.int .i64 0] 108):=((Fr.refl (Bl.one (w.heap.size+1+1)) X3).setCell (p:=⟨w.heap.size+1+1,0,none⟩) (.inl rfl) _).heap (by simpa using HE1) (oN (by omega))
  obtain⟨X4,hX4⟩:=nM (X3.setCell ⟨w.heap.size+1+1,0,none⟩ (.bool (!c.gone)))
  rw [hX4] at HR4 HE4 HB4 ⊢
  clear hX4 hX3 HE1 r3 f3 q0 q1 q2 q3 p0 qfr pfr m2 k0 k1 k2
  go_wp2
  refine bodyPost_ret (v:=.tuple #[.agg #[.string c.key,.string c.val,.int .i64 c.val.size,.int .i64 0],.bool (!c.gone)]) ?_ rfl ⟨rfl,HB4⟩
  exact nQ (p:=4) (q:=5) rfl _ _ (w.heap.size+1) (w.heap.size+1+1) _ _ _ _ _ rfl rfl HE4 (by simpa using HR4) Tryz.underlying108 rfl (by kernel_rfl) (fun w=>by kernel_rfl)
theorem qXb {P:Program} {n:Nat} {fn:Func} {tmps:Array Value} {R:Ending→World→Prop} {B:Nat} {ds:List Deferred} {w:World} {p q:Nat} {ty ty':TypeId} (hr:fn.results=#[.cell p ty,.cell q ty']) (g g':Nat) (t t':TypeId) (cs:Array Value) (v:Value) (d:TypeDesc) (hp:tmps.getD p undef=.pointer (some ⟨g,0,none⟩)) (hq:tmps.getD q undef=.pointer (some ⟨g',0,none⟩)) (hg:w.heap[g]?=some (.cells cs t)) (hg':w.heap[g']?=some (.cells #[v] t'))
  (hu:P.underlying ty=some d) (hd:(match d with|.struct _|.array _ _=>true|_=>false)=true) (hi:(P.info? ty).map (·.size)=some cs.size) (hu':∀ w,(isAgg ty').run P w=.ok false w) (hm:Marks B ds w) (h:∀ w',kI B w w'→R (.returned (.tuple #[.agg cs,v])) w') :
  LeavesInM Fence.wide n P fn tmps R ds .returning w :=
 iR (by simp) hm (fun w' ht=>⟨_,nQ hr tmps w' g g' t t' cs v d hp hq (ht.cells _ _ _ _ hg) (ht.cells _ _ _ _ hg') hu hd hi hu',h w' ht⟩)
abbrev qXa (x:En):Obj:=.cells #[.string x.e.key,.string x.e.val,.int .i64 x.e.size,.int .i64 x.e.over] 108
def mA (key:ByteArray):Sp:=⟨key,key++⟨#[0]⟩⟩
theorem qTo (β:Nat) (sv lv:Value) (fs:Fs) (hl:(fs.life==0)=false) (root:Nat) (ca:Option Addr) (cc:Nat) (cs:List Ch) (key:ByteArray) (o:Option (Nat×T)) (hro:bF fs root o) (S:Bl) (w:World) (hf:aH w β sv lv fs) (hR:aL w S ca (cs.flatMap Ch.cells)) (hS:∀ b,S b→b<w.heap.size) (hr:cI cs) (hn:cs.length≤1000) (hc:cs.length≤cc) (hfd:fnd cs key=false) (hk:key.size≤1000) :
  Calls Tryz.prog 49 #[.agg #[.pointer (some ⟨β,0,none⟩),.int .i64 root,.slice ca cs.length cc],.string key] w fun e w'=>∃ E:Ent,e=.returned (.tuple #[.agg #[.string E.key,.string E.val,.int .i64 E.size,.int .i64 E.over],.bool (!(cK (mA key) o).isEmpty)])∧(∀ x xs,cK (mA key) o=x :: xs→E=x.e)∧Below w.heap.size w w':=by
 obtain⟨W1,hW1⟩:=nM (((w.alloc (.cells #[.pointer (some ⟨β,0,none⟩),.int .i64 root,.slice ca cs.length cc] 95)).alloc mJ).alloc (oG false))
 have B1:Below w.heap.size w W1:=hW1▸(((Below.refl _ _).alloc (Nat.le_refl _) _).alloc (by simp) _).alloc (by simp;omega) _
 have t1:W1.heap[w.heap.size]?=some (.cells #[.pointer (some ⟨β,0,none⟩),.int .i64 root,.slice ca cs.length cc] 95):=hW1▸aF _ (aF _ (aB w _))
 have s1:W1.heap[w.heap.size+1]?=some mJ:=by
  rw [← hW1];refine aF _ ?_;have:=aB (w.alloc (.cells #[.pointer (some ⟨β,0,none⟩),.int .i64 root,.slice ca cs.length cc] 95)) mJ;simpa using this
 have r1:W1.heap[w.heap.size+1+1]?=some (oG false):=by
  rw [← hW1];have:=aB ((w.alloc (.cells #[.pointer (some ⟨β,0,none⟩),.int .i64 root,.slice ca cs.length cc] 95)).alloc mJ) (oG false);simpa using this
 have z1:W1.heap.size=w.heap.size+3:=by rw [← hW1];simp
 have hSe:=lL ca cc cs key S W1 (hR.on (On.of_below B1 hS)) (fun b hb=>Nat.lt_of_lt_of_le (hS b hb) B1.size) hr (by omega) hc
 rw [hfd] at hSe
 obtain⟨i,hi⟩:=nM (cL cs key)
 rw [hi] at hSe
 obtain⟨m0,m1,m2⟩:=dM t1
 have HQ:Hid (cK (mA key) o=cK ⟨key,key++⟨#[0]⟩⟩ o):=rfl
 have hSC:=fun X=>wV root β ca cs.length cc ⟨key,key++⟨#[0]⟩⟩ X
 clear hi
 refine(callsIn_wide (n:=0)).1 (callsIn_of_wp_marks Tryz.func49 rfl trivial ?_ rfl)
 simp only [Tryz.ntmps49,List.size_toArray,List.length_cons,List.length_nil,Nat.reduceAdd,Nat.reduceSub,Array.replicate_succ,Array.replicate_zero,List.push_toArray,List.append_toArray,List.nil_append,List.cons_append]
 gi_wp2_with (first
  | (refine⟨trivial,rfl,?_⟩;gi_at_call 72;refine(callsIn_wide.2 hSe).mono ?_;clear hSe;rintro e X1 ⟨rfl,hX1⟩;have t2:=(hX1.block _ (show w.heap.size<W1.heap.size by omega)).trans t1;obtain⟨m0,m1,m2⟩:=dM t2;have hSX:=hSC X1)
  | (refine⟨trivial,rfl,?_⟩;gi_at_call 74;refine(callsIn_wide.2 hSX).mono ?_;clear hSX;rintro e X2 ⟨rfl,xt,xq,hX2⟩))
 have z2:=hX1.size
 have z3:=hX2.size
 have BX2:Below W1.heap.size W1 X2:=hX1.trans (hX2.mono z2)
 have Bw2:Below w.heap.size w X2:=B1.trans (BX2.mono B1.size)
 have s2:=(BX2.block _ (show w.heap.size+1<W1.heap.size by omega)).trans s1
 have r2:=(BX2.block _ (show w.heap.size+1+1<W1.heap.size by omega)).trans r1
 have hf2:aH X2 β sv lv fs:=hf.on (On.of_below Bw2 hf.lies)
 have l1:=(Array.getElem?_eq_some_iff.1 xt).1
 have l2:=(Array.getElem?_eq_some_iff.1 xq).1
 let Rd:Bl:=fun k=>k=X1.heap.size∨k=X1.heap.size+1∨fpF β sv lv k
 have hseq:=wU β sv lv fs hl root ca cs.length cc ⟨key,key++⟨#[0]⟩⟩ o hro X1.heap.size (X1.heap.size+1) Rd X2 xt xq hf2 (.inl rfl) (.inr (.inl rfl)) (fun k hk=>.inr (.inr hk))
 obtain⟨xs,hxs⟩:=nM (cK ⟨key,key++⟨#[0]⟩⟩ o)
 have HXS:Hid (cK (mA key) o=xs):=HQ.out.trans hxs
 rw [hxs] at hseq
 let N1:=w.heap.size+1
 let N2:=w.heap.size+1+1
 let I:List En→Bl→World→Prop:=fun pre Y W=>pre=[]∧W.heap[N1]?=some mJ∧W.heap[N2]?=some (oG false)∧(∀ k,Y k↔k=N1∨k=N2)
 let Ix:Code→List En→Bl→World→Prop:=fun c pre Y W=>c=.ret∧∃ x,pre=[x]∧W.heap[N1]?=some (qXa x)∧W.heap[N2]?=some (oG true)∧(∀ k,Y k↔k=N1∨k=N2)
 refine eO (P:=Tryz.prog) (Has:=oH) (Rd:=Rd) rfl (enters_of Tryz.func104 (by kernel_rfl) rfl) hseq (fun x args S W hH=>by rw [show args=_ from hH];rfl) I Ix ?_ ?_ ?_ ?_ (fun k=>k=N1∨k=N2) ⟨rfl,s2,r2,fun k=>Iff.rfl⟩ ?_ ?_ ?_ ?_
 ·rintro pre Y A B ⟨h0,h1,h2,h3⟩ ho
  exact⟨h0,ho.heap h1 ((h3 _).2 (.inl rfl)),ho.heap h2 ((h3 _).2 (.inr rfl)),h3⟩
 ·rintro c pre Y A B ⟨hc,x,h0,h1,h2,h3⟩ ho
  exact⟨hc,x,h0,ho.heap h1 ((h3 _).2 (.inl rfl)),ho.heap h2 ((h3 _).2 (.inr rfl)),h3⟩
 ·rintro pre Y A ⟨h0,h1,h2,h3⟩ k hk
  rcases (h3 k).1 hk with rfl|rfl
  ·exact(Array.getElem?_eq_some_iff.1 h1).1
  ·exact(Array.getElem?_eq_some_iff.1 h2).1
 ·rintro c pre Y A ⟨hc,x,h0,h1,h2,h3⟩ k hk
  rcases (h3 k).1 hk with rfl|rfl
  ·exact(Array.getElem?_eq_some_iff.1 h1).1
  ·exact(Array.getElem?_eq_some_iff.1 h2).1
 ·rintro k (rfl|rfl|hk)
  ·exact⟨fun h=>by simp only [N1,N2] at h;omega,by omega⟩
  ·exact⟨fun h=>by simp only [N1,N2] at h;omega,by omega⟩
  ·have:=hf.lies k hk
   exact⟨fun h=>by simp only [N1,N2] at h;omega,by omega⟩
 ·rintro l pre x rest args S Y' W hx ⟨rfl,h1,h2,h3⟩ hH hSS hFW hGW hl0 hl1 hl2 ⟨r,hr⟩
  have hH':args=#[.agg #[.string x.e.key,.string x.e.val,.int .i64 x.e.size,.int .i64 x.e.over]]:=hH
  subst hH'
  clear hx
  unfold gL
  gi_wp2
  refine⟨(Fr.refl _ W).alloc _,?_⟩
  intro W₂ hT
  have x2:=hT.heap (k:=W.heap.size) (aB W (qXa x)) (Nat.ne_of_gt hl1)
  obtain⟨m0,m1,m2,m3⟩:=gK x2
  have aW:Fr Bl.none W (W.alloc (qXa x)):=(Fr.refl _ W).alloc _
  have fX:Fr (Bl.one l) W W₂:=(aW.mono (fun _ h=>h.elim)).trans hT.fr
  have e1:W₂.heap[w.heap.size+1]?=some mJ:=fX.heap h1 (fun h=>by simp only [Bl.one] at h;exact hl2 ((h3 _).2 (.inl h.symm)))
  have e2:W₂.heap[w.heap.size+1+1]?=some (oG false):=fX.heap h2 (fun h=>by simp only [Bl.one] at h;exact hl2 ((h3 _).2 (.inr h.symm)))
  obtain⟨q0,q1,q2,q3⟩:=yB e1
  have p0:=dE e2
  have qfr:=aJ e1
  have pfr:=aJ e2
  have n1:w.heap.size+1<W.heap.size:=(Array.getElem?_eq_some_iff.1 h1).1
  have n2:w.heap.size+1+1<W.heap.size:=(Array.getElem?_eq_some_iff.1 h2).1
  have HE1:=aI (aI (aI (aI e1 0 (.string x.e.key)) 1 (.string x.e.val)) 2 (.int .i64 x.e.size)) 3 (.int .i64 x.e.over)
  obtain⟨X3,hX3⟩:=nM ((((W₂.setCell ⟨w.heap.size+1,0,none⟩ (.string x.e.key)).setCell ⟨w.heap.size+1,1,none⟩ (.string x.e.val)).setCell ⟨w.heap.size+1,2,none⟩ (.int .i64 x.e.size)).setCell ⟨w.heap.size+1,3,none⟩ (.int .i64 x.e.over))
  have f3:Fr (Bl.one (w.heap.size+1)) W₂ X3:=hX3▸((((Fr.refl (Bl.one (w.heap.size+1)) W₂).setCell (p:=⟨w.heap.size+1,0,none⟩) (.inl rfl) _).setCell (p:=⟨w.heap.size+1,1,none⟩) (.inl rfl) _).setCell (p:=⟨w.heap.size+1,2,none⟩) (.inl rfl) _).setCell (p:=⟨w.heap.size+1,3,none⟩) (.inl rfl) _
  have r3:=f3.heap e2 (oN (by omega))
  have HR4:=aI r3 0 (.bool true)
  have f4:Fr (Bl.one (w.heap.size+1+1)) X3 (X3.setCell ⟨w.heap.size+1+1,0,none⟩ (.bool true)):=(Fr.refl (Bl.one (w.heap.size+1+1)) X3).setCell (p:=⟨w.heap.size+1+1,0,none⟩) (.inl rfl) _
  have HE4:(X3.setCell ⟨w.heap.size+1+1,0,none⟩ (.bool true)).heap[w.heap.size+1]?=some (qXa x):=f4.heap (by rw [← hX3];simpa using HE1) (oN (by omega))
  have HH:Hid (qZz I Ix ([]++[x]) Y' W₂ .ret { tmps:=#[],defers:=[] } (X3.setCell ⟨w.heap.size+1+1,0,none⟩ (.bool true))):=by
   refine⟨fun k=>k=N1∨k=N2,⟨rfl,x,rfl,HE4,by simpa using HR4,fun k=>Iff.rfl⟩,?_,?_⟩
   ·refine(f3.mono (fun k hk=>.inl ((h3 k).2 (.inl (by simp only [Bl.one] at hk;exact hk))))).trans (f4.mono (fun k hk=>.inl ((h3 k).2 (.inr (by simp only [Bl.one] at hk;exact hk)))))
   ·rintro k (rfl|rfl)
    ·exact .inl ((h3 _).2 (.inl rfl))
    ·exact .inl ((h3 _).2 (.inr rfl))
  rw [← hX3] at HH
  clear HE1 HR4 HE4 f3 f4 r3 hX3
  gi_wp2
  exact HH.out
 ·rintro D Y' W hD hYD ⟨rfl,h1,h2,h3⟩ hFW hGW hDW
  have e1:W.heap[w.heap.size+1]?=some mJ:=h1
  have e2:W.heap[w.heap.size+1+1]?=some (oG false):=h2
  obtain⟨q0,q1,q2,q3⟩:=yB e1
  have p0:=dE e2
  have qfr:=aJ e1
  have pfr:=aJ e2
  have hm:Marks w.heap.size [mk D] W:=(Marks.nil w.heap.size X2).cons (fun D' _ h=>hFW.heap h (fun e=>by rcases e with rfl|rfl<;>simp_all [N1,N2])) (by omega) hDW hD
  gi_wp2
  rw [cJ e1 (i:=0) (v:=.string ⟨#[]⟩) rfl,cJ e1 (i:=1) (v:=.string ⟨#[]⟩) rfl,cJ e1 (i:=2) (v:=.int .i64 0) rfl,cJ e1 (i:=3) (v:=.int .i64 0) rfl,cJ e2 (i:=0) (v:=.bool false) rfl]
  refine qXb (p:=4) (q:=5) rfl (w.heap.size+1) (w.heap.size+1+1) _ _ _ _ _ rfl rfl e1 e2 Tryz.underlying108 rfl (by kernel_rfl) (fun w=>by kernel_rfl) hm ?_
  intro w' ht'
  refine⟨⟨⟨#[]⟩,⟨#[]⟩,0,0⟩,by rw [HXS.out];rfl,fun x xs h=>(by rw [HXS.out] at h;cases h),?_⟩
  exact(((Fr.of_below Bw2).trans (hFW.mono (fun k hk=>.inl hk))).took ht' (Nat.le_refl _)).below (Nat.le_refl _) (fun k hk=>by rcases hk with rfl|rfl<;>simp only [N1,N2]<;>omega)
 ·rintro D c pre Y' W hD hYD hp hne ⟨rfl,x,rfl,h1,h2,h3⟩ hFW hGW hDW
  have e1:W.heap[w.heap.size+1]?=some (qXa x):=h1
  have e2:W.heap[w.heap.size+1+1]?=some (oG true):=h2
  have hm:Marks w.heap.size [mk D] W:=(Marks.nil w.heap.size X2).cons (fun D' _ h=>hFW.heap h (fun e=>by rcases e with rfl|rfl<;>simp_all [N1,N2])) (by omega) hDW hD
  obtain⟨rest,hrest⟩:=hp
  gi_wp2
  refine qXb (p:=4) (q:=5) rfl (w.heap.size+1) (w.heap.size+1+1) _ _ _ _ _ rfl rfl e1 e2 Tryz.underlying108 rfl (by kernel_rfl) (fun w=>by kernel_rfl) hm ?_
  intro w' ht'
  refine⟨x.e,by rw [HXS.out,← hrest];rfl,fun y ys h=>(by rw [HXS.out,← hrest] at h;simp at h;rw [h.1]),?_⟩
  exact(((Fr.of_below Bw2).trans (hFW.mono (fun k hk=>.inl hk))).took ht' (Nat.le_refl _)).below (Nat.le_refl _) (fun k hk=>by rcases hk with rfl|rfl<;>simp only [N1,N2]<;>omega)
def iA (o:Option (Nat×T)) (cs:List Ch) (key:ByteArray):Bool:=if fnd cs key=true then (match cs[cL cs key]? with|some c=>!c.gone|none=>false) else !(cK (mA key) o).isEmpty
theorem qKw (β:Nat) (sv lv:Value) (fs:Fs) (hl:(fs.life==0)=false) (root:Nat) (ca:Option Addr) (cc:Nat) (cs:List Ch) (key:ByteArray) (o:Option (Nat×T)) (hro:bF fs root o) (S:Bl) (w:World) (hf:aH w β sv lv fs) (hR:aL w S ca (cs.flatMap Ch.cells)) (hS:∀ b,S b→b<w.heap.size) (hr:cI cs) (hn:cs.length≤1000) (hc:cs.length≤cc) (hk:key.size≤1000) :
  Calls Tryz.prog 49 #[.agg #[.pointer (some ⟨β,0,none⟩),.int .i64 root,.slice ca cs.length cc],.string key] w fun e w'=>∃ E:Ent,e=.returned (.tuple #[.agg #[.string E.key,.string E.val,.int .i64 E.size,.int .i64 E.over],.bool (iA o cs key)])∧(fnd cs key=true→∀ c,cs[cL cs key]?=some c→E=(chE c).e)∧(fnd cs key=false→∀ x xs,cK (mA key) o=x :: xs→E=x.e)∧Below w.heap.size w w':=by
 by_cases hf':fnd cs key=true
 ·obtain⟨h0,_⟩:=tG hf' hr
  refine(qWz β root ca cc cs key S w hR hS hr hn hc hf' _ rfl h0 _ rfl).mono ?_
  rintro e w' ⟨rfl,hb⟩
  refine⟨(chE cs[cL cs key]).e,?_,fun _ c hc=>?_,(fun h=>by rw [hf'] at h;cases h),hb⟩
  ·unfold iA
   rw [if_pos hf',List.getElem?_eq_getElem h0]
   rfl
  ·rw [List.getElem?_eq_getElem h0] at hc
   cases hc;rfl
 ·have hf2:fnd cs key=false:=by simpa using hf'
  refine(qTo β sv lv fs hl root ca cc cs key o hro S w hf hR hS hr hn hc hf2 hk).mono ?_
  rintro e w' ⟨E,rfl,hE,hb⟩
  refine⟨E,?_,fun h=>absurd h hf',fun _=>hE,hb⟩
  unfold iA
  rw [if_neg hf']
end Go.Proofs.YtfnhmpcpeahfkaaGreat.Tree
namespace Go.Proofs.YtfnhmpcpeahfkaaGreat.Tree
open Go.RowKit Pages
variable {K:List ByteArray} {fs:Fs} {o:Option (Nat×T)} {w wq:World}
def vAw (D:Db) (i:Nat) (t:Tx) (o:Option (Nat×T)) (key:ByteArray) (z:Int) (D':Db):Prop :=
  (iA o t.cs key=true∧z=0∧∃ ca' cc',D' = { D with ts:=D.ts.set i { t with cs:=cZ t.cs ⟨key,⟨#[]⟩,true⟩,ca:=ca',cc:=cc' } })∨(iA o t.cs key=false∧z=5∧D'=D)
theorem qXh (D:Db) (x:Int) (i:Nat) (t:Tx) (o:Option (Nat×T)) (key:ByteArray) (b0 b1 b2:Nat) (w:World) (h:aS w 1 D) (hal:(D.fs.life==0)=false) (hro:bF D.fs t.root o) (hn:D.ts.length≤1000) (hi:i<D.ts.length) (ht:D.ts[i]=t) (hx:nX D.ts x=i) (hw:t.wr=true) (hr:cI t.cs) (hcs:t.cs.length≤1000) (hk1:1≤key.size) (hk2:key.size≤24)
    (x0:w.heap[b0]?=some (.cells #[.pointer (some ⟨D.d,0,none⟩)] 23)) (x1:w.heap[b1]?=some (.cells #[.int .i64 x] 3)) (x2:w.heap[b2]?=some (.cells #[.string key] 9)) :
    Calls Tryz.prog 48 #[.pointer (some ⟨b0,0,none⟩),.pointer (some ⟨b1,0,none⟩),.pointer (some ⟨b2,0,none⟩)] w fun e w'=>∃ z D',e=.returned (.int .i64 z)∧aS w' 1 D'∧D'.d=D.d∧Fr (fpD D) w w'∧aK w (fpD D) (fpD D')∧vAw D i t o key z D':=by
  have hWr:=zI D 1 x i t w h (by omega) hi ht hx hw
  have hm:t∈D.ts:=ht▸List.getElem_mem hi
  have HK:Hid (∀ X,Below w.heap.size w X→aS X 1 D∧X.cell? ⟨b0,0,none⟩=some (.pointer (some ⟨D.d,0,none⟩))∧X.cell? ⟨b1,0,none⟩=some (.int .i64 x)∧X.heap[b2]?=some (.cells #[.string key] 9)∧X.cell? ⟨t.b,2,none⟩=some (.pointer (some ⟨D.β,0,none⟩))∧X.cell? ⟨t.b,3,none⟩=some (.int .i64 t.root)∧X.cell? ⟨t.b,4,none⟩=some (.slice t.ca t.cs.length t.cc)):=by
    intro X hX
    have hD:=h.on (On.of_below hX h.lies)
    obtain⟨q0,q1,q2,q3,q4,q5⟩:=qHt (hD.each t hm).box
    exact⟨hD,dE ((hX.block _ (Array.getElem?_eq_some_iff.1 x0).1).trans x0),dE ((hX.block _ (Array.getElem?_eq_some_iff.1 x1).1).trans x1),(hX.block _ (Array.getElem?_eq_some_iff.1 x2).1).trans x2,q2,q3,q4⟩
  obtain⟨_,c0,c1,y2,q2,q3,q4⟩:=HK.out w (Below.refl _ _)
  have c2:=dE y2
  have hKy:∀ X,Calls Tryz.prog 45 #[.string key] X fun e w'=>e=.returned (.bool true)∧w'=X:=fun X=>by
    have:=wD key X
    rw [decide_eq_true (And.intro hk1 hk2)] at this
    exact this
  obtain⟨fb,hfb⟩:=nM (iA o t.cs key)
  have HFi:Hid (∀ X,aS X 1 D→Calls Tryz.prog 49 #[.agg #[.pointer (some ⟨D.β,0,none⟩),.int .i64 t.root,.slice t.ca t.cs.length t.cc],.string key] X fun e w'=>∃ E:Ent,e=.returned (.tuple #[.agg #[.string E.key,.string E.val,.int .i64 E.size,.int .i64 E.over],.bool fb])∧Below X.heap.size X w'):=fun X hX=>by
    obtain⟨a0,cc0,he,hcc,hrow⟩:=cU (hX.each t hm).row
    simp only [Tx.cv,Value.slice.injEq,true_and] at he
    obtain⟨e1,e2⟩:=he
    subst e1 e2
    refine(qKw D.β D.sv D.lv D.fs hal t.root t.ca t.cc t.cs key o hro (fun k=>t.cv.ownBlock=some k) X hX.file hrow (fun k hk=>bI (hX.each t hm).row hk) hr hcs hcc (by omega)).mono ?_
    rintro e w' ⟨E,rfl,_,_,hb⟩
    exact⟨E,by rw [hfb],hb⟩
  have HCk:Hid (∀ X,Calls Tryz.prog 47 #[.string key] X fun e w'=>e=.returned (.string key)∧Below X.heap.size X w'):=fun X=>sQ key (by omega) X
  have HCh:Hid (∀ X,aS X 1 D→Calls Tryz.prog 46 #[.pointer (some ⟨t.b,0,none⟩),.agg #[.string key,.string ⟨#[]⟩,.bool true]] X fun e w'=>e=.returned (.tuple #[])∧∃ ca' cc',iX w' D.β { t with cs:=cZ t.cs ⟨key,⟨#[]⟩,true⟩,ca:=ca',cc:=cc' }∧Fr (fpT t) X w'∧∀ k,fpT { t with cs:=cZ t.cs ⟨key,⟨#[]⟩,true⟩,ca:=ca',cc:=cc' } k→fpT t k∨X.heap.size≤k):=fun X hX=>qCg t D.β ⟨key,⟨#[]⟩,true⟩ X (hX.each t hm) hr hcs
  have HHI:Hid (i<D.ts.length):=hi
  have HTI:Hid (D.ts[i]=t):=ht
  have HFB:Hid (iA o t.cs key=fb):=hfb
  clear x0 x1 x2 h ht hx hr hfb
  go_enter Tryz.func48,Tryz.ntmps48
  go_wp2_with (first
    | (go_at_call 44;(with_reducible refine Calls.mono hWr ?_);rintro e X1 ⟨rfl,hX1⟩;obtain⟨hD1,c0,c1,y2,q2,q3,q4⟩:=HK.out X1 hX1;have c2:=dE y2;have hKy1:=hKy X1)
    | (go_at_call 45;(with_reducible refine Calls.mono hKy1 ?_);rintro e X1' ⟨rfl,hX1'⟩;subst X1'))
  have HS:Hid (∀ X,Below w.heap.size w X→X.cell? ⟨b2,0,none⟩=some (.string key)∧X.cell? ⟨t.b,2,none⟩=some (.pointer (some ⟨D.β,0,none⟩))∧X.cell? ⟨t.b,3,none⟩=some (.int .i64 t.root)∧X.cell? ⟨t.b,4,none⟩=some (.slice t.ca t.cs.length t.cc)):=fun X hX=>by
    obtain⟨_,_,_,y2,q2,q3,q4⟩:=HK.out X hX
    exact⟨dE y2,q2,q3,q4⟩
  have zX1:=hX1.size
  go_region_held3 (fun X=>X.cell? ⟨b2,0,none⟩=some (.string key)∧X.cell? ⟨t.b,2,none⟩=some (.pointer (some ⟨D.β,0,none⟩))∧X.cell? ⟨t.b,3,none⟩=some (.int .i64 t.root)∧X.cell? ⟨t.b,4,none⟩=some (.slice t.ca t.cs.length t.cc))
    ((refine HS.out _ ?_;(repeat (first|exact hX1|exact B2|(refine Below.drew ?_)|(refine Below.alloc ?_ (by first|omega|(simp;omega)) _)|(refine Below.setCell ?_ (by first|omega|(simp;omega)|(show w.heap.size≤X2.heap.size;omega)|(show w.heap.size≤X1.heap.size;omega)) _)))))
    (first
      | (go_at_call 49;(with_reducible refine Calls.mono (HFi.out _ (HK.out _ ?_).1) ?_);(first|exact hX1.drew|exact hX1|exact(hX1.alloc zX1 _).drew|exact hX1.drew.alloc zX1 _);rintro e X2 ⟨E,rfl,hX2⟩;have B2:Below w.heap.size w X2:=(by first|exact hX1.drew.trans (hX2.mono zX1)|exact(hX1.alloc zX1 _).drew.trans (hX2.mono (by simp;omega)));have zX2:=B2.size;have xE:=aB X2 mJ;obtain⟨g0,g1,g2,g3⟩:=yB xE;have gfr:=aJ xE;try (have xF:X2.heap[X1.heap.size]?=some mJ:=(hX2.block _ (by simp)).trans (by first|exact aB X1 mJ|exact aB X1.drew mJ);clear g0 g1 g2 g3 gfr;obtain⟨g0,g1,g2,g3⟩:=yB xF;have gfr:=aJ xF)))
  all_goals
    clear hKy1 hWr
    first
      | (obtain⟨X3,hX3⟩:=nM (X2.alloc (.cells #[.string E.key,.string E.val,.int .i64 E.size,.int .i64 E.over] 108))
         rw [hX3]
         have B3:Below w.heap.size w X3:=hX3▸B2.alloc zX2 _
         clear hX3)
      | (obtain⟨X3,hX3⟩:=nM ((((X2.setCell ⟨X1.heap.size,0,none⟩ (.string E.key)).setCell ⟨X1.heap.size,1,none⟩ (.string E.val)).setCell ⟨X1.heap.size,2,none⟩ (.int .i64 E.size)).setCell ⟨X1.heap.size,3,none⟩ (.int .i64 E.over))
         rw [hX3]
         have B3:Below w.heap.size w X3:=hX3▸((((B2.setCell (p:=⟨X1.heap.size,0,none⟩) zX1 _).setCell (p:=⟨X1.heap.size,1,none⟩) zX1 _).setCell (p:=⟨X1.heap.size,2,none⟩) zX1 _).setCell (p:=⟨X1.heap.size,3,none⟩) zX1 _)
         clear hX3)
    clear g0 g1 g2 g3 gfr xE
    obtain⟨hD3,c0,c1,y2,q2,q3,q4⟩:=HK.out X3 B3
    have c2:=dE y2
    have hCl:=HCk.out X3
    cases fb with
    | false =>
      go_wp2
      go_ret
      exact⟨5,D,rfl,hD3,rfl,Fr.of_below B3,aK.refl _ _,.inr ⟨HFB.out,rfl,rfl⟩⟩
    | true =>
      go_wp2_with (first
        | (go_at_call 47;(with_reducible refine Calls.mono hCl ?_);rintro e X4 ⟨rfl,hX4⟩;have B4:Below w.heap.size w X4:=B3.trans (hX4.mono B3.size);obtain⟨hD4,c0,c1,y2,q2,q3,q4⟩:=HK.out X4 B4;have hCg:=HCh.out X4 hD4)
        | (go_at_call 46;(with_reducible refine Calls.mono hCg ?_);rintro e X5 ⟨rfl,ca',cc',hT5,hF5,hG5⟩))
      go_ret
      refine⟨0,_,rfl,hD4.retx HHI.out HTI.out hT5 rfl hF5 hG5,rfl,(Fr.of_below B4).trans (hF5.mono (fun k hk=>.inl (.inr (.inr (.inr ⟨t,hm,hk⟩))))),fun k hk=>?_,.inl ⟨HFB.out,rfl,ca',cc',rfl⟩⟩
      have:=qKq (w:=X4) HHI.out HTI.out hG5 k hk
      exact this.imp id (fun h=>Nat.le_trans B4.size h)
theorem qOx (D:Db) (x:Int) (i:Nat) (t:Tx) (o:Option (Nat×T)) (key:ByteArray) (w:World) (h:aS w 0 D) (hal:(D.fs.life==0)=false) (hro:bF D.fs t.root o) (hn:D.ts.length≤1000) (hi:i<D.ts.length) (ht:D.ts[i]=t) (hx:nX D.ts x=i) (hw:t.wr=true) (hr:cI t.cs) (hcs:t.cs.length≤1000) (hk1:1≤key.size) (hk2:key.size≤24) :
    Calls Tryz.prog 25 #[.pointer (some ⟨D.d,0,none⟩),.int .i64 x,.string key] w fun e w'=>∃ z D',e=.returned (.int .i64 z)∧aS w' 0 D'∧D'.d=D.d∧Fr (fpD D) w w'∧aK w (fpD D) (fpD D')∧vAw D i t o key z D':=by
  obtain⟨W1,hW1⟩:=nM (((w.alloc (.cells #[.pointer (some ⟨D.d,0,none⟩)] 23)).alloc (.cells #[.int .i64 x] 3)).alloc (.cells #[.string key] 9))
  have B1:Below w.heap.size w W1:=hW1▸(((Below.refl _ _).alloc (Nat.le_refl _) _).alloc (by simp) _).alloc (by simp;omega) _
  have x0:W1.heap[w.heap.size]?=some (.cells #[.pointer (some ⟨D.d,0,none⟩)] 23):=hW1▸aF _ (aF _ (aB w _))
  have x1:W1.heap[w.heap.size+1]?=some (.cells #[.int .i64 x] 3):=by
    rw [← hW1];refine aF _ ?_;have:=aB (w.alloc (.cells #[.pointer (some ⟨D.d,0,none⟩)] 23)) (.cells #[.int .i64 x] 3);simpa using this
  have x2:W1.heap[w.heap.size+1+1]?=some (.cells #[.string key] 9):=by
    rw [← hW1];have:=aB ((w.alloc (.cells #[.pointer (some ⟨D.d,0,none⟩)] 23)).alloc (.cells #[.int .i64 x] 3)) (.cells #[.string key] 9);simpa using this
  have h1:aS W1 0 D:=h.on (On.of_below B1 h.lies)
  have dlt:=(Array.getElem?_eq_some_iff.1 h.box).1
  have c0:=dE x0
  have hFc:=qHh D 48 #[] #[.pointer (some ⟨w.heap.size,0,none⟩),.pointer (some ⟨w.heap.size+1,0,none⟩),.pointer (some ⟨w.heap.size+1+1,0,none⟩)] (enters_of Tryz.func48 (by kernel_rfl) rfl) W1 h1 (vAw D i t o key) (by
    intro W0 hD0 hF0 hs0
    have nd:∀ k,w.heap.size≤k→¬ Bl.one D.d k:=fun k hk e=>by simp only [Bl.one] at e;omega
    exact qXh D x i t o key _ _ _ W0 hD0 hal hro hn hi ht hx hw hr hcs hk1 hk2 (hF0.heap x0 (nd _ (by omega))) (hF0.heap x1 (nd _ (by omega))) (hF0.heap x2 (nd _ (by omega))))
  clear x0 x1 x2
  go_enter Tryz.func25,Tryz.ntmps25
  go_wp2_with (go_at_call 35;(with_reducible refine Calls.mono hFc ?_);rintro e X ⟨z,D',rfl,hD',hd',hF',hG',hR⟩)
  go_ret
  exact⟨z,D',rfl,hD',hd',(Fr.of_below B1).trans hF',fun k hk=>(hG' k hk).imp id (fun h=>Nat.le_trans B1.size h),hR⟩
structure vAa (K:List ByteArray) (n:Nat) (w wq:World) (D:Db) (j:Nat) (o ao:Option (Nat×T)):Prop where
 db:aS wq 0 D
 well:D.fs.well
 failed:D.failed=false
 ver:D.ver=j
 root:D.root=rootOf o
 aroot:D.aroot=rootOf ao
 last0:0≤D.last
 last1:D.last≤j
 store:gN K n D.fs j o ao
 new:∀ k,fpD D k→w.heap.size≤k
 below:Below w.heap.size w wq
def Idle (D:Db):Prop:=D.ts=[]
theorem qWv {w wq w':World} {Y:Bl} (hb:Below w.heap.size w wq) (f:Fr Y wq w') (h:∀ k,Y k→w.heap.size≤k):Below w.heap.size w w':=hb.trans (f.below hb.size h)
theorem qWq {Y Y':Bl} (hb:Below w.heap.size w wq) (h:∀ k,Y k→w.heap.size≤k) (g:aK wq Y Y'):∀ k,Y' k→w.heap.size≤k:=fun k hk=>(g k hk).elim (h k) (fun h'=>Nat.le_trans hb.size h')
structure qCp (K:List ByteArray) (cs:List Ch):Prop where
 rise:cI cs
 good:∀ c∈cs,c.good
 keys:∀ c∈cs,c.key∈K
 len:cs.length≤1000
theorem qCp.with {cs:List Ch} (h:qCp K cs) (hl:cs.length<1000) (c:Ch) (hg:c.good) (hk:c.key∈K):qCp K (cZ cs c)∧0<(cZ cs c).length∧(cZ cs c).length≤cs.length+1:=by
 have hlen:(cZ cs c).length≤cs.length+1∧0<(cZ cs c).length:=by
  rw [sM h.rise,List.length_append,List.length_cons,List.length_take,List.length_drop]
  have:=oO cs c.key
  constructor
  ·split<;>omega
  ·omega
 refine⟨⟨qDo h.rise c,fun x hx=>?_,fun x hx=>?_,by omega⟩,hlen.2,hlen.1⟩
 ·rcases (iC h.rise c x).1 hx with rfl|⟨h1,_⟩
  ·exact hg
  ·exact h.good x h1
 ·rcases (iC h.rise c x).1 hx with rfl|⟨h1,_⟩
  ·exact hk
  ·exact h.keys x h1
structure KOk (K:List ByteArray) (n:Nat):Prop where
 k24:∀ k∈K,k.size≤24
 ksum:3+tot (fun k:ByteArray=>k.size+3) K≤250
 n40:40≤n
 small:n≤4096
 room:3 * (1+3 * K.length)+2≤n
structure qYe (w wq:World) (β:Nat) (sv lv:Value) (fs:Fs):Prop where
 file:aH wq β sv lv fs
 new:∀ k,fpF β sv lv k→w.heap.size≤k
 below:Below w.heap.size w wq
theorem qZm {β:Nat} {sv lv:Value}  (hf:aH wq β sv lv fs) (hb:Below w.heap.size w wq) :
  Calls Tryz.prog 14 #[.pointer (some ⟨β,0,none⟩)] wq fun e w'=>∃ β' sv' lv',e=.returned (.pointer (some ⟨β',0,none⟩))∧qYe w w' β' sv' lv' fs:=by
 refine(qLj β sv lv fs wq hf).mono ?_
 rintro e w' ⟨β',sv',lv',rfl,hf',hb',hn⟩
 exact⟨β',sv',lv',rfl,hf',fun k hk=>Nat.le_trans hb.size (hn k hk),hb.trans (hb'.mono hb.size)⟩
theorem qQc {n:Nat}  {β:Nat} {sv lv:Value}  {j:Nat} {o ao:Option (Nat×T)} (h:qYe w wq β sv lv fs) (S:gN K n fs j o ao) (hw:fs.well) (hn:40≤n) :
  Calls Tryz.prog 16 #[.pointer (some ⟨β,0,none⟩)] wq fun e w'=>∃ D,e=.returned (.tuple #[.pointer (some ⟨D.d,0,none⟩),.int .i64 0])∧vAa K n w w' D j o ao∧Idle D∧D.β=β:=by
 refine(qJh S hn hw β sv lv wq h.file).mono ?_
 rintro e w' ⟨D,rfl,hD,h1,h2,h3,h4,h5,h6,h7,h8,h9,hF,hG⟩
 exact⟨D,rfl,⟨hD,h3▸hw,h7,h4,h5,h6,by rw [h8];exact Int.le_refl _,by rw [h8];exact Int.natCast_nonneg _,h3▸S,qWq h.below h.new hG,qWv h.below hF h.new⟩,h9,h1⟩
theorem qWt {n:Nat} (hn:40≤n) (hn2:n≤4096) (w:World) :
  Calls Tryz.prog 10 #[.int .i64 (n:Nat)] w fun e w'=>∃ D,e=.returned (.tuple #[.pointer (some ⟨D.d,0,none⟩),.pointer (some ⟨D.β,0,none⟩)])∧vAa K n w w' D 0 none none∧Idle D:=by
 have hS:gN K n (Fs.new n) 0 none none:=qRo K n (by omega)
 have hw:(Fs.new n).well:=⟨rfl,rfl⟩
 have hNw:=qYv n w hn2
 go_enter Tryz.func10,Tryz.ntmps10
 go_wp2_with (first
  | (go_at_call 33;(with_reducible refine Calls.mono hNw ?_);rintro e X1 ⟨β,sv,lv,rfl,hf1,hb1,hn1⟩;have hO1:=qQc (K:=K) (w:=w) ⟨hf1,hn1,hb1⟩ hS hw hn)
  | (go_at_call 16;(with_reducible refine Calls.mono hO1 ?_);rintro e X2 ⟨D0,rfl,hL0,hi0,hβ0⟩;subst hβ0;have HL0:Hid _:=hL0;have hC:=qZm (w:=w) hL0.db.file hL0.below;clear hL0)
  | (go_at_call 14;(with_reducible refine Calls.mono hC ?_);rintro e X3 ⟨β',sv',lv',rfl,hf3⟩;have hO2:=qQc (K:=K) hf3 HL0.out.store HL0.out.well hn)
  | (go_at_call 16;(with_reducible refine Calls.mono hO2 ?_);rintro e X4 ⟨D,rfl,hL,hi,hβ⟩;subst hβ))
 go_ret2
 exact⟨D,rfl,hL,hi⟩
theorem qTd (key k:ByteArray):(mA key).has k=true↔k=key:=by
 have happ:(key++(⟨#[0]⟩:ByteArray)).toList=key.toList++[0]:=by
  rw [ByteArray.toList_eq,ByteArray.toList_eq];simp
 have hne:(key++(⟨#[0]⟩:ByteArray))≠⟨#[]⟩:=fun e=>by
  have:=congrArg ByteArray.toList e
  rw [happ] at this
  have h2:(⟨#[]⟩:ByteArray).toList=[]:=by rw [ByteArray.toList_eq]
  rw [h2] at this
  simp at this
 constructor
 ·intro h
  simp only [mA,Sp.has,Bool.and_eq_true,eX] at h
  rcases h.2 with h2|h2
  ·exact absurd h2 hne
  ·unfold lt at h2
   rw [happ] at h2
   rcases qRc _ _ h2 with h3|h3
   ·have:=qAv.2 h.1
    rw [show lt k key=true from h3] at this;cases this
   ·exact oL h3
 ·rintro rfl
  simp only [mA,Sp.has,Bool.and_eq_true,eX]
  refine⟨aD _,.inr ?_⟩
  unfold lt
  rw [happ]
  exact qRb _
theorem qAu {root:Nat}  (hro:bF fs root o) (hf:gR o):∀ x∈fA o,x.good fs:=fun x hx=>by
 obtain⟨h1,h2⟩:=lW (cs:=[]) hro hf .nil (by simp)
 exact h1.good x (by rw [h2];exact(dI (gP hro) .nil x).2 (.inr ⟨hx,by simp⟩))
theorem yW {x:En} (h:x.good fs):x.ok fs∧(x.e.over≠0→x.e.size≠0):=by
 obtain⟨_,_,⟨h1,h2,h3,h4⟩|⟨_,_,size,over,h1,h2,h3,h4,h5⟩⟩:=h
 ·exact⟨⟨x.e.val.size,0,h3,h1,h4,.inl ⟨rfl,h2⟩⟩,fun h=>absurd h1 h⟩
 ·refine⟨⟨size,over,h1,h2,h4,?_⟩,fun _=>by rw [h1];omega⟩
  rcases Nat.eq_zero_or_pos over with rfl|h
  ·rename_i hp
   rw [h2] at hp
   simp [aU] at hp
  ·exact .inr ⟨h,h5⟩
def iO (o:Option (Nat×T)) (cs:List Ch) (key:ByteArray):Option (List UInt8):=valOf (bK (fA o) cs) key
theorem qFr {root:Nat}  {cs:List Ch} {key:ByteArray} {E:Ent} (hro:bF fs root o) (hf:gR o) (hr:cI cs) (hc:∀ c∈cs,c.good) (h1:fnd cs key=true→∀ c,cs[cL cs key]?=some c→E=(chE c).e) (h2:fnd cs key=false→∀ x xs,cK (mA key) o=x :: xs→E=x.e) :
  (iA o cs key=false∧iO o cs key=none)∨∃ X:En,X.good fs∧E=X.e∧iA o cs key=true∧iO o cs key=some X.value:=by
 have hre:=gP hro
 unfold iO
 rw [qAr hre hr]
 cases hfd:fnd cs key with
 | true =>
  obtain⟨h0,hk⟩:=tG hfd hr
  have hg:=hc _ (List.getElem_mem h0)
  have hE:=h1 hfd _ (List.getElem?_eq_getElem h0)
  have hfi:cs.find? (fun c=>decide (c.key=key))=some (cs[cL cs key]):=by
   cases hq:cs.find? (fun c=>decide (c.key=key)) with
   | none=>have:=List.find?_eq_none.1 hq _ (List.getElem_mem h0);simp [hk] at this
   | some c =>
    have a1:=List.mem_of_find?_eq_some hq
    have a2:c.key=key:=by simpa using List.find?_some hq
    obtain⟨i,hi,rfl⟩:=List.getElem_of_mem a1
    rcases Nat.lt_trichotomy i (cL cs key) with h|h|h
    ·have:=List.pairwise_iff_getElem.1 hr i _ hi h0 h
     rw [a2,hk,bZ] at this;cases this
    ·subst h;rfl
    ·have:=List.pairwise_iff_getElem.1 hr _ i h0 hi h
     rw [a2,hk,bZ] at this;cases this
  rw [hfi]
  simp only
  unfold iA
  rw [if_pos hfd,List.getElem?_eq_getElem h0]
  cases hgo:(cs[cL cs key]).gone with
  | true=>left;exact⟨by simp [hgo],by simp⟩
  | false=>right;exact⟨chE _,qLs hg,hE,by simp [hgo],by simp [En.value,chE]⟩
 | false =>
  have hno:cs.find? (fun c=>decide (c.key=key))=none:=by
   refine List.find?_eq_none.2 fun c hcm=>?_
   simp only [decide_eq_true_eq]
   intro e
   have:=(yZ hr key).2 ⟨c,hcm,e⟩
   rw [hfd] at this;cases this
  rw [hno]
  simp only
  unfold iA
  rw [if_neg (by rw [hfd];simp)]
  have hst:=sU hro (mA key)
  have hfil:(fA o).filter (fun x=>(mA key).has x.e.key)=(fA o).filter (fun x=>decide (x.e.key=key)):=List.filter_congr (fun x _=>by
   rw [Bool.eq_iff_iff,qTd];simp)
  rw [hfil] at hst
  unfold valOf
  cases hl:cK (mA key) o with
  | nil =>
   left
   refine⟨rfl,?_⟩
   rw [hl] at hst
   have:(fA o).find? (fun x=>decide (x.e.key=key))=none:=List.find?_eq_none.2 fun x hx=>by
    have:=List.filter_eq_nil_iff.1 hst.symm x hx
    exact this
   rw [this];rfl
  | cons x xs =>
   right
   have hh:(fA o).find? (fun x=>decide (x.e.key=key))=some x:=by
    rw [← List.head?_filter,← hst,hl];rfl
   exact⟨x,qAu hro hf x (List.mem_of_find?_eq_some hh),h2 hfd x xs hl,rfl,by rw [hh];rfl⟩
end Go.Proofs.YtfnhmpcpeahfkaaGreat.Tree
