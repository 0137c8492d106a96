/-
  Joined: Seqs.
-/
import Derived.Test.YtfnhmpcpeahfkaaGreatU32
set_option linter.unusedSimpArgs false
set_option linter.unusedVariables false
set_option maxRecDepth 100000
set_option maxHeartbeats 8000000
namespace Go.Proofs.YtfnhmpcpeahfkaaGreat.Tree
open Go.RowKit Pages
theorem qPn {w:World} {o1 o2:Obj}:((w.alloc o1).alloc o2).heap[w.heap.size]?=some o1∧((w.alloc o1).alloc o2).heap[w.heap.size+1]?=some o2∧Below w.heap.size w ((w.alloc o1).alloc o2) :=
 ⟨aF _ (aB _ _),rK _ _ _ (by simp),((Below.refl _ _).alloc (Nat.le_refl _) _).alloc (by simp) _⟩
theorem wV (root:Int) (β:Nat) (ca:Option Addr) (cn cc:Nat) (q:Sp) (w:World) :
  Calls Tryz.prog 74 #[.agg #[.pointer (some ⟨β,0,none⟩),.int .i64 root,.slice ca cn cc],.agg #[.string q.lo,.string q.hi]] w fun e w' =>
   e=.returned (.func (.func 104) #[] #[.pointer (some ⟨w.heap.size,0,none⟩),.pointer (some ⟨w.heap.size+1,0,none⟩)]) ∧
   w'.heap[w.heap.size]?=some (.cells #[.pointer (some ⟨β,0,none⟩),.int .i64 root,.slice ca cn cc] 95)∧w'.heap[w.heap.size+1]?=some (.cells #[.string q.lo,.string q.hi] 135)∧Below w.heap.size w w':=by
 have HR:∀ W4,W4=((w.alloc (.cells #[.pointer (some ⟨β,0,none⟩),.int .i64 root,.slice ca cn cc] 95)).alloc (.cells #[.string q.lo,.string q.hi] 135)) →
   (W4.heap[w.heap.size]?=some (.cells #[.pointer (some ⟨β,0,none⟩),.int .i64 root,.slice ca cn cc] 95)∧W4.heap[w.heap.size+1]?=some (.cells #[.string q.lo,.string q.hi] 135)∧Below w.heap.size w W4):=by
  rintro W4 rfl;exact qPn
 go_enter Tryz.func74,Tryz.ntmps74
 go_wp2
 go_ret
 exact⟨rfl,HR _ rfl⟩
theorem sC (gf:Nat) (lb:Array Value) (ca:Option Addr) (cn cc:Nat) (w:World) :
  Calls Tryz.prog 136 #[.func (.func gf) #[] lb,.slice ca cn cc] w fun e w' =>
   e=.returned (.func (.func 148) #[] #[.pointer (some ⟨w.heap.size+1,0,none⟩),.pointer (some ⟨w.heap.size,0,none⟩)]) ∧
   w'.heap[w.heap.size]?=some (.cells #[.func (.func gf) #[] lb] 132)∧w'.heap[w.heap.size+1]?=some (.cells #[.slice ca cn cc] 93)∧Below w.heap.size w w':=by
 have HR:∀ W4,W4=((w.alloc (.cells #[.func (.func gf) #[] lb] 132)).alloc (.cells #[.slice ca cn cc] 93)) →
   (W4.heap[w.heap.size]?=some (.cells #[.func (.func gf) #[] lb] 132)∧W4.heap[w.heap.size+1]?=some (.cells #[.slice ca cn cc] 93)∧Below w.heap.size w W4):=by
  rintro W4 rfl;exact qPn
 go_enter Tryz.func136,Tryz.ntmps136
 go_wp2
 go_ret
 exact⟨rfl,HR _ rfl⟩
theorem qIc (ea:Option Addr) (en ec:Nat) (w:World) :
  Calls Tryz.prog 176 #[.slice ea en ec] w fun e w' =>
   e=.returned (.func (.func 185) #[] #[.pointer (some ⟨w.heap.size,0,none⟩)]) ∧
   w'.heap[w.heap.size]?=some (.cells #[.slice ea en ec] 83)∧Below w.heap.size w w':=by
 have HR:∀ W4,W4=(w.alloc (.cells #[.slice ea en ec] 83))→(W4.heap[w.heap.size]?=some (.cells #[.slice ea en ec] 83)∧Below w.heap.size w W4):=by
  rintro W4 rfl;exact⟨aB _ _,(Below.refl _ _).alloc (Nat.le_refl _) _⟩
 go_enter Tryz.func176,Tryz.ntmps176
 go_wp2
 go_ret
 exact⟨rfl,HR _ rfl⟩
theorem iD {cs:List Ch} (h:cI cs) (q:Sp):cI (eF cs q):=List.Pairwise.filter _ h
theorem qVn (cs:List Ch) (q:Sp):(eF cs q).length≤cs.length:=List.length_filter_le _ _
def RdE (S:Bl) (β:Nat) (sv lv:Value) (w w':World):Bl:=fun k=>S k∨fpF β sv lv k∨(w.heap.size≤k∧k<w'.heap.size)
theorem qDf (β:Nat) (sv lv:Value) (fs:Fs) (hl:(fs.life==0)=false) (root:Nat) (ca:Option Addr) (cc:Nat) (cs:List Ch) (q:Sp) (o:Option (Nat×T)) (hro:bF fs root o) (S:Bl) (w wa wz:World) (hf:aH w β sv lv fs) (hR:aL w S ca (cs.flatMap Ch.cells)) (hS:∀ b,S b→b<w.heap.size) (hr:cI cs) (hn:cs.length≤1000000)
  (bt be:Nat) (xt:wa.heap[bt]?=some (.cells #[.pointer (some ⟨β,0,none⟩),.int .i64 root,.slice ca cs.length cc] 95)) (xq:wa.heap[bt+1]?=some (.cells #[.string q.lo,.string q.hi] 135)) (KA:Below wa.heap.size wa wz)
  (a:Option Addr) (c:Nat) (hcut:qHx S ca cs a c (eF cs q))
  (xe:wz.heap[be]?=some (.cells #[.func (.func 104) #[] #[.pointer (some ⟨bt,0,none⟩),.pointer (some ⟨bt+1,0,none⟩)]] 132)) (xc:wz.heap[be+1]?=some (.cells #[.slice a (eF cs q).length c] 93))
  (Kw:Below w.heap.size w wz) (hbt:w.heap.size≤bt) (hbe:w.heap.size≤be) :
  nH Tryz.prog 148 #[.pointer (some ⟨be+1,0,none⟩),.pointer (some ⟨be,0,none⟩)] oH (bK (cK q o) (eF cs q)) (RdE S β sv lv w wz) wz:=by
 have xt':=(KA.block bt (Array.getElem?_eq_some_iff.1 xt).1).trans xt
 have xq':=(KA.block (bt+1) (Array.getElem?_eq_some_iff.1 xq).1).trans xq
 have hf':=hf.on (On.of_below Kw (fun k hk=>hf.lies k hk))
 have l1:=(Array.getElem?_eq_some_iff.1 xt').1
 have l2:=(Array.getElem?_eq_some_iff.1 xq').1
 have l3:=(Array.getElem?_eq_some_iff.1 xe).1
 have l4:=(Array.getElem?_eq_some_iff.1 xc).1
 have h1:=wU β sv lv fs hl root ca cs.length cc q o hro bt (bt+1) (RdE S β sv lv w wz) wz xt' xq' hf' (.inr (.inr ⟨hbt,l1⟩)) (.inr (.inr ⟨by omega,l2⟩)) (fun k hk=>.inr (.inl hk))
 exact qEi _ _ (enters_of Tryz.func104 (by kernel_rfl) rfl) _ _ (be+1) be a c (eF cs q) S (RdE S β sv lv w wz) wz h1 xc xe (hcut.2.1 _ (hR.on (On.of_below Kw hS))) (iD hr q) (Nat.le_trans (qVn cs q) hn) hcut.1 hcut.2.2 (.inr (.inr ⟨by omega,l4⟩)) (.inr (.inr ⟨hbe,l3⟩)) (fun k hk=>.inl hk) (fun k hk=>hk)
theorem dY {B:Nat} {W a wn:World} (hJ:Below B W a) (hW:B≤W.heap.size) (hbn:Below a.heap.size a wn):Below B W wn:=hJ.trans (hbn.mono (Nat.le_trans hW hJ.size))
theorem uX (β:Nat) (sv lv:Value) (fs:Fs) (hl:(fs.life==0)=false) (root:Nat) (ca:Option Addr) (cc:Nat) (cs:List Ch) (q:Sp) (o:Option (Nat×T)) (hro:bF fs root o) (S:Bl) (w:World) (hf:aH w β sv lv fs) (hR:aL w S ca (cs.flatMap Ch.cells)) (hS:∀ b,S b→b<w.heap.size) (hr:cI cs) (hn:cs.length≤1000000) (hc:cs.length≤cc) (hca:(ca=none∧cc=0)∨∃ b off,ca=some ⟨b,off,none⟩) :
  Calls Tryz.prog 110 #[.agg #[.pointer (some ⟨β,0,none⟩),.int .i64 root,.slice ca cs.length cc],.string q.lo,.string q.hi] w fun e w'=>∃ lb,e=.returned (.func (.func 148) #[] lb)∧nH Tryz.prog 148 lb oH (bK (cK q o) (eF cs q)) (RdE S β sv lv w w') w'∧Below w.heap.size w w':=by
 obtain⟨W1,hW1⟩:=nM (w.alloc (.cells #[.pointer (some ⟨β,0,none⟩),.int .i64 root,.slice ca cs.length cc] 95))
 have b1:Below w.heap.size w W1:=hW1▸(Below.refl _ _).alloc (Nat.le_refl _) _
 have x1:W1.heap[w.heap.size]?=some (.cells #[.pointer (some ⟨β,0,none⟩),.int .i64 root,.slice ca cs.length cc] 95):=hW1▸aB w _
 obtain⟨m0,m1,m2⟩:=dM x1
 have hWz:w.heap.size+1≤W1.heap.size:=(Array.getElem?_eq_some_iff.1 x1).1
 have hJw:∀ W,Below (w.heap.size+1) W1 W→Below w.heap.size w W:=fun W h=>b1.trans (h.mono (Nat.le_succ _))
 have hA:=fun W=>wV root β ca cs.length cc q W
 have hB:=fun W (h:Below (w.heap.size+1) W1 W)=>zN ca cc cs q S W (hR.on (On.of_below (hJw W h) hS)) (fun b hb=>Nat.lt_of_lt_of_le (hS b hb) (hJw W h).size) hr hn hc hca
 have hC:=fun bt a n c W=>sC 104 #[.pointer (some ⟨bt,0,none⟩),.pointer (some ⟨bt+1,0,none⟩)] a n c W
 have HCL:=fun wa wz=>qDf β sv lv fs hl root ca cc cs q o hro S w wa wz hf hR hS hr hn
 have hJ:Below (w.heap.size+1) W1 W1:=Below.refl _ _
 clear hf hro hR hl
 go_enter Tryz.func110,Tryz.ntmps110
 go_wp2
 go_region_with (first
  | (go_at_call 74;refine(hA _).mono ?_;rintro e wa ⟨rfl,xt,xq,hbA⟩;have KA:Below wa.heap.size wa wa:=Below.refl _ _;have hJ:Below (w.heap.size+1) W1 wa:=(by first|exact dY hJ hWz hbA|exact dY hJ.drew hWz hbA|exact dY hJ.drew.drew hWz hbA);obtain⟨e0,e1,e2⟩:=dM ((hJ.block w.heap.size (Nat.lt_succ_self _)).trans x1))
  | (go_at_call 137;refine(hB _ (by first|exact hJ|exact hJ.drew|exact hJ.drew.drew)).mono ?_;rintro e wb ⟨a,c,rfl,hcut,hbB⟩;try (have KA:Below wa.heap.size wa wb:=(by first|exact dY KA (Nat.le_refl _) hbB|exact dY KA.drew (Nat.le_refl _) hbB|exact dY KA.drew.drew (Nat.le_refl _) hbB));have hJ:Below (w.heap.size+1) W1 wb:=(by first|exact dY hJ hWz hbB|exact dY hJ.drew hWz hbB|exact dY hJ.drew.drew hWz hbB);obtain⟨e0,e1,e2⟩:=dM ((hJ.block w.heap.size (Nat.lt_succ_self _)).trans x1))
  | (go_at_call 136;refine(hC _ _ _ _ _).mono ?_;rintro e wc ⟨rfl,xe,xc,hbC⟩;have KA:Below wa.heap.size wa wc:=(by first|exact dY KA (Nat.le_refl _) hbC|exact dY KA.drew (Nat.le_refl _) hbC|exact dY KA.drew.drew (Nat.le_refl _) hbC);have hJ:Below (w.heap.size+1) W1 wc:=(by first|exact dY hJ hWz hbC|exact dY hJ.drew hWz hbC|exact dY hJ.drew.drew hWz hbC)))
 all_goals go_wp2
 all_goals go_ret
 all_goals exact⟨_,rfl,HCL _ _ _ _ xt xq KA _ _ hcut xe xc (hJw _ hJ) (by first|exact b1.size|exact Nat.le_trans b1.size hbB.size) (by first|exact Nat.le_trans b1.size (Nat.le_trans hbA.size hbB.size)|exact Nat.le_trans b1.size (Nat.le_trans hbB.size hbA.size)),hJw _ hJ⟩
end Go.Proofs.YtfnhmpcpeahfkaaGreat.Tree
