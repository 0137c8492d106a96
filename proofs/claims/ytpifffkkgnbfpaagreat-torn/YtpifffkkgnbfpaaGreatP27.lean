import Derived.Test.YtpifffkkgnbfpaaGreatP24
import Derived.Test.YtpifffkkgnbfpaaGreatP22
import Derived.Test.YtpifffkkgnbfpaaGreatP26
set_option linter.unusedSimpArgs false
set_option linter.unusedVariables false
set_option maxRecDepth 100000
set_option maxHeartbeats 8000000
namespace Go.Proofs.YtpifffkkgnbfpaaGreat.Tree
open Go.RowKit Pages
variable {D:Db} {b i n p:Nat} {k:ByteArray} {ks:List ByteArray} {st:Int} {t:TypeId} {u:List Bool} {v:Value} {w:World} {xs:List Value}
theorem Au:(dD (eR 256).data.toList).kind=0:=by
 have h0:((eR 256).data.toList).getD 0 0=0:=by
  show ((List.replicate 256 (0:UInt8)).toArray.toList).getD 0 0=0
  rfl
 unfold dD
 rw [h0]
 rfl
theorem qCx {s:ByteArray} {v r:Int} (h:Ep s (aY v r)):s≠eR 256:=by
 rintro rfl
 have:=congrArg Pg.kind h.2.2.2
 rw [Au] at this
 simp [aY] at this
abbrev qAf (p:Int) (ver root:Int) (ka ia ea:Option Addr) (kc ic ec:Nat):Array Value:=#[.int .i64 p,.bool true,.int .i64 1,.int .i64 ver,.int .i64 root,.int .i64 0,.slice ka 0 kc,.slice ia 0 ic,.slice ea 0 ec,.string ⟨#[]⟩]
abbrev qFv (ver root:Nat) (ka ia ea:Option Addr) (kc ic ec:Nat):Obj:=.cells #[.int .i64 1,.int .i64 ver,.int .i64 root,.int .i64 0,.slice ka 0 kc,.slice ia 0 ic,.slice ea 0 ec,.string ⟨#[]⟩] 85
abbrev meta0:Obj:=.cells #[.int .i64 0,.bool false,.int .i64 0,.int .i64 0,.int .i64 0,.int .i64 0,.slice none 0 0,.slice none 0 0,.slice none 0 0,.string ⟨#[]⟩] 118
theorem eO {cs:Array Value}   (h:w.heap[b]?=some (.cells cs t)) (hv:cs[i]?=some v):w.setCell ⟨b,i,none⟩ v=w:=by
 obtain⟨hb,he⟩:=jJ.1 h
 have hc:cs.setIfInBounds i v=cs:=by
  apply Array.ext_getElem?
  intro j
  rw [Array.getElem?_setIfInBounds]
  split
  ·next e=>subst e;rw [hv];split<;>simp_all
  ·rfl
 have:(w.setCell ⟨b,i,none⟩ v).heap=w.heap:=by
  apply Array.ext_getElem?
  intro k
  by_cases hk:b=k
  ·subst hk;rw [aD h,hc,h]
  ·simp only [World.setCell];rw [Array.getElem?_modify,if_neg hk]
 cases w
 simp only [World.setCell] at this ⊢
 simp only [this]
theorem jS {β:Nat} {a0 a1 a2 a3 a4 a5 a6 a7 a8 a9:Value}  (h:w.heap[β]?=some (.cells #[a0,a1,a2,a3,a4,a5,a6,a7,a8,a9] t)) :
  w.cell? ⟨β,0,none⟩=some a0∧w.cell? ⟨β,1,none⟩=some a1∧w.cell? ⟨β,2,none⟩=some a2∧w.cell? ⟨β,3,none⟩=some a3∧w.cell? ⟨β,4,none⟩=some a4∧w.cell? ⟨β,5,none⟩=some a5∧w.cell? ⟨β,6,none⟩=some a6∧w.cell? ⟨β,7,none⟩=some a7∧w.cell? ⟨β,8,none⟩=some a8∧w.cell? ⟨β,9,none⟩=some a9:=by
 simp [World.cell?,h]
abbrev Ll (w:World) (b:Nat) (v0 v1 v2 v3 v4 v5 v6 v7 v8 v9:Value):World:=(((((((((w.setCell ⟨b,0,none⟩ v0).setCell ⟨b,1,none⟩ v1).setCell ⟨b,2,none⟩ v2).setCell ⟨b,3,none⟩ v3).setCell ⟨b,4,none⟩ v4).setCell ⟨b,5,none⟩ v5).setCell ⟨b,6,none⟩ v6).setCell ⟨b,7,none⟩ v7).setCell ⟨b,8,none⟩ v8).setCell ⟨b,9,none⟩ v9
theorem uT (w:World) (b:Nat) (v0 v1 v2 v3 v4 v5 v6 v7 v8 v9:Value):Fr (Bl.one b) w (Ll w b v0 v1 v2 v3 v4 v5 v6 v7 v8 v9) :=
 ((((((((((Fr.refl (Bl.one b) w).setCell (p:=⟨b,0,none⟩) (.inl rfl) _).setCell (p:=⟨b,1,none⟩) (.inl rfl) _).setCell (p:=⟨b,2,none⟩) (.inl rfl) _).setCell (p:=⟨b,3,none⟩) (.inl rfl) _).setCell (p:=⟨b,4,none⟩) (.inl rfl) _).setCell (p:=⟨b,5,none⟩) (.inl rfl) _).setCell (p:=⟨b,6,none⟩) (.inl rfl) _).setCell (p:=⟨b,7,none⟩) (.inl rfl) _).setCell (p:=⟨b,8,none⟩) (.inl rfl) _).setCell (p:=⟨b,9,none⟩) (.inl rfl) _
theorem sF {x0 x1 x2 x3 x4 x5 x6 x7 x8 x9:Value}  (h:w.heap[b]?=some (.cells #[x0,x1,x2,x3,x4,x5,x6,x7,x8,x9] t)) (v0 v1 v2 v3 v4 v5 v6 v7 v8 v9:Value):(Ll w b v0 v1 v2 v3 v4 v5 v6 v7 v8 v9).heap[b]?=some (.cells #[v0,v1,v2,v3,v4,v5,v6,v7,v8,v9] t):=by
 have:=aD (aD (aD (aD (aD (aD (aD (aD (aD (aD h 0 v0) 1 v1) 2 v2) 3 v3) 4 v4) 5 v5) 6 v6) 7 v7) 8 v8) 9 v9
 simpa using this
theorem Cp (β:Nat) (sv lv:Value) (fs:Fs) (hl:(fs.life==0)=false) (p ver root:Nat) (w:World) (hf:aG w β sv lv fs) (hp:p<fs.safe.length) (hm:fC fs p ver root) :
  Calls Tryz.prog 84 #[.pointer (some ⟨β,0,none⟩),.int .i64 p] w fun e w'=>∃ ka ia ea kc ic ec,e=.returned (.agg (qAf p ver root ka ia ea kc ic ec))∧Below w.heap.size w w':=by
 obtain⟨W1,hW1⟩:=nM (w.alloc meta0)
 have b1:Below w.heap.size w W1:=hW1▸(bA _ _)
 have x1:W1.heap[w.heap.size]?=some meta0:=hW1▸aA w _
 have hf1:=hf.on (vV b1 hf.lies)
 have hRd:=mI β sv lv fs p W1 hf1
 have hrs:fs.readS p=fs.at p:=by unfold Fs.readS;simp [hp,hl]
 have hrb:(decide (p<fs.safe.length)&&!(fs.life==0))=true:=by simp [hp,hl]
 rw [hrs,hrb] at hRd
 clear hrs hrb
 obtain⟨i0,hi,hz0,hz1,hz2⟩:=info_parts Hz
 obtain⟨w1,hmk,hown,hg⟩:=run_makeSlice_full (P:=Tryz.prog) W1 0 115 5 i0 (.int .u8 0) 1 Tryz.underlying115 hi hz0 hz1 .i64 .i64 256 (by omega) (by rw [hz2];omega) (by unfold maxLen;omega) (Nat.zero_le _)
 rw [tU] at hown
 have hbf:Buf w1 0 (.slice (some ⟨W1.heap.size,0,none⟩) 256 256) (List.replicate 256 0):=by
  unfold Buf;rw [List.length_replicate];exact hown
 have hcv:=Buf.string hbf
 have HB:Below W1.heap.size W1 w1:=⟨hg.os,hg.tape,hg.output,hg.size,fun k hk=>hg.block k hk (by simp)⟩
 have hmk':(Instr.makeSlice 115 (.int .i64 256) (.int .i64 256)).run Tryz.prog W1=.ok (.slice (some ⟨W1.heap.size,0,none⟩) 256 256) w1:=hmk
 obtain⟨z,hz'⟩:∃ z,eR 256=z:=⟨_,rfl⟩
 have hcv':(convert 115 9 (.slice (some ⟨W1.heap.size,0,none⟩) 256 256)).run Tryz.prog w1=.ok (.string z) w1:=by rw [← hz'];exact hcv
 have x2:=(HB.block _ (gL x1)).trans x1
 obtain⟨c0,c1,c2,c3,c4,c5,c6,c7,c8,c9⟩:=jS x2
 have cfr:=aF x2
 have B2:Below w.heap.size w w1:=b1.trans (HB.mono b1.size)
 clear hbf hown hg hcv hmk hi hz0 hz1 hz2
 rcases hm with⟨hz,rfl,rfl⟩|hm
 ·rw [hz,hz'] at hRd
  clear hz hz'
  have xF:=sF x2 (.int .i64 p) (.bool true) (.int .i64 1) (.int .i64 0) (.int .i64 0) (.int .i64 0) (.slice none 0 0) (.slice none 0 0) (.slice none 0 0) (.string ⟨#[]⟩)
  have fF:=uT w1 w.heap.size (.int .i64 p) (.bool true) (.int .i64 1) (.int .i64 0) (.int .i64 0) (.int .i64 0) (.slice none 0 0) (.slice none 0 0) (.slice none 0 0) (.string ⟨#[]⟩)
  have HXF:Hid _:=xF
  have HFF:Hid _:=fF
  clear xF fF
  go_enter Tryz.func84,Tryz.ntmps84
  go_wp2_with (go_at_call 115;(with_reducible refine jC hRd ?_);rintro e w2 ⟨rfl,hw2⟩;subst w2)
  refine bodyPost_ret (v:=.agg (qAf p 0 0 none none none 0 0 0)) ?_ rfl ⟨none,none,none,0,0,0,rfl,B2.trans (HFF.out.below (by have:=B2.size;omega) (oK (by omega)))⟩
  exact results_cell_row (p:=4) rfl _ _ w.heap.size _ _ _ _ rfl HXF.out Tryz.underlying118 rfl (by kernel_rfl)
 ·have hne:((fs.at p).toList==z.toList)=false:=by rw [← hz'];exact vF (qCx hm)
  obtain⟨s,hsd⟩:=nM (fs.at p)
  rw [hsd] at hRd hm hne
  clear hz' hsd
  have hDec:=Ik hm w1
  simp only [aY,jN,Int.ofNat_zero] at hDec
  have lw:=(gL x2)
  go_enter Tryz.func84,Tryz.ntmps84
  go_wp2_with (first
   | (go_at_call 115;(with_reducible refine jC hRd ?_);rintro e w2 ⟨rfl,hw2⟩;subst w2)
   | (go_at_call 116;(with_reducible refine jC hDec ?_);rintro e W2 ⟨ka,ia,ea,kc,ic,ec,rfl,q1,q2,q3,qq,hb2⟩;clear q1 q2 q3 qq hRd hDec;obtain⟨W3,hW3⟩:=nM (W2.alloc (.cells #[.int .i64 1,.int .i64 ver,.int .i64 root,.int .i64 0,.slice ka 0 kc,.slice ia 0 ic,.slice ea 0 ec,.string ⟨#[]⟩] 85));have x3:W3.heap[W2.heap.size]?=some (qFv ver root ka ia ea kc ic ec):=hW3▸aA W2 _;obtain⟨m0,m1,m2,m3,m4,m5,m6,m7⟩:=bL x3;have mfr:=aF x3;have m8:W3.setCell ⟨W2.heap.size,7,none⟩ (.string ⟨#[]⟩)=W3:=eO x3 rfl;have b3:Below w1.heap.size w1 W3:=hb2.trans (hW3▸(Below.refl _ _).alloc hb2.size _);have r3:=(b3.block _ lw).trans x2;clear c0 c1 c2 c3 c4 c5 c6 c7 c8 c9 cfr;obtain⟨c0,c1,c2,c3,c4,c5,c6,c7,c8,c9⟩:=jS r3;have nfr:=aF r3;have HB3:Hid _:=b3;have HR3:Hid _:=r3;clear b3 r3 x3))
  have xF:=sF HR3.out (.int .i64 p) (.bool true) (.int .i64 1) (.int .i64 ver) (.int .i64 root) (.int .i64 0) (.slice ka 0 kc) (.slice ia 0 ic) (.slice ea 0 ec) (.string ⟨#[]⟩)
  have fF:=uT W3 w.heap.size (.int .i64 p) (.bool true) (.int .i64 1) (.int .i64 ver) (.int .i64 root) (.int .i64 0) (.slice ka 0 kc) (.slice ia 0 ic) (.slice ea 0 ec) (.string ⟨#[]⟩)
  have b3:=B2.trans (HB3.out.mono (by omega))
  refine bodyPost_ret (v:=.agg (qAf p ver root ka ia ea kc ic ec)) ?_ rfl ⟨ka,ia,ea,kc,ic,ec,rfl,b3.trans (fF.below (by have:=b3.size;omega) (oK (by omega)))⟩
  exact results_cell_row (p:=4) rfl _ _ w.heap.size _ _ _ _ rfl xF Tryz.underlying118 rfl (by kernel_rfl)
structure MV where
 p:Nat
 ver:Nat
 root:Nat
 ka:Option Addr
 ia:Option Addr
 ea:Option Addr
 kc:Nat
 ic:Nat
 ec:Nat
abbrev MV.cells (m:MV):Array Value:=#[.int .i64 m.p,.bool true,.int .i64 1,.int .i64 m.ver,.int .i64 m.root,.int .i64 0,.slice m.ka 0 m.kc,.slice m.ia 0 m.ic,.slice m.ea 0 m.ec,.string ⟨#[]⟩]
abbrev MV.obj (m:MV):Obj:=.cells m.cells 118
theorem Vw (m m':MV) (w:World) :
  Calls Tryz.prog 85 #[.agg m.cells,.agg m'.cells] w fun e w'=>e=.returned (.bool (decide (m.ver<m'.ver)))∧Below w.heap.size w w':=by
 obtain⟨W1,hW1⟩:=nM ((w.alloc m.obj).alloc m'.obj)
 have B1:Below w.heap.size w W1:=hW1▸(bA _ _).alloc (by simp) _
 have t1:W1.heap[w.heap.size]?=some m.obj:=hW1▸aB _ (aA w _)
 have r1:W1.heap[w.heap.size+1]?=some m'.obj:=by
  rw [← hW1];have:=aA (w.alloc m.obj) m'.obj;simpa using this
 obtain⟨c0,c1,c2,c3,c4,c5,c6,c7,c8,c9⟩:=jS t1
 obtain⟨d0,d1,d2,d3,d4,d5,d6,d7,d8,d9⟩:=jS r1
 go_enter Tryz.func85,Tryz.ntmps85
 go_wp2
 refine bodyPost_ret (v:=.bool (decide (m.ver<m'.ver))) ?_ rfl ⟨rfl,B1⟩
 simp [results,Tryz.results85,go_sem]
theorem yK (m:MV) (w:World) :
  Calls Tryz.prog 135 #[.agg #[.int .i64 1,.int .i64 m.ver,.int .i64 m.root,.int .i64 0,.slice m.ka 0 m.kc,.slice m.ia 0 m.ic,.slice m.ea 0 m.ec,.string ⟨#[]⟩]] w fun e w'=>e=.returned (.int .i64 ((m.ver % 2:Nat):Int))∧Below w.heap.size w w':=by
 obtain⟨W1,hW1⟩:=nM (w.alloc (.cells #[.int .i64 1,.int .i64 m.ver,.int .i64 m.root,.int .i64 0,.slice m.ka 0 m.kc,.slice m.ia 0 m.ic,.slice m.ea 0 m.ec,.string ⟨#[]⟩] 85))
 have B1:Below w.heap.size w W1:=hW1▸(bA _ _)
 have t1:W1.heap[w.heap.size]?=some (.cells #[.int .i64 1,.int .i64 m.ver,.int .i64 m.root,.int .i64 0,.slice m.ka 0 m.kc,.slice m.ia 0 m.ic,.slice m.ea 0 m.ec,.string ⟨#[]⟩] 85):=hW1▸aA w _
 obtain⟨c0,c1,c2,c3,c4,c5,c6,c7⟩:=bL t1
 go_enter Tryz.func135,Tryz.ntmps135
 go_wp2
 refine bodyPost_ret (v:=.int .i64 ((m.ver:Int) % 2)) ?_ rfl ⟨by simp,B1⟩
 simp [results,Tryz.results135,go_sem]
theorem sX {P:Program} {fn:Func} {p q:Tmp} {ty:TypeId} (h:fn.results=#[.cell p ty,.cell q ty]) (tmps:Array Value) (w:World) (g g':Nat) (t:TypeId) (cs cs':Array Value) (fr:Nat×Nat) (d:TypeDesc)
  (hp:tmps.getD p undef=.pointer (some ⟨g,0,none⟩)) (hq:tmps.getD q undef=.pointer (some ⟨g',0,none⟩)) (hg:w.heap[g]?=some (.cells cs t fr)) (hg':w.heap[g']?=some (.cells cs' t fr))
  (hu:P.underlying ty=some d) (hd:(match d with|.struct _|.array _ _=>true|_=>false)=true) (hi:(P.info? ty).map (·.size)=some cs.size) (hi':(P.info? ty).map (·.size)=some cs'.size) :
  (results fn tmps).run P w=.ok (.tuple #[.agg cs,.agg cs']) w:=by
 have hp':tmps[p]?.getD undef=.pointer (some ⟨g,0,none⟩):=by simpa using hp
 have hq':tmps[q]?.getD undef=.pointer (some ⟨g',0,none⟩):=by simpa using hq
 simp [results,h,hp',hq',asAddr,run_loadVar_row w g t ty cs fr d hg hu hd hi,run_loadVar_row w g' t ty cs' fr d hg' hu hd hi']
theorem c10 {b k i:Nat} {v0 v1 v2 v3 v4 v5 v6 v7 v8 v9 x:Value} (hk:b≠k) (h:w.cell? ⟨k,i,none⟩=some x):(Ll w b v0 v1 v2 v3 v4 v5 v6 v7 v8 v9).cell? ⟨k,i,none⟩=some x :=
 cC hk (cC hk (cC hk (cC hk (cC hk (cC hk (cC hk (cC hk (cC hk (cC hk h)))))))))
theorem sU (w:World) (a:Addr):w.drew.cell? a=w.cell? a:=rfl
theorem aK {b k i:Nat} {v0 v1 v2 v3 v4 v5 v6 v7 v8 v9 x:Value} (hk:b≠k) (h:w.cell? ⟨k,i,none⟩=some x):(Ll w b v0 v1 v2 v3 v4 v5 v6 v7 v8 v9).drew.cell? ⟨k,i,none⟩=some x:=by
 rw [sU];exact c10 hk h
theorem heap_drew (w:World):w.drew.heap=w.heap:=rfl
structure MG where
 p:Nat
 ok:Bool
 kd:Int
 ver:Nat
 root:Nat
 ka:Option Addr
 ia:Option Addr
 ea:Option Addr
 kc:Nat
 ic:Nat
 ec:Nat
abbrev MG.cells (m:MG):Array Value:=#[.int .i64 m.p,.bool m.ok,.int .i64 m.kd,.int .i64 m.ver,.int .i64 m.root,.int .i64 0,.slice m.ka 0 m.kc,.slice m.ia 0 m.ic,.slice m.ea 0 m.ec,.string ⟨#[]⟩]
abbrev MG.obj (m:MG):Obj:=.cells m.cells 118
abbrev MV.g (m:MV):MG:=⟨m.p,true,1,m.ver,m.root,m.ka,m.ia,m.ea,m.kc,m.ic,m.ec⟩
abbrev Pf (p:Nat):MG:=⟨p,false,0,0,0,none,none,none,0,0,0⟩
abbrev MG.put (m:MG) (w:World) (b:Nat):World:=Ll w b (.int .i64 m.p) (.bool m.ok) (.int .i64 m.kd) (.int .i64 m.ver) (.int .i64 m.root) (.int .i64 0) (.slice m.ka 0 m.kc) (.slice m.ia 0 m.ic) (.slice m.ea 0 m.ec) (.string ⟨#[]⟩)
theorem MG.put_box (m:MG)   {x0 x1 x2 x3 x4 x5 x6 x7 x8 x9:Value}  (h:w.heap[b]?=some (.cells #[x0,x1,x2,x3,x4,x5,x6,x7,x8,x9] t)):(m.put w b).heap[b]?=some (.cells m.cells t):=sF h _ _ _ _ _ _ _ _ _ _
theorem MG.put_fr (m:MG) (w:World) (b:Nat):Fr (Bl.one b) w (m.put w b):=uT w b _ _ _ _ _ _ _ _ _ _
theorem oB (β:Nat) (w:World) (P0 P1:MG→Prop) (lt:Bool)
  (hA:∀ X,Below w.heap.size w X→Calls Tryz.prog 84 #[.pointer (some ⟨β,0,none⟩),.int .i64 0] X fun e w'=>∃ m:MG,e=.returned (.agg m.cells)∧P0 m∧Below X.heap.size X w')
  (hB:∀ X,Below w.heap.size w X→Calls Tryz.prog 84 #[.pointer (some ⟨β,0,none⟩),.int .i64 1] X fun e w'=>∃ m:MG,e=.returned (.agg m.cells)∧P1 m∧Below X.heap.size X w')
  (hO:∀ a b:MG,P0 a→P1 b→∀ X,Calls Tryz.prog 85 #[.agg a.cells,.agg b.cells] X fun e w'=>e=.returned (.bool lt)∧Below X.heap.size X w') :
  Calls Tryz.prog 62 #[.pointer (some ⟨β,0,none⟩)] w fun e w'=>∃ m m':MG,e=.returned (.tuple #[.agg m.cells,.agg m'.cells])∧Below w.heap.size w w'∧((lt=true∧P1 m∧P0 m')∨(lt=false∧P0 m∧P1 m')):=by
 obtain⟨W1,hW1⟩:=nM ((w.alloc meta0).alloc meta0)
 have B1:Below w.heap.size w W1:=hW1▸(bA _ _).alloc (by simp) _
 have t1:W1.heap[w.heap.size]?=some meta0:=hW1▸aB _ (aA w _)
 have r1':W1.heap[w.heap.size+1]?=some meta0:=by
  rw [← hW1];have:=aA (w.alloc meta0) meta0;simpa using this
 have HA:Hid (∀ X,Below w.heap.size w X→Calls Tryz.prog 84 #[.pointer (some ⟨β,0,none⟩),.int .i64 0] X fun e w'=>∃ m:MG,e=.returned (.agg m.cells)∧P0 m∧Below X.heap.size X w'):=hA
 have HB:Hid (∀ X,Below w.heap.size w X→Calls Tryz.prog 84 #[.pointer (some ⟨β,0,none⟩),.int .i64 1] X fun e w'=>∃ m:MG,e=.returned (.agg m.cells)∧P1 m∧Below X.heap.size X w'):=hB
 have HO:Hid (∀ a b:MG,P0 a→P1 b→∀ X,Calls Tryz.prog 85 #[.agg a.cells,.agg b.cells] X fun e w'=>e=.returned (.bool lt)∧Below X.heap.size X w'):=hO
 clear hA hB hO
 cases lt
 ·have hA1:=HA.out W1 B1
  go_enter Tryz.func62,Tryz.ntmps62
  go_wp2_with (first
   | (go_at_call 84;(with_reducible refine jC hA1 ?_);rintro e X1 ⟨a,rfl,ha,hX1⟩;have BX1:=B1.trans (hX1.mono B1.size);have hB1:=HB.out X1 BX1;have HAa:Hid _:=ha;clear ha)
   | (go_at_call 84;(with_reducible refine jC hB1 ?_);rintro e X2 ⟨b,rfl,hb,hX2⟩;have HBb:Hid _:=hb;clear hb;have hO:=HO.out a b HAa.out HBb.out ((X2.alloc a.obj).alloc b.obj))
   | (go_at_call 85;(with_reducible refine jC hO ?_);rintro e X3 ⟨rfl,hX3⟩;have BX2:=BX1.trans (hX2.mono BX1.size);have BY:Below w.heap.size w X3:=(((BX2.alloc BX2.size a.obj).alloc (by have:=BX2.size;simp;omega) b.obj).trans (hX3.mono (by have:=BX2.size;simp;omega)));have FX:Below W1.heap.size W1 X3:=((((hX1.trans (hX2.mono hX1.size)).alloc (by have:=hX1.size;have:=hX2.size;omega) a.obj).alloc (by have:=hX1.size;have:=hX2.size;simp;omega) b.obj).trans (hX3.mono (by have:=hX1.size;have:=hX2.size;simp;omega)));have e1:=(hX3.block X2.heap.size (by simp;omega)).trans (aB b.obj (aA X2 a.obj));have e2:X3.heap[X2.heap.size+1]?=some b.obj:=(by have h0:=aA (X2.alloc a.obj) b.obj;have h1:(X2.alloc a.obj).heap.size=X2.heap.size+1:=(by simp);rw [h1] at h0;exact(hX3.block _ (by simp)).trans h0);have e3:=(FX.block _ (gL t1)).trans t1;have e4:=(FX.block _ (gL r1')).trans r1';obtain⟨x0,x1,x2,x3,x4,x5,x6,x7,x8,x9⟩:=jS e1;obtain⟨y0,y1,y2,y3,y4,y5,y6,y7,y8,y9⟩:=jS e2;obtain⟨z0,z1,z2,z3,z4,z5,z6,z7,z8,z9⟩:=jS e3;obtain⟨u0,u1,u2,u3,u4,u5,u6,u7,u8,u9⟩:=jS e4;have zfr:=aF e3;have ufr:=aF e4;have lt3:=BX2.size;have lt4:w.heap.size+1<X2.heap.size:=(by have h1:=(gL r1');have h2:=hX1.size;have h3:=hX2.size;omega)))
  clear hA1 hB1 hO hW1
  have HE1:Hid ((b.put (a.put X3 w.heap.size) (w.heap.size+1)).drew.heap[w.heap.size]?=some a.obj):=by
   show _=_
   rw [heap_drew]
   exact(b.put_fr _ _).heap (a.put_box e3) (oN (by omega))
  have HE2:Hid ((b.put (a.put X3 w.heap.size) (w.heap.size+1)).drew.heap[w.heap.size+1]?=some b.obj):=by
   show _=_
   rw [heap_drew]
   exact b.put_box ((a.put_fr _ _).heap e4 (oN (by omega)))
  have HBL:Hid (Below w.heap.size w (b.put (a.put X3 w.heap.size) (w.heap.size+1)).drew) :=
   Below.drew ((BY.trans ((a.put_fr X3 w.heap.size).below (by have:=BY.size;omega) (oK (by omega)))).trans ((b.put_fr _ _).below (by have:=BY.size;have:=(a.put_fr X3 w.heap.size).size;omega) (oK (by omega))))
  go_region_held3 (fun X=>X.cell? ⟨X2.heap.size,0,none⟩=some (.int .i64 a.p)∧X.cell? ⟨X2.heap.size,1,none⟩=some (.bool a.ok)∧X.cell? ⟨X2.heap.size,2,none⟩=some (.int .i64 a.kd)∧X.cell? ⟨X2.heap.size,3,none⟩=some (.int .i64 a.ver)∧X.cell? ⟨X2.heap.size,4,none⟩=some (.int .i64 a.root)∧X.cell? ⟨X2.heap.size,5,none⟩=some (.int .i64 0)∧X.cell? ⟨X2.heap.size,6,none⟩=some (.slice a.ka 0 a.kc)∧X.cell? ⟨X2.heap.size,7,none⟩=some (.slice a.ia 0 a.ic)∧X.cell? ⟨X2.heap.size,8,none⟩=some (.slice a.ea 0 a.ec)∧X.cell? ⟨X2.heap.size,9,none⟩=some (.string ⟨#[]⟩)∧X.cell? ⟨X2.heap.size+1,0,none⟩=some (.int .i64 b.p)∧X.cell? ⟨X2.heap.size+1,1,none⟩=some (.bool b.ok)∧X.cell? ⟨X2.heap.size+1,2,none⟩=some (.int .i64 b.kd)∧X.cell? ⟨X2.heap.size+1,3,none⟩=some (.int .i64 b.ver)∧X.cell? ⟨X2.heap.size+1,4,none⟩=some (.int .i64 b.root)∧X.cell? ⟨X2.heap.size+1,5,none⟩=some (.int .i64 0)∧X.cell? ⟨X2.heap.size+1,6,none⟩=some (.slice b.ka 0 b.kc)∧X.cell? ⟨X2.heap.size+1,7,none⟩=some (.slice b.ia 0 b.ic)∧X.cell? ⟨X2.heap.size+1,8,none⟩=some (.slice b.ea 0 b.ec)∧X.cell? ⟨X2.heap.size+1,9,none⟩=some (.string ⟨#[]⟩))
   ((first|(with_reducible exact⟨x0,x1,x2,x3,x4,x5,x6,x7,x8,x9,y0,y1,y2,y3,y4,y5,y6,y7,y8,y9⟩)|(with_reducible exact⟨aK (by omega) x0,aK (by omega) x1,aK (by omega) x2,aK (by omega) x3,aK (by omega) x4,aK (by omega) x5,aK (by omega) x6,aK (by omega) x7,aK (by omega) x8,aK (by omega) x9,aK (by omega) y0,aK (by omega) y1,aK (by omega) y2,aK (by omega) y3,aK (by omega) y4,aK (by omega) y5,aK (by omega) y6,aK (by omega) y7,aK (by omega) y8,aK (by omega) y9⟩)|(with_reducible exact⟨c10 (by omega) x0,c10 (by omega) x1,c10 (by omega) x2,c10 (by omega) x3,c10 (by omega) x4,c10 (by omega) x5,c10 (by omega) x6,c10 (by omega) x7,c10 (by omega) x8,c10 (by omega) x9,c10 (by omega) y0,c10 (by omega) y1,c10 (by omega) y2,c10 (by omega) y3,c10 (by omega) y4,c10 (by omega) y5,c10 (by omega) y6,c10 (by omega) y7,c10 (by omega) y8,c10 (by omega) y9⟩)|(with_reducible exact⟨aK (by omega) (c10 (by omega) x0),aK (by omega) (c10 (by omega) x1),aK (by omega) (c10 (by omega) x2),aK (by omega) (c10 (by omega) x3),aK (by omega) (c10 (by omega) x4),aK (by omega) (c10 (by omega) x5),aK (by omega) (c10 (by omega) x6),aK (by omega) (c10 (by omega) x7),aK (by omega) (c10 (by omega) x8),aK (by omega) (c10 (by omega) x9),aK (by omega) (c10 (by omega) y0),aK (by omega) (c10 (by omega) y1),aK (by omega) (c10 (by omega) y2),aK (by omega) (c10 (by omega) y3),aK (by omega) (c10 (by omega) y4),aK (by omega) (c10 (by omega) y5),aK (by omega) (c10 (by omega) y6),aK (by omega) (c10 (by omega) y7),aK (by omega) (c10 (by omega) y8),aK (by omega) (c10 (by omega) y9)⟩)|(with_reducible exact⟨aK (by omega) (aK (by omega) x0),aK (by omega) (aK (by omega) x1),aK (by omega) (aK (by omega) x2),aK (by omega) (aK (by omega) x3),aK (by omega) (aK (by omega) x4),aK (by omega) (aK (by omega) x5),aK (by omega) (aK (by omega) x6),aK (by omega) (aK (by omega) x7),aK (by omega) (aK (by omega) x8),aK (by omega) (aK (by omega) x9),aK (by omega) (aK (by omega) y0),aK (by omega) (aK (by omega) y1),aK (by omega) (aK (by omega) y2),aK (by omega) (aK (by omega) y3),aK (by omega) (aK (by omega) y4),aK (by omega) (aK (by omega) y5),aK (by omega) (aK (by omega) y6),aK (by omega) (aK (by omega) y7),aK (by omega) (aK (by omega) y8),aK (by omega) (aK (by omega) y9)⟩)|(with_reducible exact⟨c10 (by omega) (aK (by omega) x0),c10 (by omega) (aK (by omega) x1),c10 (by omega) (aK (by omega) x2),c10 (by omega) (aK (by omega) x3),c10 (by omega) (aK (by omega) x4),c10 (by omega) (aK (by omega) x5),c10 (by omega) (aK (by omega) x6),c10 (by omega) (aK (by omega) x7),c10 (by omega) (aK (by omega) x8),c10 (by omega) (aK (by omega) x9),c10 (by omega) (aK (by omega) y0),c10 (by omega) (aK (by omega) y1),c10 (by omega) (aK (by omega) y2),c10 (by omega) (aK (by omega) y3),c10 (by omega) (aK (by omega) y4),c10 (by omega) (aK (by omega) y5),c10 (by omega) (aK (by omega) y6),c10 (by omega) (aK (by omega) y7),c10 (by omega) (aK (by omega) y8),c10 (by omega) (aK (by omega) y9)⟩)|(simp [x0,x1,x2,x3,x4,x5,x6,x7,x8,x9,y0,y1,y2,y3,y4,y5,y6,y7,y8,y9])))
   (fail)
  all_goals go_wp2
  all_goals
   refine bodyPost_ret (v:=.tuple #[.agg a.cells,.agg b.cells]) ?_ rfl ⟨a,b,rfl,HBL.out,(.inr ⟨by simp,HAa.out,HBb.out⟩)⟩
   exact sX (p:=2) (q:=3) rfl _ _ w.heap.size (w.heap.size+1) _ _ _ _ _ rfl rfl HE1.out HE2.out Tryz.underlying118 rfl (by kernel_rfl) (by kernel_rfl)
 ·have hA1:=HA.out W1 B1
  go_enter Tryz.func62,Tryz.ntmps62
  go_wp2_with (first
   | (go_at_call 84;(with_reducible refine jC hA1 ?_);rintro e X1 ⟨a,rfl,ha,hX1⟩;have BX1:=B1.trans (hX1.mono B1.size);have hB1:=HB.out X1 BX1;have HAa:Hid _:=ha;clear ha)
   | (go_at_call 84;(with_reducible refine jC hB1 ?_);rintro e X2 ⟨b,rfl,hb,hX2⟩;have HBb:Hid _:=hb;clear hb;have hO:=HO.out a b HAa.out HBb.out ((X2.alloc a.obj).alloc b.obj))
   | (go_at_call 85;(with_reducible refine jC hO ?_);rintro e X3 ⟨rfl,hX3⟩;have BX2:=BX1.trans (hX2.mono BX1.size);have BY:Below w.heap.size w X3:=(((BX2.alloc BX2.size a.obj).alloc (by have:=BX2.size;simp;omega) b.obj).trans (hX3.mono (by have:=BX2.size;simp;omega)));have FX:Below W1.heap.size W1 X3:=((((hX1.trans (hX2.mono hX1.size)).alloc (by have:=hX1.size;have:=hX2.size;omega) a.obj).alloc (by have:=hX1.size;have:=hX2.size;simp;omega) b.obj).trans (hX3.mono (by have:=hX1.size;have:=hX2.size;simp;omega)));have e1:=(hX3.block X2.heap.size (by simp;omega)).trans (aB b.obj (aA X2 a.obj));have e2:X3.heap[X2.heap.size+1]?=some b.obj:=(by have h0:=aA (X2.alloc a.obj) b.obj;have h1:(X2.alloc a.obj).heap.size=X2.heap.size+1:=(by simp);rw [h1] at h0;exact(hX3.block _ (by simp)).trans h0);have e3:=(FX.block _ (gL t1)).trans t1;have e4:=(FX.block _ (gL r1')).trans r1';obtain⟨x0,x1,x2,x3,x4,x5,x6,x7,x8,x9⟩:=jS e1;obtain⟨y0,y1,y2,y3,y4,y5,y6,y7,y8,y9⟩:=jS e2;obtain⟨z0,z1,z2,z3,z4,z5,z6,z7,z8,z9⟩:=jS e3;obtain⟨u0,u1,u2,u3,u4,u5,u6,u7,u8,u9⟩:=jS e4;have zfr:=aF e3;have ufr:=aF e4;have lt3:=BX2.size;have lt4:w.heap.size+1<X2.heap.size:=(by have h1:=(gL r1');have h2:=hX1.size;have h3:=hX2.size;omega)))
  clear hA1 hB1 hO hW1
  have HE1:Hid ((a.put (b.put X3 w.heap.size) (w.heap.size+1)).drew.heap[w.heap.size]?=some b.obj):=by
   show _=_
   rw [heap_drew]
   exact(a.put_fr _ _).heap (b.put_box e3) (oN (by omega))
  have HE2:Hid ((a.put (b.put X3 w.heap.size) (w.heap.size+1)).drew.heap[w.heap.size+1]?=some a.obj):=by
   show _=_
   rw [heap_drew]
   exact a.put_box ((b.put_fr _ _).heap e4 (oN (by omega)))
  have HBL:Hid (Below w.heap.size w (a.put (b.put X3 w.heap.size) (w.heap.size+1)).drew) :=
   Below.drew ((BY.trans ((b.put_fr X3 w.heap.size).below (by have:=BY.size;omega) (oK (by omega)))).trans ((a.put_fr _ _).below (by have:=BY.size;have:=(b.put_fr X3 w.heap.size).size;omega) (oK (by omega))))
  go_region_held3 (fun X=>X.cell? ⟨X2.heap.size,0,none⟩=some (.int .i64 a.p)∧X.cell? ⟨X2.heap.size,1,none⟩=some (.bool a.ok)∧X.cell? ⟨X2.heap.size,2,none⟩=some (.int .i64 a.kd)∧X.cell? ⟨X2.heap.size,3,none⟩=some (.int .i64 a.ver)∧X.cell? ⟨X2.heap.size,4,none⟩=some (.int .i64 a.root)∧X.cell? ⟨X2.heap.size,5,none⟩=some (.int .i64 0)∧X.cell? ⟨X2.heap.size,6,none⟩=some (.slice a.ka 0 a.kc)∧X.cell? ⟨X2.heap.size,7,none⟩=some (.slice a.ia 0 a.ic)∧X.cell? ⟨X2.heap.size,8,none⟩=some (.slice a.ea 0 a.ec)∧X.cell? ⟨X2.heap.size,9,none⟩=some (.string ⟨#[]⟩)∧X.cell? ⟨X2.heap.size+1,0,none⟩=some (.int .i64 b.p)∧X.cell? ⟨X2.heap.size+1,1,none⟩=some (.bool b.ok)∧X.cell? ⟨X2.heap.size+1,2,none⟩=some (.int .i64 b.kd)∧X.cell? ⟨X2.heap.size+1,3,none⟩=some (.int .i64 b.ver)∧X.cell? ⟨X2.heap.size+1,4,none⟩=some (.int .i64 b.root)∧X.cell? ⟨X2.heap.size+1,5,none⟩=some (.int .i64 0)∧X.cell? ⟨X2.heap.size+1,6,none⟩=some (.slice b.ka 0 b.kc)∧X.cell? ⟨X2.heap.size+1,7,none⟩=some (.slice b.ia 0 b.ic)∧X.cell? ⟨X2.heap.size+1,8,none⟩=some (.slice b.ea 0 b.ec)∧X.cell? ⟨X2.heap.size+1,9,none⟩=some (.string ⟨#[]⟩))
   ((first|(with_reducible exact⟨x0,x1,x2,x3,x4,x5,x6,x7,x8,x9,y0,y1,y2,y3,y4,y5,y6,y7,y8,y9⟩)|(with_reducible exact⟨aK (by omega) x0,aK (by omega) x1,aK (by omega) x2,aK (by omega) x3,aK (by omega) x4,aK (by omega) x5,aK (by omega) x6,aK (by omega) x7,aK (by omega) x8,aK (by omega) x9,aK (by omega) y0,aK (by omega) y1,aK (by omega) y2,aK (by omega) y3,aK (by omega) y4,aK (by omega) y5,aK (by omega) y6,aK (by omega) y7,aK (by omega) y8,aK (by omega) y9⟩)|(with_reducible exact⟨c10 (by omega) x0,c10 (by omega) x1,c10 (by omega) x2,c10 (by omega) x3,c10 (by omega) x4,c10 (by omega) x5,c10 (by omega) x6,c10 (by omega) x7,c10 (by omega) x8,c10 (by omega) x9,c10 (by omega) y0,c10 (by omega) y1,c10 (by omega) y2,c10 (by omega) y3,c10 (by omega) y4,c10 (by omega) y5,c10 (by omega) y6,c10 (by omega) y7,c10 (by omega) y8,c10 (by omega) y9⟩)|(with_reducible exact⟨aK (by omega) (c10 (by omega) x0),aK (by omega) (c10 (by omega) x1),aK (by omega) (c10 (by omega) x2),aK (by omega) (c10 (by omega) x3),aK (by omega) (c10 (by omega) x4),aK (by omega) (c10 (by omega) x5),aK (by omega) (c10 (by omega) x6),aK (by omega) (c10 (by omega) x7),aK (by omega) (c10 (by omega) x8),aK (by omega) (c10 (by omega) x9),aK (by omega) (c10 (by omega) y0),aK (by omega) (c10 (by omega) y1),aK (by omega) (c10 (by omega) y2),aK (by omega) (c10 (by omega) y3),aK (by omega) (c10 (by omega) y4),aK (by omega) (c10 (by omega) y5),aK (by omega) (c10 (by omega) y6),aK (by omega) (c10 (by omega) y7),aK (by omega) (c10 (by omega) y8),aK (by omega) (c10 (by omega) y9)⟩)|(with_reducible exact⟨aK (by omega) (aK (by omega) x0),aK (by omega) (aK (by omega) x1),aK (by omega) (aK (by omega) x2),aK (by omega) (aK (by omega) x3),aK (by omega) (aK (by omega) x4),aK (by omega) (aK (by omega) x5),aK (by omega) (aK (by omega) x6),aK (by omega) (aK (by omega) x7),aK (by omega) (aK (by omega) x8),aK (by omega) (aK (by omega) x9),aK (by omega) (aK (by omega) y0),aK (by omega) (aK (by omega) y1),aK (by omega) (aK (by omega) y2),aK (by omega) (aK (by omega) y3),aK (by omega) (aK (by omega) y4),aK (by omega) (aK (by omega) y5),aK (by omega) (aK (by omega) y6),aK (by omega) (aK (by omega) y7),aK (by omega) (aK (by omega) y8),aK (by omega) (aK (by omega) y9)⟩)|(with_reducible exact⟨c10 (by omega) (aK (by omega) x0),c10 (by omega) (aK (by omega) x1),c10 (by omega) (aK (by omega) x2),c10 (by omega) (aK (by omega) x3),c10 (by omega) (aK (by omega) x4),c10 (by omega) (aK (by omega) x5),c10 (by omega) (aK (by omega) x6),c10 (by omega) (aK (by omega) x7),c10 (by omega) (aK (by omega) x8),c10 (by omega) (aK (by omega) x9),c10 (by omega) (aK (by omega) y0),c10 (by omega) (aK (by omega) y1),c10 (by omega) (aK (by omega) y2),c10 (by omega) (aK (by omega) y3),c10 (by omega) (aK (by omega) y4),c10 (by omega) (aK (by omega) y5),c10 (by omega) (aK (by omega) y6),c10 (by omega) (aK (by omega) y7),c10 (by omega) (aK (by omega) y8),c10 (by omega) (aK (by omega) y9)⟩)|(simp [x0,x1,x2,x3,x4,x5,x6,x7,x8,x9,y0,y1,y2,y3,y4,y5,y6,y7,y8,y9])))
   (fail)
  all_goals go_wp2
  all_goals
   refine bodyPost_ret (v:=.tuple #[.agg b.cells,.agg a.cells]) ?_ rfl ⟨b,a,rfl,HBL.out,(.inl ⟨by simp,HBb.out,HAa.out⟩)⟩
   exact sX (p:=2) (q:=3) rfl _ _ w.heap.size (w.heap.size+1) _ _ _ _ _ rfl rfl HE1.out HE2.out Tryz.underlying118 rfl (by kernel_rfl) (by kernel_rfl)
theorem vD {β:Nat} {sv lv:Value} {fs:Fs} (hl:(fs.life==0)=false)  (hf:aG w β sv lv fs) {p v r:Nat} (hp:p<fs.safe.length) (hm:fC fs p v r) (X:World) (hX:Below w.heap.size w X) :
  Calls Tryz.prog 84 #[.pointer (some ⟨β,0,none⟩),.int .i64 (p:Nat)] X fun e w'=>∃ m:MG,e=.returned (.agg m.cells)∧(∃ q:MV,m=q.g∧q.p=p∧q.ver=v∧q.root=r)∧Below X.heap.size X w' :=
 (Cp β sv lv fs hl p v r X (hf.on (vV hX hf.lies)) hp hm).mono fun e w' ⟨ka,ia,ea,kc,ic,ec,he,hb⟩=>⟨(⟨p,v,r,ka,ia,ea,kc,ic,ec⟩:MV).g,he,⟨_,rfl,rfl,rfl,rfl⟩,hb⟩
theorem sY (β:Nat) (sv lv:Value) (fs:Fs) (hl:(fs.life==0)=false) (v0 r0 v1 r1:Nat) (w:World) (hf:aG w β sv lv fs) (hp:1<fs.safe.length) (hm0:fC fs 0 v0 r0) (hm1:fC fs 1 v1 r1) :
  Calls Tryz.prog 62 #[.pointer (some ⟨β,0,none⟩)] w fun e w'=>∃ m m':MV,e=.returned (.tuple #[.agg m.cells,.agg m'.cells])∧Below w.heap.size w w'∧((v0<v1∧m.p=1∧m.ver=v1∧m.root=r1∧m'.p=0∧m'.ver=v0∧m'.root=r0)∨(¬ v0<v1∧m.p=0∧m.ver=v0∧m.root=r0∧m'.p=1∧m'.ver=v1∧m'.root=r1)):=by
 refine(oB β w _ _ (decide (v0<v1)) (vD (p:=0) hl hf (by omega) hm0) (vD (p:=1) hl hf hp hm1) ?_).mono ?_
 ·rintro _ _ ⟨a,rfl,_,ha,_⟩ ⟨b,rfl,_,hb,_⟩ X
  rw [← ha,← hb]
  exact Vw a b X
 ·rintro e w' ⟨m,m',rfl,hb,⟨hv,⟨q,rfl,a1,a2,a3⟩,⟨q',rfl,b1,b2,b3⟩⟩|⟨hv,⟨q,rfl,a1,a2,a3⟩,⟨q',rfl,b1,b2,b3⟩⟩⟩
  ·exact⟨q,q',rfl,hb,.inl ⟨of_decide_eq_true hv,a1,a2,a3,b1,b2,b3⟩⟩
  ·exact⟨q,q',rfl,hb,.inr ⟨of_decide_eq_false hv,a1,a2,a3,b1,b2,b3⟩⟩
theorem Fu (D:Db) (st:Int) (ver:Nat) (w:World) (h:aN w st D) (hv:D.ver=ver) (hl:(D.fs.life==0)=false) (hp:1<D.fs.safe.length) (hm:fC D.fs (ver % 2) ver D.root) :
  Calls Tryz.prog 132 #[.pointer (some ⟨D.d,0,none⟩)] w fun e w'=>e=.returned (.tuple #[])∧Below w.heap.size w w':=by
 have hbox:w.heap[D.d]?=some (.cells #[.int .i32 st,.int .u32 0,.pointer (some ⟨D.β,0,none⟩),.int .i64 1,.int .i64 ver,.int .i64 D.root,.int .i64 0,.slice D.ka 0 D.kc,.slice D.ia 0 D.ic,.slice D.ea 0 D.ec,.string ⟨#[]⟩,.int .i64 D.aroot,.bool D.failed,.int .i64 D.last,D.ov] 88):=by
  have:=h.box
  rw [dbO,dbC,hv] at this
  exact this
 obtain⟨c0,c1,c2,c3,c4,c5,c6,c7,c8,c9,c10,c11,c12,c13,c14⟩:=eT hbox
 have hmod:(((ver % 2:Nat)):Int)=(ver:Int) % 2:=by simp
 have HM0:Hid (∀ X,Below w.heap.size w X→Calls Tryz.prog 84 #[.pointer (some ⟨D.β,0,none⟩),.int .i64 ((ver % 2:Nat):Int)] X fun e w'=>∃ m:MV,e=.returned (.agg #[.int .i64 m.p,.bool true,.int .i64 1,.int .i64 m.ver,.int .i64 m.root,.int .i64 0,.slice m.ka 0 m.kc,.slice m.ia 0 m.ic,.slice m.ea 0 m.ec,.string ⟨#[]⟩])∧Below X.heap.size X w'):=fun X hX=>(Cp D.β D.sv D.lv D.fs hl (ver % 2) ver D.root X (h.file.on (vV hX h.file.lies)) (by omega) hm).mono fun e w' ⟨ka,ia,ea,kc,ic,ec,he,hb⟩=>⟨⟨ver % 2,ver,D.root,ka,ia,ea,kc,ic,ec⟩,he,hb⟩
 have HM:Hid (∀ X,Below w.heap.size w X→Calls Tryz.prog 84 #[.pointer (some ⟨D.β,0,none⟩),.int .i64 ((ver:Int) % 2)] X fun e w'=>∃ m:MV,e=.returned (.agg #[.int .i64 m.p,.bool true,.int .i64 1,.int .i64 m.ver,.int .i64 m.root,.int .i64 0,.slice m.ka 0 m.kc,.slice m.ia 0 m.ic,.slice m.ea 0 m.ec,.string ⟨#[]⟩])∧Below X.heap.size X w'):=by
  have:=HM0.out
  rw [hmod] at this
  exact this
 have HBX:Hid (∀ X,Below w.heap.size w X→X.heap[D.d]?=some (.cells #[.int .i32 st,.int .u32 0,.pointer (some ⟨D.β,0,none⟩),.int .i64 1,.int .i64 ver,.int .i64 D.root,.int .i64 0,.slice D.ka 0 D.kc,.slice D.ia 0 D.ic,.slice D.ea 0 D.ec,.string ⟨#[]⟩,.int .i64 D.aroot,.bool D.failed,.int .i64 D.last,D.ov] 88)):=fun X hX=>(hX.block _ (gL hbox)).trans hbox
 have hP:∀ X,Calls Tryz.prog 135 #[.agg #[.int .i64 1,.int .i64 ver,.int .i64 D.root,.int .i64 0,.slice D.ka 0 D.kc,.slice D.ia 0 D.ic,.slice D.ea 0 D.ec,.string ⟨#[]⟩]] X fun e w'=>e=.returned (.int .i64 ((ver % 2:Nat):Int))∧Below X.heap.size X w':=fun X=>yK ⟨0,ver,D.root,D.ka,D.ia,D.ea,D.kc,D.ic,D.ec⟩ X
 rw [hmod] at hP
 have HP:Hid _:=hP
 clear hP hm hp hl hv hmod HM0
 have hfd:∀ (m:MV) (W:World),(Instr.field 118 (.agg #[.int .i64 m.p,.bool true,.int .i64 1,.int .i64 m.ver,.int .i64 m.root,.int .i64 0,.slice m.ka 0 m.kc,.slice m.ia 0 m.ic,.slice m.ea 0 m.ec,.string ⟨#[]⟩]) 1).run Tryz.prog W=.ok (.bool true) W:=fun m W=>by kernel_rfl
 go_enter Tryz.func132,Tryz.ntmps132
 go_wp2
 go_region_held3 (fun X=>X.cell? ⟨D.d,2,none⟩=some (.pointer (some ⟨D.β,0,none⟩))∧X.cell? ⟨D.d,3,none⟩=some (.int .i64 1)∧X.cell? ⟨D.d,4,none⟩=some (.int .i64 ver)∧X.cell? ⟨D.d,5,none⟩=some (.int .i64 D.root)∧X.cell? ⟨D.d,6,none⟩=some (.int .i64 0)∧X.cell? ⟨D.d,7,none⟩=some (.slice D.ka 0 D.kc)∧X.cell? ⟨D.d,8,none⟩=some (.slice D.ia 0 D.ic)∧X.cell? ⟨D.d,9,none⟩=some (.slice D.ea 0 D.ec)∧X.cell? ⟨D.d,10,none⟩=some (.string ⟨#[]⟩))
  ((first|(with_reducible exact⟨c2,c3,c4,c5,c6,c7,c8,c9,c10⟩)|(simp [c2,c3,c4,c5,c6,c7,c8,c9,c10])))
  (first
   | (go_at_call 135;(with_reducible refine jC (HP.out _) ?_);rintro e X1 ⟨rfl,hX1⟩;have BX1:Below w.heap.size w X1:=(Below.refl _ w).drew.trans hX1;obtain⟨c0,c1,c2,c3,c4,c5,c6,c7,c8,c9,c10,c11,c12,c13,c14⟩:=eT (HBX.out X1 BX1))
   | (go_at_call 84;(with_reducible refine jC (HM.out _ ?_) ?_);(first|exact BX1.drew|exact BX1);rintro e X2 ⟨m,rfl,hX2⟩;have BX2:Below w.heap.size w X2:=(by first|exact BX1.trans (hX2.mono BX1.size)|exact BX1.drew.trans (hX2.mono BX1.size));obtain⟨c0,c1,c2,c3,c4,c5,c6,c7,c8,c9,c10,c11,c12,c13,c14⟩:=eT (HBX.out X2 BX2)))
 all_goals go_wp2
 all_goals
  refine bodyPost_end (v:=.tuple #[]) ?_ rfl ⟨rfl,BX2⟩
  simp [results,Tryz.results132]
theorem xO (k:ByteArray) (w:World) :
  Calls Tryz.prog 45 #[.string k] w fun e w'=>e=.returned (.bool (decide (1≤k.size∧k.size≤24)))∧w'=w:=by
 by_cases h1:1≤k.size
 ·by_cases h2:k.size≤24
  ·have g1:(1:Int)≤(k.size:Int):=by omega
   have g2:(k.size:Int)≤24:=by omega
   go_enter Tryz.func45,Tryz.ntmps45
   go_wp2
   refine bodyPost_ret (v:=.bool true) ?_ rfl ⟨by rw [decide_eq_true ⟨h1,h2⟩],rfl⟩
   simp [results,Tryz.results45,go_sem,h1,h2]
  ·have g1:(1:Int)≤(k.size:Int):=by omega
   have g2:¬ (k.size:Int)≤24:=by omega
   go_enter Tryz.func45,Tryz.ntmps45
   go_wp2
   refine bodyPost_ret (v:=.bool false) ?_ rfl ⟨rfl,rfl⟩
   simp [results,Tryz.results45,go_sem,h1,h2]
 ·have g1:¬ (1:Int)≤(k.size:Int):=by omega
  go_enter Tryz.func45,Tryz.ntmps45
  go_wp2
  refine bodyPost_ret (v:=.bool false) ?_ rfl ⟨rfl,rfl⟩
  simp [results,Tryz.results45,go_sem,h1]
theorem Rm (β c:Nat) (t:Tx) (x:Int) (w:World) (hb:w.heap[t.b]?=some (txO β t)) (hc:w.heap[c]?=some (.cells #[.int .i64 x] 3)) :
  Calls Tryz.prog 99 #[.pointer (some ⟨t.b,0,none⟩),.pointer (some ⟨c,0,none⟩)] w fun e w'=>e=.returned (.bool (t.num==x))∧Below w.heap.size w w':=by
 have c0:w.cell? ⟨t.b,0,none⟩=some (.int .i64 t.num):=by simp [World.cell?,hb]
 have d0:w.cell? ⟨c,0,none⟩=some (.int .i64 x):=by simp [World.cell?,hc]
 go_enter Tryz.func99,Tryz.ntmps99
 go_wp2
 go_region_held3 (fun X=>X.cell? ⟨t.b,0,none⟩=some (.int .i64 t.num)∧X.cell? ⟨c,0,none⟩=some (.int .i64 x))
  ((first|(with_reducible exact⟨c0,d0⟩)|(simp [c0,d0])))
  (fail)
 all_goals go_wp2
 all_goals go_ret
 all_goals exact⟨rfl,(Below.refl _ w).drew⟩
def mU (ts:List Tx) (x:Int):Int:=match ts.findIdx? (fun t=>t.num==x) with
 | some i=>i
 | none=>-1
theorem kL {ts:List Tx} {x:Int} {j:Nat} (h:j<ts.length) (hx:(ts[j].num==x)=true) (hb:∀ m (hm:m<ts.length),m<j→(ts[m].num==x)=false):mU ts x=j:=by
 have:ts.findIdx? (fun t=>t.num==x)=some j:=by
  rw [List.findIdx?_eq_some_iff_getElem]
  exact⟨h,hx,fun m hm=>by simpa using hb m (by omega) hm⟩
 unfold mU
 rw [this]
theorem Xl {ts:List Tx} {x:Int} (hb:∀ m (hm:m<ts.length),(ts[m].num==x)=false):mU ts x = -1:=by
 have:ts.findIdx? (fun t=>t.num==x)=none:=by
  rw [List.findIdx?_eq_none_iff]
  intro t ht
  obtain⟨m,hm,rfl⟩:=List.getElem_of_mem ht
  exact hb m hm
 unfold mU
 rw [this]
theorem Fi (β c:Nat) (oa:Option Addr) (oc:Nat) (ts:List Tx) (x:Int) (S:Bl) (w:World) (hR:aH w S oa (kO ts)) (hS:∀ b,S b→b<w.heap.size) (hT:∀ t∈ts,w.heap[t.b]?=some (txO β t)) (hc:w.heap[c]?=some (.cells #[.int .i64 x] 3)) (hn:ts.length≤1000000) (hcc:ts.length≤oc) :
  Calls Tryz.prog 98 #[.slice oa ts.length oc,.func (.func 99) #[] #[.pointer (some ⟨c,0,none⟩)]] w fun e w'=>e=.returned (.int .i64 (mU ts x))∧Below w.heap.size w w':=by
 go_enter Tryz.func98,Tryz.ntmps98
 go_wp2
 go_loopw [8] (fun a wr=>∃ j:Nat,a=.int .i64 j∧j≤ts.length∧Below w.heap.size w wr∧Hid (∀ m (hm:m<ts.length),m<j→(ts[m].num==x)=false)) (fun a _=>ts.length-(intOf a).toNat)
 case atStart=>exact⟨0,rfl,Nat.zero_le _,Below.refl _ _,fun m hm h=>by omega⟩
 case round =>
  obtain⟨j,rfl,hj,hb,HI⟩:=hrel
  by_cases hlt:j<ts.length
  ·have hlti:(j:Int)<(ts.length:Int):=by omega
   have hR1:=hR.on (vV hb hS)
   have hne:kO ts≠[]:=by
    intro e
    have:=congrArg List.length e
    simp [kO] at this
    subst this
    simp at hlt
   rcases hR1 with h0|⟨g,o,rfl,hg,hcell⟩
   ·exact absurd h0 hne
   obtain⟨t,ht⟩:=nM (ts[j])
   have k0:wr.cell? ⟨g,o+j,none⟩=some (.pointer (some ⟨t.b,0,none⟩)):=hcell j _ (by simp [kO,hlt,ht])
   have hC:=Rm β c t x wr ((hb.block _ (jJ.1 (hT t (ht▸List.getElem_mem hlt))).1).trans (hT t (ht▸List.getElem_mem hlt))) ((hb.block _ (gL hc)).trans hc)
   have HT:Hid (ts[j]=t):=ht
   clear ht hcell hR hne
   cases he:(t.num==x)
   ·rw [he] at hC
    go_wp2_with (go_at_call 99;(with_reducible refine jC hC ?_);rintro e w2 ⟨rfl,hb2⟩)
    refine⟨⟨j+1,by simp,by omega,hb.trans (hb2.mono hb.size),fun m hm hmj=>?_⟩,by simp [intOf];omega⟩
    by_cases hmj':m=j
    ·subst hmj';rw [HT.out];exact he
    ·exact HI.out m hm (by omega)
   ·rw [he] at hC
    go_wp2_with (go_at_call 99;(with_reducible refine jC hC ?_);rintro e w2 ⟨rfl,hb2⟩)
    refine bodyPost_ret (v:=.int .i64 j) ?_ rfl ⟨?_,hb.trans (hb2.mono hb.size)⟩
    ·simp [results,Tryz.results98,go_sem]
    ·rw [kL hlt (by rw [HT.out];exact he) HI.out]
  ·obtain rfl:j=ts.length:=by omega
   have hlti:¬ (ts.length:Int)<(ts.length:Int):=by omega
   go_wp2
   refine bodyPost_ret (v:=.int .i64 (-1)) ?_ rfl ⟨?_,hb⟩
   ·simp [results,Tryz.results98,go_sem]
   ·rw [Xl (fun m hm=>HI.out m hm hm)]
theorem Ia (D:Db) (st:Int) (x:Int) (w:World) (h:aN w st D) (hn:D.ts.length≤1000000) :
  Calls Tryz.prog 68 #[.pointer (some ⟨D.d,0,none⟩),.int .i64 x] w fun e w'=>e=.returned (.int .i64 (mU D.ts x))∧Below w.heap.size w w':=by
 obtain⟨oa,oc,hov,hoc,hrow⟩:=cO h.row
 obtain⟨W1,hW1⟩:=nM (w.alloc (.cells #[.int .i64 x] 3))
 have B1:Below w.heap.size w W1:=hW1▸(bA _ _)
 have x1:W1.heap[w.heap.size]?=some (.cells #[.int .i64 x] 3):=hW1▸aA w _
 have h1:=h.on (vV B1 h.lies)
 obtain⟨c0,c1,c2,c3,c4,c5,c6,c7,c8,c9,c10,c11,c12,c13,c14⟩:=eT h1.box
 rw [hov] at c14
 have hC:=Fi D.β w.heap.size oa oc D.ts x (fun k=>D.ov.ownBlock=some k) W1 (hrow.on (vV B1 (fun k hk=>aX h.row hk))) (fun k hk=>jY (aX h.row hk) B1.size) (fun t ht=>(h1.each t ht).box) x1 hn hoc
 clear c0 c1 c2 c3 c4 c5 c6 c7 c8 c9 c10 c11 c12 c13 hov
 go_enter Tryz.func68,Tryz.ntmps68
 go_wp2_with (go_at_call 98;(with_reducible refine jC hC ?_);rintro e w2 ⟨rfl,hb2⟩)
 go_ret
 exact⟨rfl,B1.trans (hb2.mono B1.size)⟩
theorem pW (D:Db) (st:Int) (x:Int) (i:Nat) (t:Tx) (w:World) (h:aN w st D) (hn:D.ts.length≤1000000) (hi:i<D.ts.length) (ht:D.ts[i]=t) (hx:mU D.ts x=i) :
  Calls Tryz.prog 53 #[.pointer (some ⟨D.d,0,none⟩),.int .i64 x] w fun e w'=>e=.returned (.tuple #[.pointer (some ⟨t.b,0,none⟩),.int .i64 0])∧Below w.heap.size w w':=by
 obtain⟨oa,oc,hov,hoc,hrow⟩:=cO h.row
 have hC:=Ia D st x w h hn
 rw [hx] at hC
 have HK:Hid (∀ X,Below w.heap.size w X→X.cell? ⟨D.d,14,none⟩=some (.slice oa D.ts.length oc)∧∃ g o,oa=some ⟨g,o,none⟩∧X.cell? ⟨g,o+i,none⟩=some (.pointer (some ⟨t.b,0,none⟩))):=by
  intro X hX
  have h1:=h.on (vV hX h.lies)
  obtain⟨c0,c1,c2,c3,c4,c5,c6,c7,c8,c9,c10,c11,c12,c13,c14⟩:=eT h1.box
  rw [hov] at c14
  refine⟨c14,?_⟩
  rcases hrow.on (vV hX (fun k hk=>aX h.row hk)) with h0|⟨g,o,rfl,hg,hcell⟩
  ·have:=congrArg List.length h0
   simp [kO] at this
   rw [this] at hi
   simp at hi
  ·exact⟨g,o,rfl,hcell i _ (by simp [kO,hi,ht])⟩
 have hii:¬ (i:Int)<0:=by omega
 have hil:(i:Int)<(D.ts.length:Int):=by omega
 have hi0:(0:Int)≤(i:Int):=by omega
 clear hov hrow hx ht h
 go_enter Tryz.func53,Tryz.ntmps53
 go_wp2_with (go_at_call 68;(with_reducible refine jC hC ?_);rintro e w2 ⟨rfl,hb2⟩;obtain⟨c14,g,o,rfl,k0⟩:=HK.out w2 hb2)
 go_ret2
 exact⟨rfl,hb2⟩
theorem Av (D:Db) (st:Int) (x:Int) (i:Nat) (t:Tx) (w:World) (h:aN w st D) (hn:D.ts.length≤1000000) (hi:i<D.ts.length) (ht:D.ts[i]=t) (hx:mU D.ts x=i) (hw:t.wr=true) :
  Calls Tryz.prog 44 #[.pointer (some ⟨D.d,0,none⟩),.int .i64 x] w fun e w'=>e=.returned (.tuple #[.pointer (some ⟨t.b,0,none⟩),.int .i64 0])∧Below w.heap.size w w':=by
 have hC:=pW D st x i t w h hn hi ht hx
 have HK:Hid (∀ X,Below w.heap.size w X→X.cell? ⟨t.b,1,none⟩=some (.bool true)):=by
  intro X hX
  have h1:=((h.on (vV hX h.lies)).each t (ht▸List.getElem_mem hi)).box
  rw [txO,hw] at h1
  simp [World.cell?,h1]
 clear h ht hx hw hn
 go_enter Tryz.func44,Tryz.ntmps44
 go_wp2_with (go_at_call 53;(with_reducible refine jC hC ?_);rintro e w2 ⟨rfl,hb2⟩;have k0:=HK.out w2 hb2)
 go_ret2
 exact⟨rfl,hb2⟩
theorem uD (k:ByteArray):∀ (l:List MapEntry) (ks:List ByteArray) (i:Nat),l.map (fun e=>(e.key,e.val))=ks.map (fun k=>(Value.string k,Value.agg #[])) →
  (k ∉ ks∧Instr.findNow .string (.string k) l i=some none)∨(k∈ks∧∃ j e,Instr.findNow .string (.string k) l i=some (some (i+j,.agg #[]))∧l[j]?=some e∧e.key=.string k∧e.val=.agg #[])
 | [],[],i,_=>.inl ⟨by simp,rfl⟩
 | [],_ :: _,i,h=>by simp at h
 | _ :: _,[],i,h=>by simp at h
 | e :: l,y :: ks,i,h=>by
  simp only [List.map_cons,List.cons.injEq,Prod.mk.injEq] at h
  obtain⟨⟨h1,h2⟩,h3⟩:=h
  by_cases hy:k=y
  ·subst hy
   refine .inr ⟨by simp,0,e,?_,rfl,h1,h2⟩
   have hkk:(k==k)=true:=(MapKept.bytes_beq k k).2 rfl
   simp [Instr.findNow,h1,h2,Instr.sameNow,hkk]
  ·have hs:Instr.sameNow .string (.string k) e.key=some false:=by
    rw [h1]
    simp only [Instr.sameNow]
    congr 1
    exact Bool.eq_false_iff.2 (fun h=>hy ((MapKept.bytes_beq k y).1 h))
   rcases uD k l ks (i+1) h3 with⟨ha,hb⟩|⟨ha,j,e',hb,hc,hd,he⟩
   ·exact .inl ⟨by simp [hy,ha],by simp [Instr.findNow,hs,hb]⟩
   ·refine .inr ⟨by simp [ha],j+1,e',?_,by simpa using hc,hd,he⟩
    simp only [Instr.findNow,hs,hb]
    congr 3
    omega
theorem uL:Tryz.prog.underlying 97=some (.map 9 76):=Tryz.underlying97
theorem qEe:MapKept.IsKey .string (.string k):=by simp [MapKept.IsKey]
theorem wF (W:World) (k:ByteArray) (b:Bool):(Instr.checkKey b 10000 9 (.string k)).run Tryz.prog W=.ok () W:=MapKept.run_checkKey (d:=.string) Tryz.underlying9 qEe b 9999
theorem Aq {W:World}  {l:List MapEntry} {a:Option (Nat×Value)} (h:Instr.findNow .string (.string k) l 0=some a):(Instr.findKey 9 (.string k) l).run Tryz.prog W=.ok a W:=MapKept.run_findKey (d:=.string) Tryz.underlying9 h
open Classical in
noncomputable def inB (ks:List ByteArray) (k:ByteArray):Bool:=decide (k∈ks)
theorem Ua:inB ks k=true↔k∈ks:=by unfold inB;simp
theorem Jt:inB ks k=false↔k ∉ ks:=by unfold inB;simp
theorem Tk.look (h:Tk w v ks) (k:ByteArray):(Instr.lookup 97 v (.string k) true).run Tryz.prog w=.ok (.tuple #[.agg #[],.bool (inB ks k)]) w:=by
 rcases h with⟨rfl,rfl⟩|⟨r,es,cl,rfl,hb,hm⟩
 ·rw [Jt.2 (by simp)];kernel_rfl
 ·have hz:(zeroValue 76).run Tryz.prog w=.ok (.agg #[]) w:=by kernel_rfl
  rcases uD k es.toList ks 0 hm with⟨ha,hf⟩|⟨ha,j,e,hf,_⟩
  ·rw [Jt.2 ha];simp [Instr.lookup,run_underlying uL,MapKept.run_getObj_map hb,wF,Aq hf,hz,Result.andThen]
  ·rw [Ua.2 ha];simp [Instr.lookup,run_underlying uL,MapKept.run_getObj_map hb,wF,Aq hf,Result.andThen]
theorem Tk.drew (h:Tk w v ks):Tk w.drew v ks:=h
theorem Tk.alloc (h:Tk w v ks) (ob:Obj):Tk (w.alloc ob) v ks:=h.on (Y:=fun k=>k<w.heap.size) ((On.refl _ w).alloc (fun k hk=>hk) ob) (fun k hk=>by obtain⟨es,cl,hb⟩:=h.block hk;exact(gL hb))
theorem Tk.lay {r:Nat}  (h:Tk w (.map (some r)) ks) (k:ByteArray):∃ w' ks',(Instr.mapUpdate 97 (.map (some r)) (.string k) (.agg #[])).run Tryz.prog w=.ok () w'∧Tk w' (.map (some r)) ks'∧Fr (Bl.one r) w w'∧∀ y,y∈ks'↔y∈ks∨y=k:=by
 rcases h with⟨h,_⟩|⟨r',es,cl,h,hb,hm⟩
 ·cases h
 cases h
 have hfr:∀ ob:Obj,Fr (Bl.one r) w { w with heap:=w.heap.setIfInBounds r ob }:=fun ob=>⟨rfl,rfl,rfl,by simp,fun i hi hn=>(MapKept.heap_set hb (o':=ob)).2 i (fun e=>hn e)⟩
 rcases uD k es.toList ks 0 hm with⟨ha,hf⟩|⟨ha,j,e,hf,he,hk,hv⟩
 ·refine⟨{ w with heap:=w.heap.setIfInBounds r (.map (es.push { key:=.string k,val:=.agg #[],born:=cl }) (cl+1)) },ks++[k],?_,.inr ⟨r,_,_,rfl,(MapKept.heap_set hb).1,?_⟩,hfr _,fun y=>by simp⟩
  ·simp [Instr.mapUpdate,run_underlying uL,MapKept.run_getObj_map hb,wF,Aq hf,MapKept.run_setObj_map _ hb,Result.andThen]
  ·simp [hm]
 ·rw [Nat.zero_add] at hf
  have hej:es[j]?=some e:=by rw [← Array.getElem?_toList];exact he
  refine⟨{ w with heap:=w.heap.setIfInBounds r (.map (es.modify j fun e=>{ e with key:=.string k,val:=.agg #[] }) cl) },ks,?_,.inr ⟨r,_,_,rfl,(MapKept.heap_set hb).1,?_⟩,hfr _,fun y=>⟨.inl,fun hy=>hy.elim id (fun e=>e▸ha)⟩⟩
  ·have hst:(Instr.keyThatStays (.string k) (.string k)).run Tryz.prog w=.ok (.string k) w:=MapKept.run_keyThatStays (d:=.string) qEe
   simp [Instr.mapUpdate,run_underlying uL,MapKept.run_getObj_map hb,wF,Aq hf,MapKept.run_setObj_map _ hb,Result.andThen,hej,hk,hst]
  ·rw [← hm]
   apply List.ext_getElem?
   intro i
   rw [List.getElem?_map,List.getElem?_map,Array.getElem?_toList,Array.getElem?_toList,Array.getElem?_modify]
   by_cases hij:j=i
   ·subst hij
    simp [hej,hk,hv]
   ·simp [hij]
theorem tG (β:Nat) (t:Tx) (w:World) (h:eF w β t) (hn:t.cs.length≤1000000) :
  Calls Tryz.prog 75 #[.pointer (some ⟨t.b,0,none⟩)] w fun e w'=>∃ b,e=.returned (.bool b)∧(b=true↔∃ c∈t.cs,c.key∈t.ks)∧Below w.heap.size w w':=by
 obtain⟨oa,oc,hov,hoc,hrow⟩:=cO h.row
 have hoc':t.cs.length≤t.cc:=by simp only [Tx.cv,Value.slice.injEq] at hov;omega
 have hoa:t.ca=oa:=by simp only [Tx.cv,Value.slice.injEq] at hov;exact hov.1
 subst hoa
 have HB:Hid (∀ X,Below w.heap.size w X→X.cell? ⟨t.b,4,none⟩=some (.slice t.ca t.cs.length t.cc)∧X.cell? ⟨t.b,5,none⟩=some t.tk∧Tk X t.tk t.ks):=by
  intro X hX
  have h1:=(hX.block _ (gL h.box)).trans h.box
  rw [txO] at h1
  exact⟨by simp [World.cell?,h1],by simp [World.cell?,h1],h.tk.on (vV hX (Y:=fun k=>t.tk=.map (some k)) (fun k hk=>by obtain⟨es,cl,hb⟩:=h.tk.block hk;exact(gL hb))) (fun k hk=>hk)⟩
 have hS:∀ k,t.cv.ownBlock=some k→k<w.heap.size:=fun k hk=>aX h.row hk
 have htl:=(gL h.box)
 obtain⟨c4,c5,_⟩:=HB.out w (Below.refl _ _)
 obtain⟨tv,htv⟩:=nM (t.tk)
 rw [htv] at HB c5
 clear hov h
 go_enter Tryz.func75,Tryz.ntmps75
 go_wp2
 go_loopw [13] (fun a wr=>∃ j:Nat,a=.int .i64 j∧j≤t.cs.length∧Below w.heap.size w wr∧Hid (∀ i (hi:i<t.cs.length),i<j→(t.cs[i]).key ∉ t.ks)) (fun a _=>t.cs.length-(intOf a).toNat)
 case atStart=>exact⟨0,rfl,Nat.zero_le _,Below.refl _ _,fun i _ h=>by omega⟩
 case round =>
  obtain⟨j,rfl,hj,hb,HN⟩:=hrel
  by_cases hlt:j<t.cs.length
  ·have hlti:(j:Int)<(t.cs.length:Int):=by omega
   obtain⟨rb,ro,hca,hrb,k0,k1,k2⟩:=(hrow.on (vV hb hS)).ch hlt
   obtain⟨c,hcc⟩:=nM (t.cs[j])
   rw [hcc] at k0 k1 k2
   obtain⟨W1,hW1⟩:=nM (wr.alloc (.cells #[.string c.key,.string c.val,.bool c.gone] 106))
   have x1:W1.heap[wr.heap.size]?=some (.cells #[.string c.key,.string c.val,.bool c.gone] 106):=hW1▸aA wr _
   have B1:Below w.heap.size w W1:=hW1▸hb.alloc hb.size _
   obtain⟨d4,d5,dT⟩:=HB.out W1 B1
   have d0:W1.cell? ⟨wr.heap.size,0,none⟩=some (.string c.key):=by simp [World.cell?,x1]
   rw [hca]
   have HCC:Hid (t.cs[j]=c):=hcc
   clear hrow hcc c4 c5
   go_wp2
   have lw:=(gL x1)
   have dA:(W1.alloc (.cells #[] 76)).cell? ⟨wr.heap.size,0,none⟩=some (.string c.key)∧(W1.alloc (.cells #[] 76)).cell? ⟨t.b,5,none⟩=some tv:=by
    have:=aB (.cells #[] 76) x1
    refine⟨by simp [World.cell?,this],(HB.out _ (B1.alloc B1.size _)).2.1⟩
   obtain⟨dA0,dA5⟩:=dA
   have lk1:=dT.drew.look c.key
   have lk2:=(dT.drew.alloc (.cells #[] 76)).look c.key
   obtain⟨bb,hbb⟩:=nM (inB t.ks c.key)
   rw [hbb] at lk1 lk2
   have HBB:Hid (inB t.ks c.key=bb):=hbb
   clear hbb dT
   go_region_held3 (fun X=>X.cell? ⟨t.b,5,none⟩=some tv∧X.cell? ⟨wr.heap.size,0,none⟩=some (.string c.key)∧(Instr.lookup 97 tv (.string c.key) true).run Tryz.prog X=.ok (.tuple #[.agg #[],.bool bb]) X)
    ((first|exact⟨by simpa using d5,by simpa using d0,lk1⟩|exact⟨by simpa using dA5,by simpa using dA0,lk2⟩))
    (fail)
   all_goals
    cases bb with
    | false =>
     go_wp2
     refine⟨⟨j+1,by simp,by omega,(B1.alloc B1.size _).drew,fun i hi hij=>?_⟩,by simp [intOf];omega⟩
     rcases Nat.lt_or_ge i j with h|h
     ·exact HN.out i hi h
     ·obtain rfl:i=j:=by omega
      rw [HCC.out]
      exact Jt.1 HBB.out
    | true =>
     go_wp2
     go_ret
     exact⟨true,rfl,by simp only [true_iff];exact⟨c,HCC.out▸List.getElem_mem hlt,Ua.1 HBB.out⟩,(B1.alloc B1.size _).drew⟩
  ·obtain rfl:j=t.cs.length:=by omega
   have hlti:¬ (t.cs.length:Int)<(t.cs.length:Int):=by omega
   go_wp2
   go_ret
   exact .inl ⟨rfl,fun c hc hk=>by
    obtain⟨i,hi,rfl⟩:=List.getElem_of_mem hc
    exact HN.out i hi hi hk,hb⟩
theorem rR (β:Nat) (t:Tx) (w:World) (h:eF w β t) (hn:t.cs.length≤1000000) (hks:∀ c∈t.cs,c.key ∉ t.ks) :
  Calls Tryz.prog 75 #[.pointer (some ⟨t.b,0,none⟩)] w fun e w'=>e=.returned (.bool false)∧Below w.heap.size w w':=by
 refine(tG β t w h hn).mono ?_
 rintro e w' ⟨b,rfl,hb,hB⟩
 cases b with
 | false=>exact⟨rfl,hB⟩
 | true =>
  obtain⟨c,hc,hk⟩:=hb.1 rfl
  exact absurd hk (hks c hc)
theorem qBg (z:Value) (hi:i<xs.length):(sV (sV xs i (xs.drop (i+1))) (xs.length-1) [z]).take (xs.length-1)=xs.eraseIdx i:=by
 apply List.ext_getElem?
 intro t
 rw [List.getElem?_take,List.getElem?_eraseIdx]
 by_cases ht:t<xs.length-1
 ·rw [if_pos ht,mK _ _ _ (by rw [mJ];simp;omega),if_neg (by simp;omega),mK _ _ _ (by simp;omega)]
  by_cases h2:t<i
  ·rw [if_neg (by omega),if_pos h2]
  ·rw [if_pos ⟨by omega,by simp;omega⟩,if_neg h2,List.getElem?_drop]
   congr 1
   omega
 ·rw [if_neg ht]
  split
  ·omega
  ·rw [List.getElem?_eq_none];omega
theorem uY {B:Nat} {e:TypeId} {g n c:Nat}  (h:w.ownsRow B e 1 (.slice (some ⟨g,0,none⟩) n c) n xs) (t:Nat) (ht:t<n):(∃ u,xs[t]?=some u∧w.cell? ⟨g,t,none⟩=some u)∧w.frozen? ⟨g,t,none⟩=false:=by
 obtain⟨h1,h2⟩:=id h
 have hc:=World.ownsRow.cells (w:=w) h (g:=g) rfl
 rcases h2 with⟨h3,_⟩|⟨g',c',cur,h3,hb,hg,hnc,hcm,hcs,htake⟩
 ·simp at h3
 ·simp only [Value.slice.injEq,Option.some.injEq,Addr.mk.injEq,and_true,true_and] at h3
  obtain⟨rfl,rfl⟩:=h3
  refine⟨?_,aF hg t⟩
  have hl:t<xs.length:=by omega
  refine⟨xs[t],jQ hl,?_⟩
  have:=hc t _ (jQ hl)
  rw [show (⟨g,0,none⟩:Addr).add t=⟨g,t,none⟩ by unfold Addr.add;split<;>simp_all] at this
  exact this
theorem Od (g n c i j:Nat) (B:Nat) (xs:List Value) (w:World) (h:w.ownsRow B 91 1 (.slice (some ⟨g,0,none⟩) n c) n xs) (hx:∀ u∈xs,u.oneCell'=true) (hij:j=i+1) (hi:i<n) (hn:n≤1000000) (hnc:n≤c) (hcm:c≤9223372036854775807) :
  Calls Tryz.prog 69 #[.slice (some ⟨g,0,none⟩) n c,.int .i64 i,.int .i64 j] w fun e w'=>e=.returned (.slice (some ⟨g,0,none⟩) (n-1) c)∧w'.ownsRow B 91 1 (.slice (some ⟨g,0,none⟩) (n-1) c) (n-1) (xs.eraseIdx i)∧Fr (Bl.one g) w w':=by
 have hlen:xs.length=n:=by have:=h.1;omega
 obtain⟨news,hnews⟩:∃ news,news=xs.drop (i+1):=⟨_,rfl⟩
 have hnl:news.length=n-j:=by rw [hnews];simp;omega
 have hd:w.drew.ownsRow B 91 1 (.slice (some ⟨g,0,none⟩) n c) n xs:=h
 obtain⟨A,hA,hsrc⟩:∃ A:Addr,(if c=j then some (⟨g,0,none⟩:Addr) else some ⟨g,j,none⟩)=some A∧Hid (∀ t u,news[t]?=some u→w.drew.cell? (A.add t)=some u):=by
  by_cases hc:c=j
  ·refine⟨⟨g,0,none⟩,by simp [hc],fun t u hu=>?_⟩
   have h0:news.length=0:=by rw [hnl];omega
   rw [List.length_eq_zero_iff.1 h0] at hu
   simp at hu
  ·refine⟨⟨g,j,none⟩,by simp [hc],fun t u hu=>?_⟩
   rw [hnews,List.getElem?_drop] at hu
   have ht:i+1+t<n:=by have:=(List.getElem?_eq_some_iff.1 hu).1;omega
   obtain⟨⟨u',e1,e2⟩,_⟩:=uY hd (i+1+t) ht
   rw [hu] at e1
   cases e1
   rw [show (⟨g,j,none⟩:Addr).add t=⟨g,i+1+t,none⟩ by unfold Addr.add;split<;>simp_all]
   exact e2
 have s1:Hid (news.length=(n-j) * 1):=by rw [Nat.mul_one];exact hnl
 have s2:Hid (∀ u∈news,u.oneCell'=true):=fun u hu=>hx u (List.mem_of_mem_drop (hnews▸hu))
 have s3:Hid (∀ t,t<news.length→(w.drew.cell? ⟨g,0+i * 1+t,none⟩).isSome=true∧w.drew.frozen? ⟨g,0+i * 1+t,none⟩=false):=by
  intro t ht
  rw [hnl] at ht
  obtain⟨⟨u',e1,e2⟩,e3⟩:=uY hd (i+t) (by omega)
  rw [show 0+i * 1+t=i+t by omega,e2]
  exact⟨rfl,e3⟩
 obtain⟨W1,hW1⟩:∃ W1,W1=w.drew.setCells g (0+i * 1) news:=⟨_,rfl⟩
 have hW1':W1=w.drew.setCells g i news:=by rw [hW1];congr 1;omega
 have ho1:W1.ownsRow B 91 1 (.slice (some ⟨g,0,none⟩) n c) n (sV xs i news):=by
  rw [hW1'];exact gF news i hd (by omega)
 have F1:Fr (Bl.one g) w W1:=by rw [hW1'];exact iC news i (Fr.refl _ w).drew
 have hcl:∀ ty,(Builtin.clear_ #[86] ty #[.slice (some ⟨g,i+(n-j),none⟩) (n-(i+(n-j))) (c-(i+(n-j)))]).run Tryz.prog W1=.ok (.tuple #[]) (W1.setCells g (i+(n-j)) (List.replicate (n-(i+(n-j))) (.pointer none))) :=
  fun ty=>Lib.run_clear_slice W1 _ _ ty _ Tryz.underlying86 Tryz.zeroValue91 rfl rfl g (i+(n-j)) _ _ (by omega) (fun t ht=>by obtain⟨⟨u',e1,e2⟩,e3⟩:=uY ho1 (i+(n-j)+t) (by omega);rw [e2];rfl) (fun t ht=>(uY ho1 (i+(n-j)+t) (by omega)).2)
 have HO:Hid _:=ho1
 have HF:Hid _:=F1
 have hW:Hid (W1=w.drew.setCells g (0+i * 1) news):=hW1
 have HNE:Hid (news=xs.drop (i+1)):=hnews
 have HIJ:Hid (j=i+1):=hij
 have HL:Hid (xs.length=n):=hlen
 obtain⟨i0,hi0,hz0,hz1,hz2⟩:=info_parts qAp
 have hlt:i<j:=by omega
 have hj:j≤n:=by omega
 have hic:i≤c:=by omega
 have hjc:j≤c:=by omega
 have hne:¬ (i:Int)=(j:Int):=by omega
 clear hW1 hW1' ho1 F1 hnews hnl hij hd hlen h
 go_enter Tryz.func69,Tryz.ntmps69
 go_wp2_with fail
 go_region_held3 (fun _=>True) (trivial)
  (first|(refine step_append_room rfl (.tmp 22) (.tmp 25) 86 rfl 91 i0 1 Tryz.underlying86 hi0 hz1 g 0 i c (by simp [Act.eval,Act.put]) A (n-j) (c-j) news (by simp [Act.eval,Act.put]) s1.out hsrc.out s2.out (by omega) s3.out ?_;rw [← hW.out]))
 all_goals go_wp2
 have e1:i+(n-j)=n-1:=by have:=HIJ.out;omega
 refine bodyPost_ret (v:=.slice (some ⟨g,0,none⟩) (i+(n-j)) c) ?_ rfl ⟨by rw [e1],?_,iC _ _ HF.out⟩
 ·simp [results,Tryz.results69,go_sem]
 ·rw [e1,show n-(n-1)=1 by omega]
  have hl:=HL.out
  have h1:=gF [.pointer none] (n-1) HO.out (by rw [mJ];simp;omega)
  have h2:=Jn h1 (m:=n-1) (by omega)
  have h3:=qBg (xs:=xs) (i:=i) (.pointer none) (by omega)
  rw [hl,← HNE.out] at h3
  rw [Nat.mul_one,h3] at h2
  exact h2
theorem Qe (ts:List Tx) (i:Nat):kO (ts.eraseIdx i)=(kO ts).eraseIdx i:=by
 unfold kO
 apply List.ext_getElem?
 intro k
 rw [List.getElem?_map,List.getElem?_eraseIdx,List.getElem?_eraseIdx]
 split<;>rw [List.getElem?_map]
theorem aN.dropped {wX w3:World}   {g c i:Nat} {t:Tx} (h:aN wX st D) (hov:D.ov=.slice (some ⟨g,0,none⟩) D.ts.length c) (hi:i<D.ts.length) (ht:D.ts[i]=t)
  (hr:w3.ownsRow 0 91 1 (.slice (some ⟨g,0,none⟩) (D.ts.length-1) c) (D.ts.length-1) ((kO D.ts).eraseIdx i)) (f:Fr (Bl.one g) wX w3) :
  aN (w3.setCell ⟨D.d,14,none⟩ (.slice (some ⟨g,0,none⟩) (D.ts.length-1) c)) st { D with ov:=.slice (some ⟨g,0,none⟩) (D.ts.length-1) c,ts:=D.ts.eraseIdx i }∧eF (w3.setCell ⟨D.d,14,none⟩ (.slice (some ⟨g,0,none⟩) (D.ts.length-1) c)) D.β t:=by
 have hob:D.ov.ownBlock=some g:=by rw [hov];rfl
 have on3:∀ {Z:Bl},(∀ k,Z k→k<wX.heap.size∧D.ov.ownBlock≠some k∧k≠D.d)→On Z wX (w3.setCell ⟨D.d,14,none⟩ (.slice (some ⟨g,0,none⟩) (D.ts.length-1) c)):=fun hz=>(f.on (fun k hk=>⟨(hz k hk).1,fun e=>by simp only [Bl.one] at e;exact(hz k hk).2.1 (by rw [e];exact hob)⟩)).setCell (p:=⟨D.d,14,none⟩) (fun hk=>(hz _ hk).2.2 rfl) _
 have b3:=f.heap h.box (fun e=>by simp only [Bl.one] at e;exact h.noRow (by rw [e];exact hob))
 have each3:∀ x∈D.ts,eF (w3.setCell ⟨D.d,14,none⟩ (.slice (some ⟨g,0,none⟩) (D.ts.length-1) c)) D.β x:=fun x hx=>(h.each x hx).on (on3 (fun k hk=>⟨(h.each x hx).lies k hk,h.txRow (h.each x hx) k hk,fun e=>h.noTx hx (e▸hk)⟩))
 refine⟨⟨by have:=aD b3 14 (.slice (some ⟨g,0,none⟩) (D.ts.length-1) c);simpa using this,?_,?_,?_,?_⟩,each3 t (ht▸List.getElem_mem hi)⟩
 ·exact h.file.on (on3 (fun k hk=>⟨h.file.lies k hk,h.fileRow k hk,fun e=>h.noFile (e▸hk)⟩))
 ·have hne:=aV hr b3 (by decide)
  have hr':w3.ownsRow 0 91 1 (.slice (some ⟨g,0,none⟩) (D.ts.length-1) c) (D.ts.eraseIdx i).length (kO (D.ts.eraseIdx i)):=by
   rw [List.length_eraseIdx,if_pos hi,Qe];exact hr
  exact bK hr' ((On.refl (fun k=>(Value.slice (some ⟨g,0,none⟩) (D.ts.length-1) c).ownBlock=some k) w3).setCell (p:=⟨D.d,14,none⟩) (fun hk=>hne hk) _) (fun k hk=>hk)
 ·intro x hx
  exact each3 x (List.mem_of_mem_eraseIdx hx)
 ·exact h.apart.sublist (List.eraseIdx_sublist _ _)
theorem qDp (D:Db) (st:Int) (x:Int) (i:Nat) (t:Tx) (w:World) (h:aN w st D) (hn:D.ts.length≤1000000) (hi:i<D.ts.length) (ht:D.ts[i]=t) (hx:mU D.ts x=i) :
  Calls Tryz.prog 42 #[.pointer (some ⟨D.d,0,none⟩),.int .i64 x] w fun e w'=>e=.returned (.tuple #[.pointer (some ⟨t.b,0,none⟩),.int .i64 0])∧∃ g c,D.ov=.slice (some ⟨g,0,none⟩) D.ts.length c∧aN w' st { D with ov:=.slice (some ⟨g,0,none⟩) (D.ts.length-1) c,ts:=D.ts.eraseIdx i }∧eF w' D.β t∧Fr (fun k=>k=D.d∨k=g) w w':=by
 obtain⟨g,c,hov,hg,_⟩:=Cc h.row (by omega)
 have hcc:D.ts.length≤c∧c≤9223372036854775807:=by
  obtain⟨_,h2⟩:=h.row
  rw [hov] at h2
  rcases h2 with⟨h3,_⟩|⟨g',c',cur,h3,hb,hg,hnc,hcm,hcs,htake⟩
  ·simp at h3
  ·simp only [Value.slice.injEq,Option.some.injEq,Addr.mk.injEq,and_true,true_and] at h3
   obtain⟨rfl,rfl⟩:=h3
   exact⟨hnc,hcm⟩
 have hR:=pW D st x i t w h hn hi ht hx
 have HI:Hid (∀ X,Below w.heap.size w X→Calls Tryz.prog 68 #[.pointer (some ⟨D.d,0,none⟩),.int .i64 x] X fun e w'=>e=.returned (.int .i64 (i:Int))∧Below X.heap.size X w'):=by
  intro X hX
  have:=Ia D st x X (h.on (vV hX h.lies)) hn
  rw [hx] at this
  exact this
 have HD:Hid (∀ X,Below w.heap.size w X→Calls Tryz.prog 69 #[.slice (some ⟨g,0,none⟩) D.ts.length c,.int .i64 (i:Int),.int .i64 ((i:Int)+1)] X fun e w'=>e=.returned (.slice (some ⟨g,0,none⟩) (D.ts.length-1) c)∧w'.ownsRow 0 91 1 (.slice (some ⟨g,0,none⟩) (D.ts.length-1) c) (D.ts.length-1) ((kO D.ts).eraseIdx i)∧Fr (Bl.one g) X w'):=by
  intro X hX
  have h1:=(h.on (vV hX h.lies)).row
  rw [hov] at h1
  have:=Od g D.ts.length c i (i+1) 0 (kO D.ts) X h1 (fun u hu=>by unfold kO at hu;obtain⟨y,_,rfl⟩:=List.mem_map.1 hu;rfl) rfl hi hn hcc.1 hcc.2
  simpa using this
 have HK:Hid (∀ X,Below w.heap.size w X→aN X st D):=fun X hX=>h.on (vV hX h.lies)
 have HC:Hid (∀ X,aN X st D→X.cell? ⟨D.d,14,none⟩=some (.slice (some ⟨g,0,none⟩) D.ts.length c)):=by
  intro X hX
  obtain⟨c0,c1,c2,c3,c4,c5,c6,c7,c8,c9,c10,c11,c12,c13,c14⟩:=eT hX.box
  rw [hov] at c14
  exact c14
 have HB:Hid (∀ X w3,aN X st D→Fr (Bl.one g) X w3→(∃ v,w3.cell? ⟨D.d,14,none⟩=some v)∧∀ k,w3.frozen? ⟨D.d,k,none⟩=false):=by
  intro X w3 hX hf
  have b3:=hf.heap hX.box (fun e=>by simp only [Bl.one] at e;exact hX.noRow (by rw [e,hov];rfl))
  obtain⟨c0,c1,c2,c3,c4,c5,c6,c7,c8,c9,c10,c11,c12,c13,c14⟩:=eT b3
  exact⟨⟨_,c14⟩,aF b3⟩
 have hii:(i:Int)+1≤9223372036854775807:=by omega
 have HOV:Hid (D.ov=.slice (some ⟨g,0,none⟩) D.ts.length c):=hov
 have HTI:Hid (D.ts[i]=t):=ht
 have lD:=(gL h.box)
 clear hov ht hx h hcc
 go_enter Tryz.func42,Tryz.ntmps42
 go_wp2_with (first
  | (go_at_call 53;(with_reducible refine jC hR ?_);rintro e w2 ⟨rfl,hb2⟩;have hI:=HI.out w2 hb2)
  | (go_at_call 68;(with_reducible refine jC hI ?_);rintro e w3 ⟨rfl,hb3⟩;have hb23:=hb2.trans (hb3.mono hb2.size);have hD3:=HK.out w3 hb23;have c14:=HC.out w3 hD3;have hDl:=HD.out w3 hb23)
  | (go_at_call 69;(with_reducible refine jC hDl ?_);rintro e w4 ⟨rfl,ho4,hf4⟩;obtain⟨⟨v14,d14⟩,dfr⟩:=HB.out w3 w4 hD3 hf4))
 obtain⟨hA,hB⟩:=aN.dropped hD3 HOV.out hi HTI.out ho4 hf4
 have F3:Fr (fun k=>k=D.d∨k=g) w w3:=⟨hb23.os,hb23.tape,hb23.output,hb23.size,fun k hk _=>hb23.block k hk⟩
 have F4:Fr (fun k=>k=D.d∨k=g) w3 w4:=⟨hf4.os,hf4.tape,hf4.output,hf4.size,fun k hk hn=>hf4.block k hk (fun e=>hn (.inr e))⟩
 have F5:=(F3.trans F4).setCell (p:=⟨D.d,14,none⟩) (.inl (.inl rfl)) (.slice (some ⟨g,0,none⟩) (D.ts.length-1) c)
 go_ret2
 exact⟨rfl,g,c,HOV.out,hA,hB,F5⟩
theorem Li (β:Nat) (sv lv:Value) (fs:Fs) (hl:(fs.life==0)=false) (root:Nat) (ca:Option Addr) (cn cc:Nat) (ub:Nat) (o:Option (Nat×T)) (u:List Bool) (w:World) (ho:bJ fs root o) (hs:El u o) (hu:u.length=4096) (hf:aG w β sv lv fs) (hU:aP w ub u)
  (b1 b2:Nat) (x1:w.heap[b1]?=some (.cells (tA β root ca cn cc) 95)) (x2:w.heap[b2]?=some (.cells #[.slice (some ⟨ub,0,none⟩) 4096 4096] 121)) :
  Calls Tryz.prog 87 #[.pointer (some ⟨b1,0,none⟩),.pointer (some ⟨b2,0,none⟩)] w fun e w'=>e=.returned (.int .i64 0)∧aP w' ub (marks u (bZ o))∧Fr (Bl.one ub) w w':=by
 have hC:=Em β sv lv fs hl root ca cn cc ub o u w ho hs hu hf hU
 obtain⟨c0,c1,c2⟩:=eU x1
 have d0:w.cell? ⟨b2,0,none⟩=some (.slice (some ⟨ub,0,none⟩) 4096 4096):=by simp [World.cell?,x2]
 clear hf hU ho hs x1 x2
 go_enter Tryz.func87,Tryz.ntmps87
 go_wp2_with (go_at_call 63;(with_reducible refine jC hC ?_);rintro e w2 ⟨⟨v,rfl⟩,hU2,hF2⟩)
 go_ret
 exact⟨rfl,hU2,hF2⟩
theorem Ps (β:Nat) (sv lv:Value) (fs:Fs) (hl:(fs.life==0)=false) (root:Nat) (ca:Option Addr) (cn cc:Nat) (ub:Nat) (o:Option (Nat×T)) (u:List Bool) (w:World) (ho:bJ fs root o) (hs:El u o) (hu:u.length=4096) (hf:aG w β sv lv fs) (hU:aP w ub u) (hub:ub<w.heap.size) :
  Calls Tryz.prog 64 #[.agg (tA β root ca cn cc),.slice (some ⟨ub,0,none⟩) 4096 4096] w fun e w'=>e=.returned (.bool true)∧aP w' ub (marks u (bZ o))∧Fr (Bl.one ub) w w':=by
 obtain⟨W1,hW1⟩:=nM ((w.alloc (.cells (tA β root ca cn cc) 95)).alloc (.cells #[.slice (some ⟨ub,0,none⟩) 4096 4096] 121))
 have B1:Below w.heap.size w W1:=hW1▸(bA _ _).alloc (by simp) _
 have x1:W1.heap[w.heap.size]?=some (.cells (tA β root ca cn cc) 95):=hW1▸aB _ (aA w _)
 have x2:W1.heap[w.heap.size+1]?=some (.cells #[.slice (some ⟨ub,0,none⟩) 4096 4096] 121):=by
  rw [← hW1];have:=aA (w.alloc (.cells (tA β root ca cn cc) 95)) (.cells #[.slice (some ⟨ub,0,none⟩) 4096 4096] 121);simpa using this
 have hs1:w.heap.size+1<W1.heap.size:=(gL x2)
 obtain⟨W2,hW2⟩:=nM (W1.alloc (.cells #[.int .i64 0] 37))
 have B2:Below w.heap.size w W2:=hW2▸B1.alloc B1.size _
 have e2:W2.heap[W1.heap.size]?=some (.cells #[.int .i64 0] 37):=hW2▸aA W1 _
 have h1:=Li β sv lv fs hl root ca cn cc ub o u W2 ho hs hu (hf.on (vV B2 hf.lies)) (hU.on (Y:=Bl.one ub) (vV B2 (oK (by omega))) rfl) w.heap.size (w.heap.size+1) (hW2▸aB _ x1) (hW2▸aB _ x2)
 have hC:=Ef 87 #[] #[.pointer (some ⟨w.heap.size,0,none⟩),.pointer (some ⟨w.heap.size+1,0,none⟩)] (fun _ _=>rfl) W1 (fun z w'=>z=0∧aP w' ub (marks u (bZ o))∧Fr (Bl.one ub) W2 w') (by
  rw [hW2]
  exact h1.mono fun e w' ⟨he,hu',hf'⟩=>⟨0,he,hf'.heap e2 (fun e=>by simp only [Bl.one] at e;have:=B1.size;omega),rfl,hu',hf'⟩)
 have HE:Hid (W1.heap.size<W2.heap.size):=(gL e2)
 clear h1 hf hU ho hs e2 hW2
 go_enter Tryz.func64,Tryz.ntmps64
 go_wp2_with (go_at_call 59;(with_reducible refine jC hC ?_);rintro e w3 ⟨z,W3,rfl,⟨rfl,hU3,hF3⟩,hw3⟩)
 go_ret
 have hsz:=B1.size
 exact⟨rfl,hU3.on (Y:=Bl.one ub) ((On.refl (Bl.one ub) W3).setCell (p:=⟨W1.heap.size,0,none⟩) (fun hk=>by simp only [Bl.one] at hk;omega) _) rfl,((Fr.of_below B2).trans hF3).setCell (p:=⟨W1.heap.size,0,none⟩) (.inr hsz) _⟩
theorem qAr:(Tryz.prog.info? 4).map (fun i=>(i.zero,i.size,i.bytes))=some (some (.bool false),1,1):=by kernel_rfl
theorem Qn (n:Nat):(madeCells (Value.bool false).cells (n * 1)).toList=(List.replicate n false).map Value.bool:=by
 apply List.ext_getElem
 ·simp [madeCells]
 ·intro i h1 h2
  simp [madeCells,Value.cells,Nat.mod_one]
theorem Hf (W:World):∃ w1,(Instr.makeSlice 121 (.int .i64 4096) (.int .i64 4096)).run Tryz.prog W=.ok (.slice (some ⟨W.heap.size,0,none⟩) 4096 4096) w1∧aP w1 W.heap.size (List.replicate 4096 false)∧Below W.heap.size W w1:=by
 obtain⟨i0,hi,hz0,hz1,hz2⟩:=info_parts qAr
 obtain⟨w1,hmk,hown,hg⟩:=run_makeSlice_full (P:=Tryz.prog) W 0 121 4 i0 (.bool false) 1 Tryz.underlying121 hi hz0 hz1 .i64 .i64 4096 (by omega) (by rw [hz2];omega) (by unfold maxLen;omega) (Nat.zero_le _)
 rw [Qn] at hown
 exact⟨w1,hmk,hown,hg.os,hg.tape,hg.output,hg.size,fun k hk=>hg.block k hk (by simp)⟩
theorem aP.box {ub:Nat}  (h:aP w ub u):∃ cur,w.heap[ub]?=some (.cells cur 4 (0,0)):=by
 obtain⟨_,h2⟩:=h
 rcases h2 with⟨h3,_⟩|⟨g',c',cur,h3,hb,hg,_⟩
 ·simp at h3
 ·simp only [Value.slice.injEq,Option.some.injEq,Addr.mk.injEq,and_true,true_and] at h3
  obtain⟨rfl,rfl⟩:=h3
  exact⟨cur,hg⟩
def lL (u:List Bool) (p:Nat):List Nat:=(List.range' 2 (p-2)).filter (fun p=>!(u.getD p true))
theorem Rr (hp:2≤p):lL u (p+1)=lL u p++(if u.getD p true then [] else [p]):=by
 unfold lL
 rw [show p+1-2=(p-2)+1 by omega,List.range'_1_concat,List.filter_append,show 2+(p-2)=p by omega]
 congr 1
 cases h:u.getD p true
 ·have h':=h
  rw [List.getD_eq_getElem?_getD] at h'
  simp [h,h']
 ·have h':=h
  rw [List.getD_eq_getElem?_getD] at h'
  simp [h,h']
theorem Xq (h1:n≤p) (h2:p≤n∨p=2):lL u p=eJ n u:=by
 unfold lL eJ
 rw [show p-2=n-2 by omega]
theorem Xp:(lL u p).length≤p:=by
 unfold lL
 refine vJ (List.length_filter_le _ _) ?_
 rw [List.length_range']
 omega
theorem qAw (D:Db) (st:Int) (o ao:Option (Nat×T)) (ot:Tx→Option (Nat×T)) (w:World) (h:aN w st D) (hn:D.ts.length≤1000000) (hl:(D.fs.life==0)=false)
  (ho:bJ D.fs (rootOf o) o) (hr:D.root=rootOf o) (hao:bJ D.fs (rootOf ao) ao) (har:D.aroot=rootOf ao) (hts:∀ t∈D.ts,bJ D.fs (rootOf (ot t)) (ot t)∧t.root=rootOf (ot t)) :
  Calls Tryz.prog 134 #[.pointer (some ⟨D.d,0,none⟩)] w fun e w'=>∃ v,e=.returned v∧w'.ownsRow 0 3 1 v (eJ D.fs.safe.length (dF ([o,ao]++D.ts.map ot))).length ((eJ D.fs.safe.length (dF ([o,ao]++D.ts.map ot))).map (fun n:Nat=>Value.int .i64 n))∧Below w.heap.size w w':=by
 obtain⟨w1,hmk,hU1,hb1⟩:=Hf w
 have hmk':(Instr.makeSlice 121 (.int .i64 4096) (.int .i64 4096)).run Tryz.prog w=.ok (.slice (some ⟨w.heap.size,0,none⟩) 4096 4096) w1:=hmk
 have hsm:D.fs.safe.length≤4096:=h.file.small
 have HK:Hid (∀ X,Below w.heap.size w X→X.cell? ⟨D.d,2,none⟩=some (.pointer (some ⟨D.β,0,none⟩))∧X.cell? ⟨D.d,5,none⟩=some (.int .i64 D.root)∧X.cell? ⟨D.d,11,none⟩=some (.int .i64 D.aroot)∧X.cell? ⟨D.d,14,none⟩=some D.ov∧aN X st D):=by
  intro X hX
  have h1:=h.on (vV hX h.lies)
  obtain⟨c0,c1,c2,c3,c4,c5,c6,c7,c8,c9,c10,c11,c12,c13,c14⟩:=eT h1.box
  exact⟨c2,c5,c11,c14,h1⟩
 have HM:Hid (∀ X os oo,Below w.heap.size w X→(∀ y∈os,bJ D.fs (rootOf y) y)→bJ D.fs (rootOf oo) oo→aP X w.heap.size (dF os)→∀ root ca cn cc,root=rootOf oo→Calls Tryz.prog 63 #[.agg #[.pointer (some ⟨D.β,0,none⟩),.int .i64 ((root:Nat):Int),.slice ca cn cc],.slice (some ⟨w.heap.size,0,none⟩) 4096 4096] X fun e w'=>(∃ v,e=.returned v)∧aP w' w.heap.size (dF (os++[oo]))∧Below w.heap.size w w'):=by
  intro X os oo hX hos hoo hU root ca cn cc hroot
  subst hroot
  rw [Bb]
  exact(Em D.β D.sv D.lv D.fs hl _ ca cn cc w.heap.size oo (dF os) X hoo (Po hsm os hos oo hoo) (rY os) (h.file.on (vV hX h.file.lies)) hU).mono fun e w' ⟨he,hu',hf'⟩=>⟨he,hu',hX.trans (hf'.below hX.size (oK (by omega)))⟩
 have hT1:Hid (∀ X (root:Nat),Below w.heap.size w X→Calls Tryz.prog 39 #[.pointer (some ⟨D.d,0,none⟩),.int .i64 (root:Int)] X fun e w'=>e=.returned (.agg #[.pointer (some ⟨D.β,0,none⟩),.int .i64 (root:Int),.slice none 0 0])∧Below w.heap.size w w'∧∀ os,aP X w.heap.size os→aP w' w.heap.size os):=fun X root hX=>(mD D.d D.β root X (HK.out X hX).1).mono fun e w' ⟨he,hb⟩=>⟨he,hX.trans (hb.mono hX.size),fun os hu=>hu.on (Y:=Bl.one w.heap.size) (vV hb (fun k hk=>by simp only [Bl.one] at hk;have:=hu.lt;omega)) rfl⟩
 obtain⟨c2,c5,c11,c14,_⟩:=HK.out w1 hb1
 have hA:=hT1.out w1 D.root hb1
 have HTS:Hid _:=hts
 have HO:Hid _:=ho
 have HAO:Hid _:=hao
 have HR:Hid _:=hr
 have HAR:Hid _:=har
 have HU1:Hid (aP w1 w.heap.size (dF [])):=hU1
 obtain⟨oa,oc,hov,hoc,hrow⟩:=cO h.row
 have HOV:Hid _:=hov
 clear hts ho hao hr har hmk hov
 go_enter Tryz.func134,Tryz.ntmps134
 go_wp2_with (first
  | (go_at_call 39;(with_reducible refine jC hA ?_);rintro e w2 ⟨rfl,hb2,hk2⟩;have hM:=HM.out w2 [] o hb2 (by simp) HO.out (hk2 _ HU1.out) D.root none 0 0 HR.out)
  | (go_at_call 63;(with_reducible refine jC hM ?_);rintro e w3 ⟨⟨v3,rfl⟩,hU3,hb3⟩;obtain⟨d2,d5,d11,d14,_⟩:=HK.out w3 hb3;have hB:=hT1.out w3 D.aroot hb3)
  | (go_at_call 39;(with_reducible refine jC hB ?_);rintro e w4 ⟨rfl,hb4,hk4⟩;have hN:=HM.out w4 [o] ao hb4 (by intro y hy;rw [List.mem_singleton] at hy;subst hy;exact HO.out) HAO.out (hk4 _ hU3) D.aroot none 0 0 HAR.out)
  | (go_at_call 63;(with_reducible refine jC hN ?_);rintro e w5 ⟨⟨v5,rfl⟩,hU5,hb5⟩;obtain⟨e2,e5,e11,e14,_⟩:=HK.out w5 hb5;rw [HOV.out] at e14))
 have HRow:Hid (aH w (fun k=>D.ov.ownBlock=some k) oa (kO D.ts)):=hrow
 have HS:Hid (∀ k,D.ov.ownBlock=some k→k<w.heap.size):=fun k hk=>aX h.row hk
 have HU5:Hid (aP w5 w.heap.size (dF ([o,ao]++(D.ts.take 0).map ot))):=hU5
 clear hA hM hB hN hmk' hU3 hU5 hrow h hU1 hk2 hk4 c2 c5 c11 c14 d2 d5 d11 d14 hT1 HU1
 go_loopw [31] (fun a wr=>∃ j:Nat,a=.int .i64 j∧j≤D.ts.length∧Below w.heap.size w wr∧Hid (aP wr w.heap.size (dF ([o,ao]++(D.ts.take j).map ot)))) (fun a _=>D.ts.length-(intOf a).toNat)
 case atStart=>exact⟨0,rfl,Nat.zero_le _,hb5,HU5.out⟩
 case round =>
  obtain⟨j,rfl,hj,hb,HI⟩:=hrel
  by_cases hlt:j<D.ts.length
  ·have hlti:(j:Int)<(D.ts.length:Int):=by omega
   obtain⟨t,ht⟩:=nM (D.ts[j])
   have htm:t∈D.ts:=ht▸List.getElem_mem hlt
   rcases HRow.out.on (vV hb HS.out) with h0|⟨g,off,rfl,hg,hcell⟩
   ·have:=congrArg List.length h0
    simp [kO] at this
    rw [this] at hlt
    simp at hlt
   have k0:wr.cell? ⟨g,off+j,none⟩=some (.pointer (some ⟨t.b,0,none⟩)):=hcell j _ (by simp [kO,hlt,ht])
   have hbx:=((HK.out wr hb).2.2.2.2.each t htm).box
   have q2:wr.cell? ⟨t.b,2,none⟩=some (.pointer (some ⟨D.β,0,none⟩)):=by simp [World.cell?,hbx]
   have q3:wr.cell? ⟨t.b,3,none⟩=some (.int .i64 t.root):=by simp [World.cell?,hbx]
   have q4:wr.cell? ⟨t.b,4,none⟩=some (.slice t.ca t.cs.length t.cc):=by simp [World.cell?,hbx]
   have hM:=HM.out wr ([o,ao]++(D.ts.take j).map ot) (ot t) hb (by
    intro y hy
    simp only [jF,jE,List.mem_cons,List.mem_map] at hy
    rcases hy with rfl|rfl|⟨x,hx,rfl⟩
    ·exact HO.out
    ·exact HAO.out
    ·exact(HTS.out x (List.mem_of_mem_take hx)).1) (HTS.out t htm).1 HI.out t.root t.ca t.cs.length t.cc (HTS.out t htm).2
   have HE:Hid ([o,ao]++(D.ts.take j).map ot++[ot t]=[o,ao]++(D.ts.take (j+1)).map ot):=by
    show _=_
    rw [List.take_succ_eq_append_getElem hlt,ht,List.map_append,List.append_assoc]
    rfl
   rw [HE.out] at hM
   clear hcell ht hbx e2 e5 e11 e14
   go_wp2_with (go_at_call 63;(with_reducible refine jC hM ?_);rintro e w6 ⟨⟨v6,rfl⟩,hU6,hb6⟩)
   exact⟨⟨j+1,by simp,by omega,hb6,hU6⟩,by simp [intOf];omega⟩
  ·obtain rfl:j=D.ts.length:=by omega
   have hlti:¬ (D.ts.length:Int)<(D.ts.length:Int):=by omega
   rw [List.take_length] at HI
   obtain⟨U,hUd⟩:=nM (dF ([o,ao]++D.ts.map ot))
   have hUl:U.length=4096:=by rw [← hUd];exact rY _
   rw [hUd] at HI
   have HUD:Hid (dF ([o,ao]++D.ts.map ot)=U):=hUd
   clear hUd
   clear e2 e5 e11 e14 hlti
   go_wp2
   go_loopw [6,7] (fun a b wq=>∃ p:Nat,b=.int .i64 p∧2≤p∧(p≤D.fs.safe.length∨p=2)∧Below w.heap.size w wq∧Hid (aP wq w.heap.size U)∧Hid (wq.ownsRow 0 3 1 a (lL U p).length ((lL U p).map (fun n:Nat=>Value.int .i64 n))∧∀ k,a.ownBlock=some k→w.heap.size≤k)) (fun _ b _=>D.fs.safe.length-(intOf b).toNat)
   case atStart=>exact⟨2,rfl,jU _,.inr rfl,hb,HI.out,World.ownsRow_nil _ _ _ _,fun k hk=>by simp [Value.ownBlock] at hk⟩
   case round =>
    obtain⟨p,rfl,hp2,hpn,hbq,HUq,HOq⟩:=hrel
    obtain⟨hown,hlies⟩:=HOq.out
    obtain⟨c2,c5,c11,c14,hDq⟩:=HK.out wr hbq
    have hPg:=Gt D.β D.sv D.lv D.fs wr hDq.file
    obtain⟨aa,ac,rfl⟩:=aO hown
    by_cases hlt2:p<D.fs.safe.length
    ·have hl2:(p:Int)<(D.fs.safe.length:Int):=by omega
     have hp4:p<4096:=by omega
     have hp4i:(p:Int)<4096:=by omega
     have ucell:=HUq.out.cell hp4 hUl
     have hgd:U.getD p true=U[p]'(by omega):=by rw [List.getD_eq_getElem?_getD,jQ (by omega)];rfl
     have HST:Hid _:=Rr (u:=U) hp2
     have hlenq:(lL U p).length≤4096:=vJ Xp (by omega)
     cases hb':(U[p]'(by omega):Bool)
     ·rw [hb'] at ucell hgd
      have HG:Hid _:=hgd
      clear hgd
      obtain⟨L,hL⟩:=nM (lL U p)
      rw [hL] at hown hlenq HOq HST hlies
      rw [hL]
      have HS1:Hid (lL U (p+1)=L++[p]):=by
       show _=_
       rw [HST.out,HG.out];rfl
      clear HST hL c5 c11 c14 hlt hDq
      go_wp2_with (first
       | (go_at_call 34;(with_reducible refine jC hPg ?_);rintro e w7 ⟨rfl,hw7⟩;subst w7)
       | (at_builtin;refine nO wr rfl (.tmp 56) (.tmp 58) 22 3 _ 1 8 rfl Tryz.underlying22 Ty rfl (by decide) (.slice aa L.length ac) L.length (L.map (fun n:Nat=>Value.int .i64 n)) rfl hown [.int .i64 (p:Int)] rfl rfl (by simp [Value.oneCell']) (by omega) (by omega) ?_;intro v3 w3 A3;obtain⟨g3,k3,rfl⟩:=A3.shape (by decide)))
      obtain⟨cur,hcur⟩:=HUq.out.box
      have hub:=aV hown hcur (by decide)
      refine⟨⟨p+1,by simp,by omega,.inl (by omega),hbq.trans (A3.fr.below hbq.size (fun k hk=>hlies k hk)),HUq.out.on (Y:=Bl.one w.heap.size) (A3.fr.on (fun k hk=>⟨by simp only [Bl.one] at hk;have:=HUq.out.lt;omega,by simp only [Bl.one] at hk;subst hk;exact hub⟩)) rfl,?_,fun k hk=>?_⟩,by simp [intOf];omega⟩
      ·rw [HS1.out,jK,List.length_singleton,List.map_append]
       exact A3.row
      ·rcases A3.lies k hk with h'|h'
       ·exact hlies k h'
       ·exact vJ hbq.size h'
     ·rw [hb'] at ucell hgd
      have HG:Hid _:=hgd
      have HS1:Hid (lL U (p+1)=lL U p):=by
       show _=_
       rw [HST.out,HG.out];simp
      clear HST HG hgd c5 c11 c14 hlt hDq
      go_wp2_with (go_at_call 34;(with_reducible refine jC hPg ?_);rintro e w7 ⟨rfl,hw7⟩;subst w7)
      refine⟨⟨p+1,by simp,by omega,.inl (by omega),hbq,HUq.out,?_,hlies⟩,by simp [intOf];omega⟩
      rw [HS1.out]
      exact hown
    ·have hl2:¬ (p:Int)<(D.fs.safe.length:Int):=by omega
     have HFE:Hid (lL U p=eJ D.fs.safe.length U):=Xq (by omega) hpn
     clear c5 c11 c14 hlt hDq
     go_wp2_with (go_at_call 34;(with_reducible refine jC hPg ?_);rintro e w7 ⟨rfl,hw7⟩;subst w7)
     go_ret
     refine⟨.slice aa (lL U p).length ac,rfl,?_,hbq⟩
     rw [show dF (o :: ao :: D.ts.map ot)=U from HUD.out,← HFE.out]
     exact hown
def Fs.well (fs:Fs):Prop:=fs.wait = -1∧fs.life = -1
variable {fs:Fs}
theorem Fs.well_ok (h:fs.well):fs.chOk=true∧fs.ch=fs:=by
 obtain⟨h1,h2⟩:=h
 have hok:fs.chOk=true:=by unfold Fs.chOk;rw [h1,h2];rfl
 refine⟨hok,?_⟩
 unfold Fs.ch
 rw [if_pos hok,h1,h2]
 cases fs
 simp only at h1 h2
 subst h1 h2
 rfl
theorem Fs.well_alive (h:fs.well):(fs.life==0)=false:=by rw [h.2];rfl
theorem Fs.well_put (h:fs.well) (p:Nat) (d:ByteArray):(fs.put p d).well:=h
theorem Fs.well_synced (h:fs.well):fs.synced.well:=h
theorem Fs.well_puts (h:fs.well) (l:List (Nat×Pg)):(fs.puts l).well:=h
theorem Pm (β:Nat) (sv lv:Value) (fs:Fs) (p:Nat) (data:ByteArray) (w:World) (h:aG w β sv lv fs) (hw:fs.well) (hd:data.size=256) (hp:p<fs.safe.length) (hroom:fs.late.length<1000000) :
  Calls Tryz.prog 88 #[.pointer (some ⟨β,0,none⟩),.int .i64 p,.string data] w fun e w'=>e=.returned (.bool true) ∧
   ∃ lv',aG w' β sv lv' (fs.put p data)∧Fr (fpF β sv lv) w w'∧aJ w (fpF β sv lv) (fpF β sv lv'):=by
 have:=wM β sv lv fs p data w h (by rw [hw.1];decide) (by rw [hw.1];decide) (by rw [hw.2];decide) (by rw [hw.2];decide) hd hp hroom
 rw [(Fs.well_ok hw).1,(Fs.well_ok hw).2] at this
 exact this
theorem Gi (β:Nat) (sv lv:Value) (fs:Fs) (w:World) (h:aG w β sv lv fs) (hw:fs.well) (hfit:fs.fits) :
  Calls Tryz.prog 60 #[.pointer (some ⟨β,0,none⟩)] w fun e w'=>e=.returned (.bool true) ∧
   ∃ lv',aG w' β sv lv' fs.synced∧Fr (fpF β sv lv) w w'∧aJ w (fpF β sv lv) (fpF β sv lv'):=by
 have:=Lf β sv lv fs w h (by rw [hw.1];decide) (by rw [hw.1];decide) (by rw [hw.2];decide) (by rw [hw.2];decide) hfit
 rw [(Fs.well_ok hw).1,(Fs.well_ok hw).2] at this
 exact this
theorem Vt {B:Nat} {e:TypeId} {z n k:Nat}   (h:w.ownsRow B e z v n xs) (hk:v.ownBlock=some k):∃ cur,w.heap[k]?=some (.cells cur e):=by
 obtain⟨_,h2⟩:=h
 rcases h2 with⟨h3,_⟩|⟨g',cap,cur,h3,_,hg,_⟩
 ·rw [h3] at hk;simp [Value.ownBlock] at hk
 ·rw [h3] at hk
  simp only [Value.ownBlock,Option.some.injEq] at hk
  subst hk
  exact⟨cur,hg⟩
theorem aN.txFile (h:aN w st D) {t:Tx} (ht:eF w D.β t):∀ k,fpT t k→¬ fpF D.β D.sv D.lv k:=by
 rintro k (rfl|hk|hk)
 ·exact gK h.file ht.box (by decide) (by decide) (by decide)
 ·obtain⟨cur,hc⟩:=Vt ht.row hk
  exact gK h.file hc (by decide) (by decide) (by decide)
 ·obtain⟨es,cl,hb⟩:=ht.tk.block hk
  exact Xu h.file hb
theorem aN.refile {w w':World}   {lv':Value} {fs':Fs} (h:aN w st D) (hf:aG w' D.β D.sv lv' fs') (f:Fr (fpF D.β D.sv D.lv) w w'):aN w' st { D with lv:=lv',fs:=fs' } :=
 ⟨f.heap h.box h.noFile,hf,dN h.row f (fun k hk hfp=>h.fileRow k hfp hk),fun t ht=>(h.each t ht).on (f.on (fun k hk=>⟨(h.each t ht).lies k hk,h.txFile (h.each t ht) k hk⟩)),h.apart⟩
