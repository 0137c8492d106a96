import Derived.Test.YtpifffkkgnbfpaaGreatT28
import Derived.Test.YtpifffkkgnbfpaaGreatT31
import Derived.Test.YtpifffkkgnbfpaaGreatT32
import Derived.Test.YtpifffkkgnbfpaaGreatT15
set_option linter.unusedSimpArgs false
set_option linter.unusedVariables false
set_option maxRecDepth 100000
set_option maxHeartbeats 8000000
namespace Go.Proofs.YtpifffkkgnbfpaaGreat.Tree
open Go.RowKit Pages
variable {i:Nat} {w:World}
theorem Ir {ts:List Tx} (h:ts.Pairwise Af) {i j:Nat} (hi:i<ts.length) (hj:j<ts.length) (hne:i≠j):Af ts[i] ts[j]:=by
 have hp:=List.pairwise_iff_getElem.1 h
 rcases Nat.lt_or_gt_of_ne hne with hlt|hlt
 ·exact hp i j hi hj hlt
 ·exact fun k h1 h2=>hp j i hj hi hlt k h2 h1
theorem aO.retx {w w':World} {st:Int} {D:Db}  {t t':Tx} (h:aO w st D) (hi:i<D.ts.length) (ht:D.ts[i]=t) (hT:iW w' D.β t') (hb:t'.b=t.b) (f:Fr (fpT t) w w') (hg:∀ k,fpT t' k→fpT t k∨w.heap.size≤k):aO w' st { D with ts:=D.ts.set i t' }:=by
 have hm:t∈D.ts:=ht▸List.getElem_mem hi
 have hpt:kQ (D.ts.set i t')=kQ D.ts:=by
  unfold kQ
  apply List.ext_getElem?
  intro k
  rw [List.getElem?_map,List.getElem?_map,List.getElem?_set]
  split
  ·next e =>
   subst e
   rw [jQ hi,ht]
   simp [hb]
  ·rfl
 refine⟨f.heap h.box (h.noTx hm),h.file.on (f.on (fun k hk=>⟨h.file.lies k hk,fun e=>h.txFile (h.each t hm) k e hk⟩)),?_,?_,?_⟩
 ·show w'.ownsRow 0 _ 1 D.ov (D.ts.set i t').length (kQ (D.ts.set i t'))
  rw [List.length_set,hpt]
  exact eB h.row f (fun k hk e=>h.txRow (h.each t hm) k e hk)
 ·intro x hx
  obtain⟨j,hj,rfl⟩:=List.getElem_of_mem hx
  rw [List.length_set] at hj
  rw [List.getElem_set]
  split
  ·exact hT
  ·next e =>
   have hx:=h.each D.ts[j] (List.getElem_mem hj)
   exact hx.on (f.on (fun k hk=>⟨hx.lies k hk,fun e'=>Ir h.apart hj hi (fun e2=>e e2.symm) k hk (ht▸e')⟩))
 ·refine List.pairwise_iff_getElem.2 (fun a b ha hb' hab=>?_)
  rw [List.length_set] at ha hb'
  rw [List.getElem_set,List.getElem_set]
  have old:∀ j (hj:j<D.ts.length),j≠i→∀ k,fpT t' k→¬ fpT D.ts[j] k:=fun j hj hne k h1 h2=>by
   rcases hg k h1 with h'|h'
   ·exact Ir h.apart hi hj (Ne.symm hne) k (ht.symm▸h') h2
   ·have:=(h.each D.ts[j] (List.getElem_mem hj)).lies k h2;omega
  split
  ·next e1 =>
   split
   ·omega
   ·next e2=>exact old b hb' (fun e=>e2 e.symm)
  ·next e1 =>
   split
   ·next e2=>exact fun k h1 h2=>old a ha (fun e=>e1 e.symm) k h2 h1
   ·exact Ir h.apart ha hb' (by omega)
theorem Ms {D:Db}  {t t':Tx} (hi:i<D.ts.length) (ht:D.ts[i]=t) (hg:∀ k,fpT t' k→fpT t k∨w.heap.size≤k):aH w (fpD D) (fpD { D with ts:=D.ts.set i t' }):=by
 rintro k (hk|hk|hk|⟨x,hx,hk⟩)
 ·exact .inl (.inl hk)
 ·exact .inl (.inr (.inl hk))
 ·exact .inl (.inr (.inr (.inl hk)))
 ·rcases List.mem_or_eq_of_mem_set hx with hx|rfl
  ·exact .inl (.inr (.inr (.inr ⟨x,hx,hk⟩)))
  ·exact(hg k hk).imp (fun h=>.inr (.inr (.inr ⟨t,ht▸List.getElem_mem hi,h⟩))) id
theorem dC {β:Nat} {a0:Value} {t:TypeId} (h:w.heap[β]?=some (.cells #[a0] t)):w.cell? ⟨β,0,none⟩=some a0:=by simp [World.cell?,h]
theorem Ze (D:Db) (x:Int) (i:Nat) (t:Tx) (key val:ByteArray) (b0 b1 b2 b3:Nat) (w:World) (h:aO w 1 D) (hn:D.ts.length≤1000) (hi:i<D.ts.length) (ht:D.ts[i]=t) (hx:oU D.ts x=i) (hw:t.wr=true) (hr:cI t.cs) (hcs:t.cs.length≤1000) (hk1:1≤key.size) (hk2:key.size≤24) (hv:val.size≤400)
  (x0:w.heap[b0]?=some (.cells #[.pointer (some ⟨D.d,0,none⟩)] 23)) (x1:w.heap[b1]?=some (.cells #[.int .i64 x] 3)) (x2:w.heap[b2]?=some (.cells #[.string key] 9)) (x3:w.heap[b3]?=some (.cells #[.string val] 9)) :
  Calls Tryz.prog 43 #[.pointer (some ⟨b0,0,none⟩),.pointer (some ⟨b1,0,none⟩),.pointer (some ⟨b2,0,none⟩),.pointer (some ⟨b3,0,none⟩)] w fun e w'=>e=.returned (.int .i64 0)∧∃ ca' cc',aO w' 1 { D with ts:=D.ts.set i { t with cs:=cY t.cs ⟨key,val,false⟩,ca:=ca',cc:=cc' } }∧Fr (fpD D) w w'∧aH w (fpD D) (fpD { D with ts:=D.ts.set i { t with cs:=cY t.cs ⟨key,val,false⟩,ca:=ca',cc:=cc' } }):=by
 have hWr:=Ag D 1 x i t w h (by omega) hi ht hx hw
 have hm:t∈D.ts:=ht▸List.getElem_mem hi
 have HK:Hid (∀ X,Below w.heap.size w X→aO X 1 D∧X.cell? ⟨b0,0,none⟩=some (.pointer (some ⟨D.d,0,none⟩))∧X.cell? ⟨b1,0,none⟩=some (.int .i64 x)∧X.heap[b2]?=some (.cells #[.string key] 9)∧X.heap[b3]?=some (.cells #[.string val] 9)):=by
  intro X hX
  exact⟨h.on (vV hX h.lies),dC ((hX.block _ (gL x0)).trans x0),dC ((hX.block _ (gL x1)).trans x1),(hX.block _ (gL x2)).trans x2,(hX.block _ (gL x3)).trans x3⟩
 obtain⟨_,c0,c1,y2,y3⟩:=HK.out w (Below.refl _ _)
 have c2:=dC y2
 have c3:=dC y3
 have hKy:∀ X,Calls Tryz.prog 45 #[.string key] X fun e w'=>e=.returned (.bool true)∧w'=X:=fun X=>by
  have:=xD key X
  rw [decide_eq_true (And.intro hk1 hk2)] at this
  exact this
 have HCk:Hid (∀ X,Calls Tryz.prog 47 #[.string key] X fun e w'=>e=.returned (.string key)∧Below X.heap.size X w'):=fun X=>tJ key (by omega) X
 have HCv:Hid (∀ X,Calls Tryz.prog 47 #[.string val] X fun e w'=>e=.returned (.string val)∧Below X.heap.size X w'):=fun X=>tJ val (by omega) X
 have HCh:Hid (∀ X,aO X 1 D→Calls Tryz.prog 46 #[.pointer (some ⟨t.b,0,none⟩),.agg #[.string key,.string val,.bool false]] X fun e w'=>e=.returned (.tuple #[])∧∃ ca' cc',iW w' D.β { t with cs:=cY t.cs ⟨key,val,false⟩,ca:=ca',cc:=cc' }∧Fr (fpT t) X w'∧∀ k,fpT { t with cs:=cY t.cs ⟨key,val,false⟩,ca:=ca',cc:=cc' } k→fpT t k∨X.heap.size≤k):=fun X hX=>Dh t D.β ⟨key,val,false⟩ X (hX.each t hm) hr hcs
 have hvi:¬ (400:Int)<(val.size:Int):=by omega
 have HHI:Hid (i<D.ts.length):=hi
 have HTI:Hid (D.ts[i]=t):=ht
 clear x0 x1 x2 x3 h ht hx hr
 go_enter Tryz.func43,Tryz.ntmps43
 go_wp2_with (first
  | (go_at_call 44;(with_reducible refine jC hWr ?_);rintro e X1 ⟨rfl,hX1⟩;obtain⟨hD1,c0,c1,y2,y3⟩:=HK.out X1 hX1;have c2:=dC y2;have c3:=dC y3;have hKy1:=hKy X1)
  | (go_at_call 45;(with_reducible refine jC hKy1 ?_);rintro e X1' ⟨rfl,hX1'⟩;subst X1'))
 go_region_held3 (fun X=>X.cell? ⟨b2,0,none⟩=some (.string key)∧X.cell? ⟨b3,0,none⟩=some (.string val))
  ((first|(with_reducible exact⟨c2,c3⟩)|(simp [c2,c3])))
  (first
   | (go_at_call 47;(with_reducible refine jC (HCk.out _) ?_);rintro e X2 ⟨rfl,hX2⟩;have B2:Below w.heap.size w X2:=hX1.drew.trans (hX2.mono hX1.size);obtain⟨hD2,c0,c1,y2,y3⟩:=HK.out X2 B2;have c2:=dC y2;have c3:=dC y3)
   | (go_at_call 47;(with_reducible refine jC (HCv.out _) ?_);rintro e X3 ⟨rfl,hX3⟩;have B3:Below w.heap.size w X3:=B2.trans (hX3.mono B2.size);obtain⟨hD3,c0,c1,y2,y3⟩:=HK.out X3 B3;have c2:=dC y2;have c3:=dC y3)
   | (go_at_call 46;(with_reducible refine jC (HCh.out _ hD3) ?_);rintro e X4 ⟨rfl,ca',cc',hT4,hF4,hG4⟩;have D4:=hD3.retx HHI.out HTI.out hT4 rfl hF4 hG4;have c2:=dC (hF4.heap y2 (Ap (hD3.each t hm) y2 (by decide) (by decide)));have c3:=dC (hF4.heap y3 (Ap (hD3.each t hm) y3 (by decide) (by decide)))))
 all_goals go_wp2
 all_goals go_ret
 all_goals
  refine⟨rfl,ca',cc',D4,(Fr.of_below B3).trans (hF4.mono (fun k hk=>.inl (.inr (.inr (.inr ⟨t,hm,hk⟩))))),fun k hk=>?_⟩
  have:=Ms (w:=X3) HHI.out HTI.out hG4 k hk
  exact this.imp id (fun h=>vJ B3.size h)
theorem qCq (D:Db) (x:Int) (i:Nat) (t:Tx) (key val:ByteArray) (w:World) (h:aO w 0 D) (hn:D.ts.length≤1000) (hi:i<D.ts.length) (ht:D.ts[i]=t) (hx:oU D.ts x=i) (hw:t.wr=true) (hr:cI t.cs) (hcs:t.cs.length≤1000) (hk1:1≤key.size) (hk2:key.size≤24) (hv:val.size≤400) :
  Calls Tryz.prog 23 #[.pointer (some ⟨D.d,0,none⟩),.int .i64 x,.string key,.string val] w fun e w'=>e=.returned (.int .i64 0)∧∃ ca' cc',aO w' 0 { D with ts:=D.ts.set i { t with cs:=cY t.cs ⟨key,val,false⟩,ca:=ca',cc:=cc' } }∧Fr (fpD D) w w'∧aH w (fpD D) (fpD { D with ts:=D.ts.set i { t with cs:=cY t.cs ⟨key,val,false⟩,ca:=ca',cc:=cc' } }):=by
 obtain⟨W1,hW1⟩:=nM ((((w.alloc (.cells #[.pointer (some ⟨D.d,0,none⟩)] 23)).alloc (.cells #[.int .i64 x] 3)).alloc (.cells #[.string key] 9)).alloc (.cells #[.string val] 9))
 have B1:Below w.heap.size w W1:=hW1▸(((bA _ _).alloc (by simp) _).alloc (by simp;omega) _).alloc (by simp;omega) _
 have x0:W1.heap[w.heap.size]?=some (.cells #[.pointer (some ⟨D.d,0,none⟩)] 23):=hW1▸aB _ (aB _ (aB _ (aA w _)))
 have x1:W1.heap[w.heap.size+1]?=some (.cells #[.int .i64 x] 3):=by
  rw [← hW1];refine aB _ (aB _ ?_);have:=aA (w.alloc (.cells #[.pointer (some ⟨D.d,0,none⟩)] 23)) (.cells #[.int .i64 x] 3);simpa using this
 have x2:W1.heap[w.heap.size+1+1]?=some (.cells #[.string key] 9):=by
  rw [← hW1];refine aB _ ?_;have:=aA ((w.alloc (.cells #[.pointer (some ⟨D.d,0,none⟩)] 23)).alloc (.cells #[.int .i64 x] 3)) (.cells #[.string key] 9);simpa using this
 have x3:W1.heap[w.heap.size+1+1+1]?=some (.cells #[.string val] 9):=by
  rw [← hW1];have:=aA (((w.alloc (.cells #[.pointer (some ⟨D.d,0,none⟩)] 23)).alloc (.cells #[.int .i64 x] 3)).alloc (.cells #[.string key] 9)) (.cells #[.string val] 9);simpa using this
 have h1:aO W1 0 D:=h.on (vV B1 h.lies)
 have dlt:=(gL h.box)
 have c0:=dC x0
 have hFc:=Je D 43 #[] #[.pointer (some ⟨w.heap.size,0,none⟩),.pointer (some ⟨w.heap.size+1,0,none⟩),.pointer (some ⟨w.heap.size+1+1,0,none⟩),.pointer (some ⟨w.heap.size+1+1+1,0,none⟩)] (enters_of Tryz.func43 (by kernel_rfl) rfl) W1 h1 (fun z D'=>z=0∧∃ ca' cc',D' = { D with ts:=D.ts.set i { t with cs:=cY t.cs ⟨key,val,false⟩,ca:=ca',cc:=cc' } }) (by
  intro W0 hD0 hF0 hs0
  have nd:∀ k,w.heap.size≤k→¬ Bl.one D.d k:=fun k hk e=>by simp only [Bl.one] at e;omega
  refine(Ze D x i t key val _ _ _ _ W0 hD0 hn hi ht hx hw hr hcs hk1 hk2 hv (hF0.heap x0 (nd _ (by omega))) (hF0.heap x1 (nd _ (by omega))) (hF0.heap x2 (nd _ (by omega))) (hF0.heap x3 (nd _ (by omega)))).mono ?_
  rintro e w' ⟨rfl,ca',cc',hD',hF',hG'⟩
  exact⟨0,_,rfl,hD',rfl,hF',hG',rfl,ca',cc',rfl⟩)
 clear x0 x1 x2 x3
 go_enter Tryz.func23,Tryz.ntmps23
 go_wp2_with (go_at_call 35;(with_reducible refine jC hFc ?_);rintro e X ⟨z,D',rfl,hD',hd',hF',hG',rfl,ca',cc',rfl⟩)
 go_ret
 exact⟨rfl,ca',cc',hD',(Fr.of_below B1).trans hF',fun k hk=>(hG' k hk).imp id (fun h=>vJ B1.size h)⟩
open Go.Shelf
variable {ms:List MN}
attribute [local go_sem] Oper.semAt_some
def lE (s:Sp) (ks:List ByteArray) (kids:List T) (cs:List Ch) (j:Nat):List NT:=((parts s ks kids).take j).flatMap (fun x=>eR x cs)
theorem Rm (s:Sp) (ks:List ByteArray) (kids:List T) (cs:List Ch) (j:Nat) (x:T×Sp) (h:(parts s ks kids)[j]?=some x):lE s ks kids cs (j+1)=lE s ks kids cs j++eR x cs:=by
 obtain⟨h1,h2⟩:=List.getElem?_eq_some_iff.1 h
 unfold lE
 rw [List.take_succ_eq_append_getElem h1,List.flatMap_append,h2]
 simp
theorem Mv (s:Sp) (ks:List ByteArray) (kids:List T) (cs:List Ch) (j:Nat):(lE s ks kids cs j).length≤((parts s ks kids).flatMap (fun x=>eR x cs)).length:=by
 unfold lE
 conv=>rhs;rw [← List.take_append_drop j (parts s ks kids),List.flatMap_append,jK]
 omega
structure qCc (fs:Fs) (ns:List NT):Prop where
 inv:∃ J:List NT→Prop,J ns∧(∀ A l n B,J (A++l :: n :: B)→J (A++(iC l n++B)))∧∀ L,J L→L.length≤1000000∧∀ n∈L,Ok0 fs n∧mU n∧n.ents0.length≤1000
 len:ns.length≤100000
 lo:∀ n∈gU iC ns,n.sp.lo.size≤24
 jlen:(gU iC ns).length≤100000
abbrev Fi (s:Sp):Obj:=.cells #[.string s.lo,.string s.hi] 135
abbrev kY (β:Nat) (root:Int) (ca:Option Addr) (cn cc:Nat):Obj:=.cells (tA β root ca cn cc) 95
abbrev mJ (v:Value):Obj:=.cells #[v] 221
structure pI (w W:World) (b:Nat) (v:Value) (ns:List NT) (ms:List MN) (Z:Bl):Prop where
 box:W.heap[b]?=some (mJ v)
 row:W.ownsRow 0 224 5 v ms.length (aM ms)
 nds:bO W Z (ns.map nd0) ms
 new:∀ k,v.ownBlock=some k→w.heap.size≤k
 apart:∀ k,Z k→w.heap.size≤k∧k<W.heap.size∧v.ownBlock≠some k∧k≠b
theorem gN.took {w w':World} {S:Bl} {B:Nat} {n:Nd} {m:MN} (h:gN w S n m) (ht:kW B w w'):gN w' S n m:=by
 induction h with
 | mk s place es kids m ms h1 h2 h3 h4 h5 h6 h7 h8 h9 h10 h11 ih=>exact .mk s place es kids m ms h1 h2 h3 h4 h5 h6 h7 (aI.took h8 ht) (aI.took h9 ht) h10 ih
theorem bO.took {w w':World} {S:Bl} {B:Nat} {ns:List Nd}  (h:bO w S ns ms) (ht:kW B w w'):bO w' S ns ms:=⟨h.1,fun i k x a b=>(h.2 i k x a b).took ht⟩
theorem pI.more {w W₃ W₆:World} {b:Nat} {v v':Value} {ns ns':List NT} {ms ms':List MN} {Z Z':Bl} (hA:pI w W₃ b v ns ms Z) (hF:Fr (fun k=>k=b∨v.ownBlock=some k) W₃ W₆) (hbox:W₆.heap[b]?=some (mJ v')) (hrow:W₆.ownsRow 0 224 5 v' (ms.length+ms'.length) (aM ms++aM ms')) (hv':∀ k,v'.ownBlock=some k→v.ownBlock=some k∨W₃.heap.size≤k) (hnds:bO W₆ Z' (ns'.map nd0) ms') (hZ':∀ k,Z' k→W₃.heap.size≤k∧k<W₆.heap.size∧v'.ownBlock≠some k) (hw:w.heap.size≤W₃.heap.size) :
  pI w W₆ b v' (ns++ns') (ms++ms') (Or2 Z Z'):=by
 have hb:b<W₃.heap.size:=(gL hA.box)
 have hs:=hF.size
 refine⟨hbox,by rw [jK,kM];exact hrow,?_,?_,?_⟩
 ·rw [List.map_append]
  refine bO.append ?_ (hnds.mono (fun k hk=>.inr hk))
  exact(hA.nds.on (hF.on (fun k hk=>⟨(hA.apart k hk).2.1,fun e=>by rcases e with e|e;exact(hA.apart k hk).2.2.2 e;exact(hA.apart k hk).2.2.1 e⟩))).mono (fun k hk=>.inl hk)
 ·intro k hk
  rcases hv' k hk with h|h
  ·exact hA.new k h
  ·omega
 ·rintro k (hk|hk)
  ·obtain⟨h1,h2,h3,h4⟩:=hA.apart k hk
   refine⟨h1,by omega,fun e=>?_,h4⟩
   rcases hv' k e with h|h
   ·exact h3 h
   ·omega
  ·obtain⟨h1,h2,h3⟩:=hZ' k hk
   exact⟨by omega,h2,h3,by omega⟩
abbrev eS (t:T) (sp:Sp):MN:=⟨sp.lo,sp.hi,t.place,none,0,0,none,0,0⟩
theorem Tn (w:World) (t:T) (sp:Sp):bO w Bl.none ([NT.kept t sp].map nd0) [eS t sp] :=
 bO.one (.mk sp t.place [] [] (eS t sp) [] rfl rfl rfl rfl rfl (jU _) (jU _) (.inl rfl) (.inl rfl) rfl (fun i k x a _=>by simp at a))
abbrev Ay (w:World) (g k:Nat) (m:MN):World:=((((w.setCell ⟨g,k,none⟩ (.string m.lo)).setCell ⟨g,k+1,none⟩ (.string m.hi)).setCell ⟨g,k+2,none⟩ (.int .i64 m.place)).setCell ⟨g,k+3,none⟩ (.slice m.ea m.en m.ec)).setCell ⟨g,k+4,none⟩ (.slice m.ka m.kn m.kc)
theorem kO (w:World) (g k:Nat) (m:MN):Fr (Bl.one g) w (Ay w g k m) :=
 (((((Fr.refl (Bl.one g) w).setCell (p:=⟨g,k,none⟩) (.inl rfl) _).setCell (p:=⟨g,k+1,none⟩) (.inl rfl) _).setCell (p:=⟨g,k+2,none⟩) (.inl rfl) _).setCell (p:=⟨g,k+3,none⟩) (.inl rfl) _).setCell (p:=⟨g,k+4,none⟩) (.inl rfl) _
theorem pI.push {w W₃ W₅:World} {b g c:Nat} {v:Value} {ns:List NT}  {Z:Bl} (t:T) (sp:Sp) (hA:pI w W₃ b v ns ms Z) (hw:w.heap.size≤W₃.heap.size) (A:lN 224 5 v ms.length (aM ms) [.string ⟨#[]⟩,.string ⟨#[]⟩,.int .i64 0,.slice none 0 0,.slice none 0 0] 1 W₃ (.slice (some ⟨g,0,none⟩) (ms.length+1) c) W₅) :
  pI w ((Ay W₅ g (ms.length * 5) (eS t sp)).setCell ⟨b,0,none⟩ (.slice (some ⟨g,0,none⟩) (ms.length+1) c)) b (.slice (some ⟨g,0,none⟩) (ms.length+1) c) (ns++[.kept t sp]) (ms++[eS t sp]) (Or2 Z Bl.none) ∧
  pI w (Ay (W₅.setCell ⟨b,0,none⟩ (.slice (some ⟨g,0,none⟩) (ms.length+1) c)) g (ms.length * 5) (eS t sp)) b (.slice (some ⟨g,0,none⟩) (ms.length+1) c) (ns++[.kept t sp]) (ms++[eS t sp]) (Or2 Z Bl.none) ∧
  Fr (fun k=>k=b∨v.ownBlock=some k) W₃ ((Ay W₅ g (ms.length * 5) (eS t sp)).setCell ⟨b,0,none⟩ (.slice (some ⟨g,0,none⟩) (ms.length+1) c)) ∧
  Fr (fun k=>k=b∨v.ownBlock=some k) W₃ (Ay (W₅.setCell ⟨b,0,none⟩ (.slice (some ⟨g,0,none⟩) (ms.length+1) c)) g (ms.length * 5) (eS t sp)):=by
 have nb:v.ownBlock≠some b:=aX hA.row hA.box (by decide)
 have b5:=A.fr.heap hA.box nb
 have ngb:g≠b:=fun e=>aX A.row b5 (by decide) (by rw [e];rfl)
 have hk5:(aM ms).length=ms.length * 5:=iK ms
 have F5:Fr (fun k=>k=b∨v.ownBlock=some k) W₃ W₅:=A.fr.mono (fun k hk=>.inl (.inr hk))
 have gY:∀ k,Bl.one g k→(k=b∨v.ownBlock=some k)∨W₃.heap.size≤k:=fun k hk=>by
  simp only [Bl.one] at hk;subst hk
  exact(A.lies k rfl).imp (fun h=>.inr h) id
 have fb:∀ (X:World),Fr (Bl.one b) X (X.setCell ⟨b,0,none⟩ (.slice (some ⟨g,0,none⟩) (ms.length+1) c)):=fun X=>(Fr.refl (Bl.one b) X).setCell (p:=⟨b,0,none⟩) (.inl rfl) _
 have hbY:∀ k,Bl.one b k→(k=b∨v.ownBlock=some k)∨W₃.heap.size≤k:=fun k hk=>.inl (.inl hk)
 have FA:=(F5.grow (kO W₅ g (ms.length * 5) (eS t sp)) gY).grow (fb _) hbY
 have FB:=(F5.grow (fb W₅) hbY).grow (kO (W₅.setCell ⟨b,0,none⟩ (.slice (some ⟨g,0,none⟩) (ms.length+1) c)) g (ms.length * 5) (eS t sp)) gY
 have hcell1:aM [eS t sp]=(eS t sp).cells:=by simp [aM]
 refine⟨?_,?_,FA,FB⟩
 ·have r1:=Lh A.row (ms.length * 5) hk5 (eS t sp)
  have bA:=(kO W₅ g (ms.length * 5) (eS t sp)).heap b5 (fun e=>ngb (by simp only [Bl.one] at e;exact e.symm))
  have bB:=aF bA 0 (.slice (some ⟨g,0,none⟩) (ms.length+1) c)
  refine hA.more FA (by simpa using bB) ?_ A.lies (Tn _ t sp) (fun k hk=>hk.elim) hw
  rw [hcell1]
  exact eB r1 (fb _) (fun k hk e=>by simp only [Bl.one] at e;subst e;exact ngb (by simpa [Value.ownBlock] using hk))
 ·have r1:=eB A.row (fb W₅) (fun k hk e=>by simp only [Bl.one] at e;subst e;exact ngb (by simpa [Value.ownBlock] using hk))
  have r2:=Lh r1 (ms.length * 5) hk5 (eS t sp)
  have bB:=aF b5 0 (.slice (some ⟨g,0,none⟩) (ms.length+1) c)
  have bC:=(kO (W₅.setCell ⟨b,0,none⟩ (.slice (some ⟨g,0,none⟩) (ms.length+1) c)) g (ms.length * 5) (eS t sp)).heap bB (fun e=>ngb (by simp only [Bl.one] at e;exact e.symm))
  refine hA.more FB (by simpa using bC) ?_ A.lies (Tn _ t sp) (fun k hk=>hk.elim) hw
  rw [hcell1]
  exact r2
theorem Dg (β:Nat) (sv lv:Value) (fs:Fs) (hl:(fs.life==0)=false) (root:Int) (ca:Option Addr) (cn cc:Nat) (p:Nat) (s:Sp) (ks:List ByteArray) (kids:List T) (cs:List Ch) (xa:Option Addr) (xc:Nat) (S:Bl) (w:World) (ht:aT fs 1 (.branch p ks kids) s) (hf:aD w β sv lv fs) (hR:aI w S xa (cs.flatMap Ch.cells)) (hS:∀ b,S b→b<w.heap.size) (hr:cI cs) (hgd:∀ c∈cs,c.good) (hn:cs.length≤1000) (hc:cs.length≤xc) (hxa:(xa=none∧xc=0)∨∃ b off,xa=some ⟨b,off,none⟩)
  (hpl:∀ x∈parts s ks kids,0<x.1.place) (hon:∀ x∈parts s ks kids,∀ q es,x.1=.leaf q es→(bI es (eD cs x.2)).length≤100000) (hJ:qCc fs ((parts s ks kids).flatMap (fun x=>eR x cs))) :
  Calls Tryz.prog 164 #[.agg (tA β root ca cn cc),.int .i64 p,.agg #[.string s.lo,.string s.hi],.slice xa cs.length xc] w fun e w' =>
   ∃ v ms,e=.returned v∧w'.ownsRow 0 224 5 v ms.length (aM ms)∧bO w' (New w w') ((dY sP ((gU iC ((parts s ks kids).flatMap (fun x=>eR x cs))).map nd0)).map iA) ms∧Below w.heap.size w w'∧∀ k,v.ownBlock=some k→w.heap.size≤k:=by
 obtain⟨g,hg,hk2,hks,hkd,hlen,⟨h0,c1,c2⟩,hall⟩:=ht
 obtain⟨W1,hW1⟩:=nM (((w.alloc (kY β root ca cn cc)).alloc (Fi s)).alloc (.cells #[.slice xa cs.length xc] 93))
 have B1:Below w.heap.size w W1:=hW1▸((bA _ _).alloc (by simp) _).alloc (by simp;omega) _
 have t1:W1.heap[w.heap.size]?=some (kY β root ca cn cc):=hW1▸aB _ (aB _ (aA w _))
 have s1:W1.heap[w.heap.size+1]?=some (Fi s):=by
  rw [← hW1];refine aB _ ?_;have:=aA (w.alloc (kY β root ca cn cc)) (Fi s);simpa using this
 have b1:W1.heap[w.heap.size+1+1]?=some (.cells #[.slice xa cs.length xc] 93):=by
  rw [← hW1];have:=aA ((w.alloc (kY β root ca cn cc)).alloc (Fi s)) (.cells #[.slice xa cs.length xc] 93);simpa using this
 have z1:W1.heap.size=w.heap.size+3:=by rw [← hW1];simp
 obtain⟨tc0,tc1,tc2⟩:=dR t1
 obtain⟨sc0,sc1⟩:=bQ s1
 have hf1:aD W1 β sv lv fs:=hf.on (vV B1 hf.lies)
 obtain⟨sm1,sm2,sm3⟩:=fS hg
 have hNd:=nF β sv lv fs root ca cn cc p s g W1 hf1 hl hg (by simp [hk2]) (by rw [hks];exact h0) (by simp only [hks];exact c1) (by simp only [hks];exact c2) sm1 sm3
 have HKS:Hid (g.keys=ks):=hks
 have HKD:Hid (g.kids=kids.map (fun t=>(t.place:Int))):=hkd
 have HLN:Hid (kids.length=ks.length+1):=hlen
 have HZ1:Hid (W1.heap.size=w.heap.size+3):=z1
 have hkb:(g.kind==3)=false:=by rw [hk2];rfl
 clear hk2 hks hkd hlen z1
 refine(callsIn_wide (n:=0)).1 (callsIn_of_wp_marks Tryz.func164 rfl trivial ?_ rfl)
 simp only [Tryz.ntmps164,jA,jB,jN,Nat.reduceAdd,Nat.reduceSub,jR,jO,jP,jT,jE,jF]
 gi_wp2_with (first
  | (refine⟨trivial,rfl,?_⟩;gi_at_call 117;refine(callsIn_wide.2 hNd).mono ?_;clear hNd;rintro e W3 ⟨vv,rfl,⟨ka,ia,ea,kc,ic,ec,rfl,q1,q2,q3,qq⟩,hb3⟩;obtain⟨W4,hW4⟩:=nM (W3.alloc (pgO g ka ia ea kc ic ec));have x4:W4.heap[W3.heap.size]?=some (pgO g ka ia ea kc ic ec):=hW4▸aA W3 _;obtain⟨m0,m1,m2,m3,m4,m5,m6,m7⟩:=bF x4;have f4:Fr Bl.none W1 W4:=(Fr.of_below hb3).trans (hW4▸(Fr.refl _ W3).alloc _);have s4:=f4.heap s1 (fun h=>h);have s5:=aB (mJ (.slice none 0 0)) s4;obtain⟨sd0,sd1⟩:=bQ s5;have x5:=aB (mJ (.slice none 0 0)) x4;obtain⟨me0,me1,me2,me3,me4,me5,me6,me7⟩:=bF x5;have hKc:=kI g s ka ia ea kc ic ec (W4.alloc (mJ (.slice none 0 0))))
  | (refine⟨trivial,rfl,?_⟩;gi_at_call 118;refine(callsIn_wide.2 hKc).mono ?_;clear hKc;rintro e W6 ⟨rfl,y1,y2,hb6⟩))
 clear sd0 sd1 me0 me1 me2 me3 me4 me5 me6 me7 m0 m1 m2 m3 m4 m5 m6 m7
 obtain⟨W5,hW5⟩:=nM (W4.alloc (mJ (.slice none 0 0)))
 rw [hW5] at y1 y2 hb6 s5 x5
 have n5:W5.heap[W4.heap.size]?=some (mJ (.slice none 0 0)):=hW5▸aA W4 _
 have z55:W5.heap.size=W4.heap.size+1:=by rw [← hW5];simp
 rw [z55] at y1 y2
 have f5:Fr Bl.none W1 W5:=f4.trans (hW5▸(Fr.refl _ W4).alloc _)
 have f6:Fr Bl.none W1 W6:=f5.trans (Fr.of_below hb6)
 have z3:=hb3.size
 have z4:W3.heap.size<W4.heap.size:=(gL x4)
 have z6:W4.heap.size+1+1<W6.heap.size:=(gL y2)
 have n6:=(hb6.block _ (by omega)).trans n5
 have t6:=f6.heap t1 (fun h=>h)
 have b6:=f6.heap b1 (fun h=>h)
 have F6:Fr Bl.none w W6:=(Fr.of_below B1).trans f6
 have hf6:aD W6 β sv lv fs:=hf.on (F6.on (fun k hk=>⟨hf.lies k hk,fun h=>h⟩))
 have zw:=HZ1.out
 have o36:On (New W1 W3) W3 W6:=((hW4▸(On.refl _ W3).alloc (fun k hk=>hk.2) _:On (New W1 W3) W3 W4).trans (hW5▸(On.refl _ W4).alloc (fun k hk=>by have:=hk.2;omega) _:On (New W1 W3) W4 W5)).trans (vV hb6 (fun k hk=>by have:=hk.2;omega))
 let Rd:Bl:=fun k=>k=W4.heap.size+1∨k=W4.heap.size+1+1∨New W1 W3 k
 have hseq:=lS (W4.heap.size+1+1) (W4.heap.size+1) s g.kind g.ver g.root g.next ka ia ea kc ic g.ents.length ec g.data g.keys g.kids Rd W6 y2 y1 ((q1.on o36).mono (fun k hk=>.inr (.inr hk))) ((q2.on o36).mono (fun k hk=>.inr (.inr hk))) (.inr (.inl rfl)) (.inl rfl) sm1 sm2 qq.1 qq.2.1
 have hxs:parts s g.keys g.kids=(parts s ks kids).map (fun x=>((x.1.place:Int),x.2)):=by rw [HKS.out,HKD.out,lP]
 have HXS:Hid (parts s g.keys g.kids=(parts s ks kids).map (fun x=>((x.1.place:Int),x.2))):=hxs
 clear hxs q1 q2 q3 qq o36
 let NA:=W4.heap.size
 let I:List (Int×Sp)→Bl→World→Prop:=fun pre Y W=>∃ v ms Z,pI w W NA v (lE s ks kids cs pre.length) ms Z∧(∀ k,Y k↔k=NA∨v.ownBlock=some k∨Z k)
 refine eM (P:=Tryz.prog) (Has:=kL) (Rd:=Rd) rfl (enters_of Tryz.func140 (by kernel_rfl) rfl) hseq (fun x args S W hH=>by rw [hH];rfl) I (fun _ _ _ _=>False) ?_ (fun _ _ _ _ _ h=>h.elim) ?_ (fun _ _ _ _ h=>h.elim) (Bl.one NA) ⟨.slice none 0 0,[],Bl.none,⟨n6,by simpa [aM] using World.ownsRow_nil _ _ _ _,by simpa [lE] using bO.nil _ _,by simp [Value.ownBlock],fun k hk=>hk.elim⟩,fun k=>by simp [Bl.one,Bl.none,Value.ownBlock]⟩ ?_ ?_ ?_ (fun _ _ _ _ _ _ _ _ _ h=>h.elim)
 ·rintro pre Y A B ⟨v,ms,Z,⟨h1,h2,h3,h4,h5⟩,h6⟩ ho
  exact⟨v,ms,Z,⟨ho.heap h1 ((h6 _).2 (.inl rfl)),bK h2 ho (fun k hk=>(h6 k).2 (.inr (.inl hk))),h3.on (ho.mono (fun k hk=>(h6 k).2 (.inr (.inr hk)))),h4,fun k hk=>⟨(h5 k hk).1,jY (h5 k hk).2.1 ho.size,(h5 k hk).2.2⟩⟩,h6⟩
 ·rintro pre Y A ⟨v,ms,Z,⟨h1,h2,h3,h4,h5⟩,h6⟩ k hk
  rcases (h6 k).1 hk with rfl|h|h
  ·exact(gL h1)
  ·exact aZ h2 h
  ·exact(h5 k h).2.1
 ·rintro k (rfl|rfl|hk)
  ·exact⟨fun h=>by simp only [Bl.one,NA] at h;omega,by omega⟩
  ·exact⟨fun h=>by simp only [Bl.one,NA] at h;omega,by omega⟩
  ·exact⟨fun h=>by simp only [Bl.one,NA] at h;have:=hk.2;omega,by have:=hk.2;omega⟩
 ·-- a round
  rintro l pre x rest args SS Y' W hx ⟨v,ms,Z,hA,hY⟩ hH hSS hFW hGW hl0 hl1 hl2 ⟨r,hrr⟩
  have hjl:pre.length<kids.length:=by
   have:=congrArg List.length hx
   rw [HXS.out] at this
   simp [dB] at this
   omega
  obtain⟨kid,hkid⟩:=nM (kids[pre.length]'hjl)
  obtain⟨sp,hsp⟩:=nM ((⟨iV s ks pre.length,iH s ks pre.length⟩:Sp))
  have hpa:=fK s ks kids pre.length hjl
  rw [hkid,hsp] at hpa
  have hxe:x=((kid.place:Int),sp):=by
   have h1:(parts s g.keys g.kids)[pre.length]?=some x:=by rw [hx];simp
   rw [HXS.out,List.getElem?_map,hpa] at h1
   simpa using h1.symm
  have hpm:=List.mem_of_getElem? hpa
  have hst:aT fs 0 kid sp:=hall _ hpm
  have hpp:0<kid.place:=hpl _ hpm
  have HFS:Hid (lE s ks kids cs (pre.length+1)=lE s ks kids cs pre.length++eR (kid,sp) cs):=Rm s ks kids cs pre.length (kid,sp) hpa
  have hfle:=Mv s ks kids cs pre.length
  have hfle2:=Mv s ks kids cs (pre.length+1)
  have hJl:=hJ.len
  subst hxe
  have hH':args=#[.int .i64 kid.place,.agg #[.string sp.lo,.string sp.hi]]:=hH
  subst hH'
  have zW:W6.heap.size≤W.heap.size:=hFW.size
  have tW:=hFW.heap t6 (fun h=>by simp only [Bl.one,NA] at h;omega)
  have bW:=hFW.heap b6 (fun h=>by simp only [Bl.one,NA] at h;omega)
  have FW0:Fr (Bl.one NA) w W:=(F6.mono (fun _ h=>h.elim)).trans hFW
  have nNA:∀ k,k<w.heap.size→¬ Bl.one NA k:=fun k hk e=>by simp only [Bl.one,NA] at e;omega
  have hfW:aD W β sv lv fs:=hf.on (FW0.on (fun k hk=>⟨hf.lies k hk,nNA k (hf.lies k hk)⟩))
  have hRW:aI W S xa (cs.flatMap Ch.cells):=hR.on (FW0.on (fun k hk=>⟨hS k hk,nNA k (hS k hk)⟩))
  have lY:∀ k,Y' k→k<W.heap.size:=by
   intro k hk
   rcases (hY k).1 hk with rfl|h|h
   ·exact(gL hA.box)
   ·exact aZ hA.row h
   ·exact(hA.apart k h).2.1
  clear hkid hsp hpa hx
  unfold gI
  gi_wp2
  refine⟨(Fr.refl _ W).alloc _,?_⟩
  intro W₂ hT
  have aW:Fr Bl.none W (W.alloc (Fi sp)):=(Fr.refl _ W).alloc _
  have x2:=hT.heap (aA W (Fi sp)) (by omega)
  have tX:=hT.heap (aW.heap tW (fun h=>h)) (by omega)
  have bX:=hT.heap (aW.heap bW (fun h=>h)) (by omega)
  have fX:Fr (Bl.one l) W W₂:=(aW.mono (fun _ h=>h.elim)).trans hT.fr
  have z2:=fX.size
  have z22:W.heap.size<W₂.heap.size:=(gL x2)
  have nl:∀ k,k<w.heap.size→¬ Bl.one l k:=fun k hk e=>by simp only [Bl.one] at e;omega
  have hfX:aD W₂ β sv lv fs:=hfW.on (fX.on (fun k hk=>⟨hfW.lies k hk,nl k (hf.lies k hk)⟩))
  have hRX:aI W₂ S xa (cs.flatMap Ch.cells):=hRW.on (fX.on (fun k hk=>⟨by have:=hS k hk;have:=FW0.size;omega,nl k (hS k hk)⟩))
  have oY:On Y' W W₂:=fX.on (fun k hk=>⟨lY k hk,fun e=>by simp only [Bl.one] at e;subst e;exact hl2 hk⟩)
  have hA2:pI w W₂ NA v (lE s ks kids cs pre.length) ms Z:=⟨oY.heap hA.box ((hY _).2 (.inl rfl)),bK hA.row oY (fun k hk=>(hY k).2 (.inr (.inl hk))),hA.nds.on (oY.mono (fun k hk=>(hY k).2 (.inr (.inr hk)))),hA.new,fun k hk=>⟨(hA.apart k hk).1,by have:=(hA.apart k hk).2.1;omega,(hA.apart k hk).2.2⟩⟩
  obtain⟨d0,d1,d2⟩:=dR tX
  obtain⟨e0,e1⟩:=bQ x2
  have cX:=dC bX
  have hWi:=Al xa xc cs sp S W₂ hRX (fun k hk=>by have:=hS k hk;have:=FW0.size;omega) hr (by omega) hc hxa
  obtain⟨own,how⟩:=nM (eD cs sp)
  rw [how] at hWi
  have hSw2:∀ k,S k→k<W₂.heap.size:=fun k hk=>by have:=hS k hk;have:=FW0.size;omega
  by_cases hz:own.length=0
  ·gi_wp2_with (refine⟨trivial,rfl,?_⟩;gi_at_call 137;refine(CallsIn.inRound l (callsIn_wide.2 hWi)).mono ?_;clear hWi;rintro e W₃ ⟨oa,oc,rfl,hcut,hb₃⟩)
   have z33:=hb₃.size
   have x3:=(hb₃.block _ z22).trans x2
   obtain⟨g0,g1⟩:=bQ x3
   have hA3:pI w W₃ NA v (lE s ks kids cs pre.length) ms Z:=⟨(hb₃.block _ (gL hA2.box)).trans hA2.box,bK hA2.row (vV hb₃ (Y:=fun k=>v.ownBlock=some k) (fun k hk=>aZ hA2.row hk)) (fun k hk=>hk),hA2.nds.on (vV hb₃ (fun k hk=>(hA2.apart k hk).2.1)),hA2.new,fun k hk=>⟨(hA2.apart k hk).1,by have:=(hA2.apart k hk).2.1;omega,(hA2.apart k hk).2.2⟩⟩
   refine iY (S:=fun X=>X.cell? ⟨W.heap.size,0,none⟩=some (.string sp.lo)∧X.cell? ⟨W.heap.size,1,none⟩=some (.string sp.hi)) (by kernel_rfl) (by kernel_rfl) (fun _ _ h=>h) ⟨g0,g1⟩ (fun hHeld=>?_)
   refine wpAnyH_take (i:=1) (v:=.agg #[.string sp.lo,.string sp.hi]) rfl (by kernel_rfl) (by kernel_rfl) (by kernel_rfl) (fun _ _ _ h=>h) (Or.inl ⟨by rfl,fun w hSw=>by(try dsimp only at hSw);go_simp⟩) (by assumption) ?_
   simp only [Act.put,jV,jZ,jX]
   refine wpAnyH_take (i:=2) (v:=.int .i64 kid.place) rfl (by kernel_rfl) (by kernel_rfl) (by kernel_rfl) (fun _ _ _ h=>h) (Or.inl ⟨by rfl,fun w hSw=>by(try dsimp only at hSw);go_simp⟩) (by assumption) ?_
   simp only [Act.put,jV,jZ,jX]
   refine wpAnyH_take (i:=3) (v:=.agg #[.string sp.lo,.string sp.hi,.int .i64 kid.place,.slice none 0 0,.slice none 0 0]) rfl (by kernel_rfl) (by kernel_rfl) (by kernel_rfl) (fun _ _ _ h=>h) (Or.inl ⟨by rfl,fun w hSw=>by(try dsimp only at hSw);go_simp⟩) (by assumption) ?_
   simp only [Act.put,jV,jZ,jX]
   have hml:ms.length≤100000:=by have:=hA3.nds.1;rw [List.length_map] at this;omega
   obtain⟨va,vc,rfl⟩:=aP hA3.row
   have HKP:Hid (eR (kid,sp) cs=[.kept kid sp]):=by
    show _=_
    unfold eR
    cases kid with
    | leaf q es=>simp only [how,hz,if_true]
    | branch=>rfl
   have HLP:Hid (∀ Wf v' ms' Z',pI w Wf NA v' (lE s ks kids cs pre.length++[.kept kid sp]) ms' (Or2 Z Z')→Fr (fun k=>k=NA∨(Value.slice va ms.length vc).ownBlock=some k) W₃ Wf→(∀ k,v'.ownBlock=some k→(Value.slice va ms.length vc).ownBlock=some k∨W₃.heap.size≤k)→(∀ k,Z' k→W₃.heap.size≤k)→∃ Y'',I (pre++[((kid.place:Int),sp)]) Y'' Wf∧Fr Y' W₂ Wf∧aH W₂ Y' Y''):=by
    intro Wf v' ms' Z' hAf hFf hvf hZf
    refine⟨fun k=>k=NA∨v'.ownBlock=some k∨Or2 Z Z' k,⟨v',ms',Or2 Z Z',?_,fun k=>Iff.rfl⟩,(Fr.of_below hb₃).trans (hFf.mono (fun k hk=>.inl ((hY k).2 (by rcases hk with hk|hk;exact .inl hk;exact .inr (.inl hk))))),?_⟩
    ·rw [jK,List.length_singleton,HFS.out,HKP.out];exact hAf
    ·rintro k (hk|hk|hk|hk)
     ·exact .inl ((hY k).2 (.inl hk))
     ·exact(hvf k hk).imp (fun h=>(hY k).2 (.inr (.inl h))) (fun h=>by omega)
     ·exact .inl ((hY k).2 (.inr (.inr hk)))
     ·exact .inr (by have:=hZf k hk;omega)
   have cA:W₃.cell? ⟨W4.heap.size,0,none⟩=some (.slice va ms.length vc):=dC hA3.box
   have nA3:W4.heap.size<W₃.heap.size:=(gL hA3.box)
   have x3A:=aB (.cells #[.string ⟨#[]⟩,.string ⟨#[]⟩,.int .i64 0,.slice none 0 0,.slice none 0 0] 224) x3
   obtain⟨gA0,gA1⟩:=bQ x3A
   have cA':(W₃.alloc (.cells #[.string ⟨#[]⟩,.string ⟨#[]⟩,.int .i64 0,.slice none 0 0,.slice none 0 0] 224)).cell? ⟨W4.heap.size,0,none⟩=some (.slice va ms.length vc):=dC (aB _ hA3.box)
   refine wpAnyH_ready (rs:=[0,5]) (by kernel_rfl) (by simp) (AllReadyH.cons rfl (fun K hK=>?_) (AllReadyH.cons rfl (fun K hK=>?_) AllReadyH.nil))
   ·go_simp
    refine hK.out _ _ ⟨g0,g1⟩ (fun hHeld=>?_)
    clear hK K
    try simp only [Act.put,jV,jZ,jX]
    refine wpAnyH_take (i:=4) (v:=.int .i64 ms.length) rfl (by kernel_rfl) (by kernel_rfl) (by kernel_rfl) (fun _ _ _ h=>h) (Or.inl ⟨by rfl,fun w hSw=>by(try dsimp only at hSw);go_simp⟩) (by assumption) ?_
    simp only [Act.put,jV,jZ,jX]
    refine wpAnyH_ready (rs:=[5]) (by kernel_rfl) (by simp) (AllReadyH.cons rfl (fun K hK=>?_) AllReadyH.nil)
    go_simp
    refine hK.out _ _ ⟨gA0,gA1⟩ (fun hHeld=>?_)
    clear hK K
    try simp only [Act.put,jV,jZ,jX]
    refine wpAnyH_ready (rs:=[6]) (by kernel_rfl) (by simp) (AllReadyH.cons rfl (fun K hK=>?_) AllReadyH.nil)
    refine kF W₃.drew rfl (.tmp 39) (.tmp 44) 221 224 _ 5 88 rfl Tryz.underlying221 jW rfl (by decide) (.slice va ms.length vc) ms.length (aM ms) (by simp [Act.eval,Act.put]) hA3.row [.string ⟨#[]⟩,.string ⟨#[]⟩,.int .i64 0,.slice none 0 0,.slice none 0 0] (by simp [Act.eval,Act.put]) rfl (by simp [Value.oneCell']) (by omega) (by omega) ?_
    intro v5 W₅ A5
    obtain⟨g5,k5,rfl⟩:=A5.shape (by decide)
    have A6:lN 224 5 (.slice va ms.length vc) ms.length (aM ms) [.string ⟨#[]⟩,.string ⟨#[]⟩,.int .i64 0,.slice none 0 0,.slice none 0 0] 1 W₃ (.slice (some ⟨g5,0,none⟩) (ms.length+1) k5) W₅:=⟨A5.row,(Fr.refl _ W₃).drew.trans A5.fr,A5.lies⟩
    obtain⟨hP1,hP2,hP3,hP4⟩:=hA3.push kid sp (by have:=FW0.size;omega) A6
    have x5:=A6.fr.heap x3 (aX hA3.row x3 (by decide))
    obtain⟨h50,h51⟩:=bQ x5
    have b5:W₅.heap[W4.heap.size]?=some (mJ (.slice va ms.length vc)):=A6.fr.heap hA3.box (aX hA3.row hA3.box (by decide))
    have ng5:g5≠W4.heap.size:=fun e=>aX A6.row b5 (by decide) (by rw [e];rfl)
    have ng6:g5≠W.heap.size:=fun e=>aX A6.row x5 (by decide) (by rw [e];rfl)
    have cN:=dC b5
    have fN:=aG b5
    have b50:=aF b5 0 (.slice (some ⟨g5,0,none⟩) (ms.length+1) k5)
    have f50:Fr (Bl.one W4.heap.size) W₅ (W₅.setCell ⟨W4.heap.size,0,none⟩ (.slice (some ⟨g5,0,none⟩) (ms.length+1) k5)):=(Fr.refl (Bl.one W4.heap.size) W₅).setCell (p:=⟨W4.heap.size,0,none⟩) (.inl rfl) _
    obtain⟨hN0,hN1⟩:=bQ (f50.heap x5 (oN (by omega)))
    have q0:=bL A6.row (ms.length * 5) (by omega)
    have q1:=bL A6.row (ms.length * 5+1) (by omega)
    have q2:=bL A6.row (ms.length * 5+2) (by omega)
    have q3:=bL A6.row (ms.length * 5+3) (by omega)
    have q4:=bL A6.row (ms.length * 5+4) (by omega)
    obtain⟨u0,hu0⟩:=Option.isSome_iff_exists.1 q0.1
    obtain⟨u1,hu1⟩:=Option.isSome_iff_exists.1 q1.1
    obtain⟨u2,hu2⟩:=Option.isSome_iff_exists.1 q2.1
    obtain⟨u3,hu3⟩:=Option.isSome_iff_exists.1 q3.1
    obtain⟨u4,hu4⟩:=Option.isSome_iff_exists.1 q4.1
    have fz0:=q0.2
    have fz1:=q1.2
    have fz2:=q2.2
    have fz3:=q3.2
    have fz4:=q4.2
    have r50:=eB A6.row f50 (fun k hk e=>by simp only [Bl.one] at e;subst e;exact ng5 (by simpa [Value.ownBlock] using hk))
    have q0':=bL r50 (ms.length * 5) (by omega)
    have q1':=bL r50 (ms.length * 5+1) (by omega)
    have q2':=bL r50 (ms.length * 5+2) (by omega)
    have q3':=bL r50 (ms.length * 5+3) (by omega)
    have q4':=bL r50 (ms.length * 5+4) (by omega)
    obtain⟨u0',hu0'⟩:=Option.isSome_iff_exists.1 q0'.1
    obtain⟨u1',hu1'⟩:=Option.isSome_iff_exists.1 q1'.1
    obtain⟨u2',hu2'⟩:=Option.isSome_iff_exists.1 q2'.1
    obtain⟨u3',hu3'⟩:=Option.isSome_iff_exists.1 q3'.1
    obtain⟨u4',hu4'⟩:=Option.isSome_iff_exists.1 q4'.1
    have fz0':=q0'.2
    have fz1':=q1'.2
    have fz2':=q2'.2
    have fz3':=q3'.2
    have fz4':=q4'.2
    clear q0 q1 q2 q3 q4 q0' q1' q2' q3' q4'
    have s50:=kO W₅ g5 (ms.length * 5) (eS kid sp)
    have b51:=s50.heap b5 (fun e=>ng5 (by simp only [Bl.one] at e;exact e.symm))
    have cN1:=dC b51
    have fN1:=aG b51
    obtain⟨h60,h61⟩:=bQ (s50.heap x5 (fun e=>ng6 (by simp only [Bl.one] at e;exact e.symm)))
    have hix:(ms.length:Int)<(ms.length:Int)+1:=by omega
    obtain⟨k60,k61⟩:=bQ (((Fr.refl (Bl.one W4.heap.size) (Ay W₅ g5 (ms.length * 5) (eS kid sp))).setCell (p:=⟨W4.heap.size,0,none⟩) (.inl rfl) (.slice (some ⟨g5,0,none⟩) (ms.length+1) k5)).heap (s50.heap x5 (fun e=>ng6 (by simp only [Bl.one] at e;exact e.symm))) (oN (by omega)))
    obtain⟨k70,k71⟩:=bQ ((kO (W₅.setCell ⟨W4.heap.size,0,none⟩ (.slice (some ⟨g5,0,none⟩) (ms.length+1) k5)) g5 (ms.length * 5) (eS kid sp)).heap (f50.heap x5 (oN (by omega))) (fun e=>ng6 (by simp only [Bl.one] at e;exact e.symm)))
    refine hK.out _ _ ⟨h50,h51⟩ (fun hHeld=>?_)
    clear hK K
    try simp only [Act.put,jV,jZ,jX]
    refine wpAnyH_take (i:=7) (v:=.pointer (some ⟨g5,ms.length * 5,none⟩)) rfl (by kernel_rfl) (by kernel_rfl) (by kernel_rfl) (fun _ _ _ h=>h) (Or.inl ⟨by rfl,fun w hSw=>by(try dsimp only at hSw);go_simp⟩) (by assumption) ?_
    try simp only [Act.put,jV,jZ,jX]
    refine wpAnyH_ready (rs:=[8,9]) (by kernel_rfl) (by simp) (AllReadyH.cons rfl (fun K hK=>?_) (AllReadyH.cons rfl (fun K hK=>?_) AllReadyH.nil))
    ·go_simp
     refine hK.out _ _ ⟨h60,h61⟩ (fun hHeld=>?_)
     clear hK K
     try simp only [Act.put,jV,jZ,jX]
     refine wpAnyH_ready (rs:=[9]) (by kernel_rfl) (by simp) (AllReadyH.cons rfl (fun K hK=>?_) AllReadyH.nil)
     go_simp
     refine hK.out _ _ ⟨k60,k61⟩ (fun hHeld=>?_)
     clear hK K
     refine wpAnyH_done (by kernel_rfl) ?_ _
     have HLQ:=HLP.out _ _ _ _ hP1 hP3 A6.lies (fun k hk=>hk.elim)
     gi_wp2
     exact HLQ
    ·go_simp
     refine hK.out _ _ ⟨hN0,hN1⟩ (fun hHeld=>?_)
     clear hK K
     try simp only [Act.put,jV,jZ,jX]
     refine wpAnyH_ready (rs:=[8]) (by kernel_rfl) (by simp) (AllReadyH.cons rfl (fun K hK=>?_) AllReadyH.nil)
     go_simp
     refine hK.out _ _ ⟨k70,k71⟩ (fun hHeld=>?_)
     clear hK K
     refine wpAnyH_done (by kernel_rfl) ?_ _
     have HLQ:=HLP.out _ _ _ _ hP2 hP4 A6.lies (fun k hk=>hk.elim)
     gi_wp2
     exact HLQ
   ·go_simp
    refine hK.out _ _ ⟨gA0,gA1⟩ (fun hHeld=>?_)
    clear hK K
    try simp only [Act.put,jV,jZ,jX]
    refine wpAnyH_ready (rs:=[0]) (by kernel_rfl) (by simp) (AllReadyH.cons rfl (fun K hK=>?_) AllReadyH.nil)
    go_simp
    refine hK.out _ _ ⟨gA0,gA1⟩ (fun hHeld=>?_)
    clear hK K
    try simp only [Act.put,jV,jZ,jX]
    refine wpAnyH_take (i:=4) (v:=.int .i64 ms.length) rfl (by kernel_rfl) (by kernel_rfl) (by kernel_rfl) (fun _ _ _ h=>h) (Or.inl ⟨by rfl,fun w hSw=>by(try dsimp only at hSw);go_simp⟩) (by assumption) ?_
    simp only [Act.put,jV,jZ,jX]
    refine wpAnyH_ready (rs:=[6]) (by kernel_rfl) (by simp) (AllReadyH.cons rfl (fun K hK=>?_) AllReadyH.nil)
    refine kF W₃.drew rfl (.tmp 39) (.tmp 44) 221 224 _ 5 88 rfl Tryz.underlying221 jW rfl (by decide) (.slice va ms.length vc) ms.length (aM ms) (by simp [Act.eval,Act.put]) hA3.row [.string ⟨#[]⟩,.string ⟨#[]⟩,.int .i64 0,.slice none 0 0,.slice none 0 0] (by simp [Act.eval,Act.put]) rfl (by simp [Value.oneCell']) (by omega) (by omega) ?_
    intro v5 W₅ A5
    obtain⟨g5,k5,rfl⟩:=A5.shape (by decide)
    have A6:lN 224 5 (.slice va ms.length vc) ms.length (aM ms) [.string ⟨#[]⟩,.string ⟨#[]⟩,.int .i64 0,.slice none 0 0,.slice none 0 0] 1 W₃ (.slice (some ⟨g5,0,none⟩) (ms.length+1) k5) W₅:=⟨A5.row,(Fr.refl _ W₃).drew.trans A5.fr,A5.lies⟩
    obtain⟨hP1,hP2,hP3,hP4⟩:=hA3.push kid sp (by have:=FW0.size;omega) A6
    have x5:=A6.fr.heap x3 (aX hA3.row x3 (by decide))
    obtain⟨h50,h51⟩:=bQ x5
    have b5:W₅.heap[W4.heap.size]?=some (mJ (.slice va ms.length vc)):=A6.fr.heap hA3.box (aX hA3.row hA3.box (by decide))
    have ng5:g5≠W4.heap.size:=fun e=>aX A6.row b5 (by decide) (by rw [e];rfl)
    have ng6:g5≠W.heap.size:=fun e=>aX A6.row x5 (by decide) (by rw [e];rfl)
    have cN:=dC b5
    have fN:=aG b5
    have b50:=aF b5 0 (.slice (some ⟨g5,0,none⟩) (ms.length+1) k5)
    have f50:Fr (Bl.one W4.heap.size) W₅ (W₅.setCell ⟨W4.heap.size,0,none⟩ (.slice (some ⟨g5,0,none⟩) (ms.length+1) k5)):=(Fr.refl (Bl.one W4.heap.size) W₅).setCell (p:=⟨W4.heap.size,0,none⟩) (.inl rfl) _
    obtain⟨hN0,hN1⟩:=bQ (f50.heap x5 (oN (by omega)))
    have q0:=bL A6.row (ms.length * 5) (by omega)
    have q1:=bL A6.row (ms.length * 5+1) (by omega)
    have q2:=bL A6.row (ms.length * 5+2) (by omega)
    have q3:=bL A6.row (ms.length * 5+3) (by omega)
    have q4:=bL A6.row (ms.length * 5+4) (by omega)
    obtain⟨u0,hu0⟩:=Option.isSome_iff_exists.1 q0.1
    obtain⟨u1,hu1⟩:=Option.isSome_iff_exists.1 q1.1
    obtain⟨u2,hu2⟩:=Option.isSome_iff_exists.1 q2.1
    obtain⟨u3,hu3⟩:=Option.isSome_iff_exists.1 q3.1
    obtain⟨u4,hu4⟩:=Option.isSome_iff_exists.1 q4.1
    have fz0:=q0.2
    have fz1:=q1.2
    have fz2:=q2.2
    have fz3:=q3.2
    have fz4:=q4.2
    have r50:=eB A6.row f50 (fun k hk e=>by simp only [Bl.one] at e;subst e;exact ng5 (by simpa [Value.ownBlock] using hk))
    have q0':=bL r50 (ms.length * 5) (by omega)
    have q1':=bL r50 (ms.length * 5+1) (by omega)
    have q2':=bL r50 (ms.length * 5+2) (by omega)
    have q3':=bL r50 (ms.length * 5+3) (by omega)
    have q4':=bL r50 (ms.length * 5+4) (by omega)
    obtain⟨u0',hu0'⟩:=Option.isSome_iff_exists.1 q0'.1
    obtain⟨u1',hu1'⟩:=Option.isSome_iff_exists.1 q1'.1
    obtain⟨u2',hu2'⟩:=Option.isSome_iff_exists.1 q2'.1
    obtain⟨u3',hu3'⟩:=Option.isSome_iff_exists.1 q3'.1
    obtain⟨u4',hu4'⟩:=Option.isSome_iff_exists.1 q4'.1
    have fz0':=q0'.2
    have fz1':=q1'.2
    have fz2':=q2'.2
    have fz3':=q3'.2
    have fz4':=q4'.2
    clear q0 q1 q2 q3 q4 q0' q1' q2' q3' q4'
    have s50:=kO W₅ g5 (ms.length * 5) (eS kid sp)
    have b51:=s50.heap b5 (fun e=>ng5 (by simp only [Bl.one] at e;exact e.symm))
    have cN1:=dC b51
    have fN1:=aG b51
    obtain⟨h60,h61⟩:=bQ (s50.heap x5 (fun e=>ng6 (by simp only [Bl.one] at e;exact e.symm)))
    have hix:(ms.length:Int)<(ms.length:Int)+1:=by omega
    obtain⟨k60,k61⟩:=bQ (((Fr.refl (Bl.one W4.heap.size) (Ay W₅ g5 (ms.length * 5) (eS kid sp))).setCell (p:=⟨W4.heap.size,0,none⟩) (.inl rfl) (.slice (some ⟨g5,0,none⟩) (ms.length+1) k5)).heap (s50.heap x5 (fun e=>ng6 (by simp only [Bl.one] at e;exact e.symm))) (oN (by omega)))
    obtain⟨k70,k71⟩:=bQ ((kO (W₅.setCell ⟨W4.heap.size,0,none⟩ (.slice (some ⟨g5,0,none⟩) (ms.length+1) k5)) g5 (ms.length * 5) (eS kid sp)).heap (f50.heap x5 (oN (by omega))) (fun e=>ng6 (by simp only [Bl.one] at e;exact e.symm)))
    refine hK.out _ _ ⟨h50,h51⟩ (fun hHeld=>?_)
    clear hK K
    try simp only [Act.put,jV,jZ,jX]
    refine wpAnyH_take (i:=7) (v:=.pointer (some ⟨g5,ms.length * 5,none⟩)) rfl (by kernel_rfl) (by kernel_rfl) (by kernel_rfl) (fun _ _ _ h=>h) (Or.inl ⟨by rfl,fun w hSw=>by(try dsimp only at hSw);go_simp⟩) (by assumption) ?_
    try simp only [Act.put,jV,jZ,jX]
    refine wpAnyH_ready (rs:=[8,9]) (by kernel_rfl) (by simp) (AllReadyH.cons rfl (fun K hK=>?_) (AllReadyH.cons rfl (fun K hK=>?_) AllReadyH.nil))
    ·go_simp
     refine hK.out _ _ ⟨h60,h61⟩ (fun hHeld=>?_)
     clear hK K
     try simp only [Act.put,jV,jZ,jX]
     refine wpAnyH_ready (rs:=[9]) (by kernel_rfl) (by simp) (AllReadyH.cons rfl (fun K hK=>?_) AllReadyH.nil)
     go_simp
     refine hK.out _ _ ⟨k60,k61⟩ (fun hHeld=>?_)
     clear hK K
     refine wpAnyH_done (by kernel_rfl) ?_ _
     have HLQ:=HLP.out _ _ _ _ hP1 hP3 A6.lies (fun k hk=>hk.elim)
     gi_wp2
     exact HLQ
    ·go_simp
     refine hK.out _ _ ⟨hN0,hN1⟩ (fun hHeld=>?_)
     clear hK K
     try simp only [Act.put,jV,jZ,jX]
     refine wpAnyH_ready (rs:=[8]) (by kernel_rfl) (by simp) (AllReadyH.cons rfl (fun K hK=>?_) AllReadyH.nil)
     go_simp
     refine hK.out _ _ ⟨k70,k71⟩ (fun hHeld=>?_)
     clear hK K
     refine wpAnyH_done (by kernel_rfl) ?_ _
     have HLQ:=HLP.out _ _ _ _ hP2 hP4 A6.lies (fun k hk=>hk.elim)
     gi_wp2
     exact HLQ
  ·cases kid with
   | branch=>exact hst.elim
   | leaf q es =>
    have hzi:¬ ((own.length:Int)=0):=by omega
    gi_wp2_with (refine⟨trivial,rfl,?_⟩;gi_at_call 137;refine(CallsIn.inRound l (callsIn_wide.2 hWi)).mono ?_;clear hWi;rintro e W₃ ⟨oa,oc,rfl,hcut,hb₃⟩)
    have z33:=hb₃.size
    have x3:=(hb₃.block _ z22).trans x2
    have t3:=(hb₃.block _ (by have:=(gL tX);omega)).trans tX
    have hA3:pI w W₃ NA v (lE s ks kids cs pre.length) ms Z:=⟨(hb₃.block _ (gL hA2.box)).trans hA2.box,bK hA2.row (vV hb₃ (Y:=fun k=>v.ownBlock=some k) (fun k hk=>aZ hA2.row hk)) (fun k hk=>hk),hA2.nds.on (vV hb₃ (fun k hk=>(hA2.apart k hk).2.1)),hA2.new,fun k hk=>⟨(hA2.apart k hk).1,by have:=(hA2.apart k hk).2.1;omega,(hA2.apart k hk).2.2⟩⟩
    have hml:ms.length≤100000:=by have:=hA3.nds.1;rw [List.length_map] at this;omega
    obtain⟨va,vc,rfl⟩:=aP hA3.row
    have hf3:aD W₃ β sv lv fs:=hfX.on (vV hb₃ hfX.lies)
    have hR3:=hcut.2.1 W₃ (hRX.on (vV hb₃ hSw2))
    have hCh:=vY β sv lv fs hl root ca cn cc q sp es own oa oc S W₃.drew hst (hf3.on (vV (Below.refl _ W₃).drew hf3.lies)) hR3 (fun k hk=>by have:=hSw2 k hk;show k<W₃.heap.size;omega) (how▸iD hr sp) (fun c hc=>hgd c (jL.1 (how▸hc)).1) (by have:=Zm cs sp;rw [how] at this;omega) hcut.1 hcut.2.2 (how▸hon _ hpm q es rfl)
    have HKP:Hid (eR (.leaf q es,sp) cs=cP (bI es own)):=by
     show _=_
     simp only [eR,how,hz,if_false]
    have HLP:Hid (∀ Wf v' ms' Z',pI w Wf NA v' (lE s ks kids cs pre.length++cP (bI es own)) ms' (Or2 Z Z')→Fr (fun k=>k=NA∨(Value.slice va ms.length vc).ownBlock=some k) W₃ Wf→(∀ k,v'.ownBlock=some k→(Value.slice va ms.length vc).ownBlock=some k∨W₃.heap.size≤k)→(∀ k,Z' k→W₃.heap.size≤k)→∃ Y'',I (pre++[(((T.leaf q es).place:Int),sp)]) Y'' Wf∧Fr Y' W₂ Wf∧aH W₂ Y' Y''):=by
     intro Wf v' ms' Z' hAf hFf hvf hZf
     refine⟨fun k=>k=NA∨v'.ownBlock=some k∨Or2 Z Z' k,⟨v',ms',Or2 Z Z',?_,fun k=>Iff.rfl⟩,(Fr.of_below hb₃).trans (hFf.mono (fun k hk=>.inl ((hY k).2 (by rcases hk with hk|hk;exact .inl hk;exact .inr (.inl hk))))),?_⟩
     ·rw [jK,List.length_singleton,HFS.out,HKP.out];exact hAf
     ·rintro k (hk|hk|hk|hk)
      ·exact .inl ((hY k).2 (.inl hk))
      ·exact(hvf k hk).imp (fun h=>(hY k).2 (.inr (.inl h))) (fun h=>by omega)
      ·exact .inl ((hY k).2 (.inr (.inr hk)))
      ·exact .inr (by have:=hZf k hk;omega)
    have cA:W₃.cell? ⟨W4.heap.size,0,none⟩=some (.slice va ms.length vc):=dC hA3.box
    have nA3:W4.heap.size<W₃.heap.size:=(gL hA3.box)
    have HS:Hid (∀ X,Below W₃.drew.heap.size W₃.drew X→X.cell? ⟨w.heap.size,0,none⟩=some (.pointer (some ⟨β,0,none⟩))∧X.cell? ⟨w.heap.size,1,none⟩=some (.int .i64 root)∧X.cell? ⟨w.heap.size,2,none⟩=some (.slice ca cn cc)∧X.cell? ⟨W.heap.size,0,none⟩=some (.string sp.lo)∧X.cell? ⟨W.heap.size,1,none⟩=some (.string sp.hi)):=by
     intro X hX
     have h1:=(hX.block w.heap.size (gL t3)).trans t3
     have h2:=(hX.block W.heap.size (gL x3)).trans x3
     obtain⟨e1,e2,e3⟩:=dR h1
     obtain⟨e4,e5⟩:=bQ h2
     exact⟨e1,e2,e3,e4,e5⟩
    have HC5:Hid (∀ X,Below W₃.drew.heap.size W₃.drew X→X.cell? ⟨W4.heap.size,0,none⟩=some (.slice va ms.length vc)):=fun X hX=>dC ((hX.block W4.heap.size nA3).trans hA3.box)
    have hS0:=HS.out W₃.drew (Below.refl _ _)
    clear hz
    refine iY (S:=fun X=>X.cell? ⟨w.heap.size,0,none⟩=some (.pointer (some ⟨β,0,none⟩))∧X.cell? ⟨w.heap.size,1,none⟩=some (.int .i64 root)∧X.cell? ⟨w.heap.size,2,none⟩=some (.slice ca cn cc)∧X.cell? ⟨W.heap.size,0,none⟩=some (.string sp.lo)∧X.cell? ⟨W.heap.size,1,none⟩=some (.string sp.hi)) (by kernel_rfl) (by kernel_rfl) (fun _ _ h=>h) hS0 (fun hHeld=>?_)
    refine wpAnyH_take (i:=1) (v:=.agg (tA β root ca cn cc)) rfl (by kernel_rfl) (by kernel_rfl) (by kernel_rfl) (fun _ _ _ h=>h) (Or.inl ⟨by rfl,fun w hSw=>by(try dsimp only at hSw);go_simp⟩) (by assumption) ?_
    try simp only [Act.put,jV,jZ,jX]
    refine wpAnyH_take (i:=2) (v:=.int .i64 (T.leaf q es).place) rfl (by kernel_rfl) (by kernel_rfl) (by kernel_rfl) (fun _ _ _ h=>h) (Or.inl ⟨by rfl,fun w hSw=>by(try dsimp only at hSw);go_simp⟩) (by assumption) ?_
    try simp only [Act.put,jV,jZ,jX]
    refine wpAnyH_take (i:=3) (v:=.agg #[.string sp.lo,.string sp.hi]) rfl (by kernel_rfl) (by kernel_rfl) (by kernel_rfl) (fun _ _ _ h=>h) (Or.inl ⟨by rfl,fun w hSw=>by(try dsimp only at hSw);go_simp⟩) (by assumption) ?_
    try simp only [Act.put,jV,jZ,jX]
    refine wpAnyH_take (i:=4) (v:=.slice oa own.length oc) rfl (by kernel_rfl) (by kernel_rfl) (by kernel_rfl) (fun _ _ _ h=>h) (Or.inl ⟨by rfl,fun w hSw=>by(try dsimp only at hSw);go_simp⟩) (by assumption) ?_
    try simp only [Act.put,jV,jZ,jX]
    refine wpAnyH_ready (rs:=[0,5]) (by kernel_rfl) (by simp) (AllReadyH.cons rfl (fun K hK=>?_) (AllReadyH.cons rfl (fun K hK=>?_) AllReadyH.nil))
    ·go_simp
     refine hK.out _ _ hS0 (fun hHeld=>?_)
     clear hK K
     try simp only [Act.put,jV,jZ,jX]
     refine wpAnyH_ready (rs:=[5]) (by kernel_rfl) (by simp) (AllReadyH.cons rfl (fun K hK=>?_) AllReadyH.nil)
     go_simp
     go_at_call 164
     refine jC hCh ?_
     rintro e W₅ ⟨v5,ms5,rfl,ho5,hN5,hb5,hl5⟩
     simp only []
     obtain⟨h5t0,h5t1,h5t2,h5s0,h5s1⟩:=HS.out W₅ hb5
     refine hK.out _ _ ⟨h5t0,h5t1,h5t2,h5s0,h5s1⟩ (fun hHeld=>?_)
     clear hK K
     try simp only [Act.put,jV,jZ,jX]
     have hB5:Below W₃.heap.size W₃ W₅:=(Below.refl _ W₃).drew.trans hb5
     have oZ:∀ k,(Value.slice va ms.length vc).ownBlock=some k→k<W₃.heap.size:=fun k hk=>aZ hA3.row hk
     have ho53:W₅.ownsRow 0 224 5 (.slice va ms.length vc) ms.length (aM ms):=bK hA3.row (vV hB5 (Y:=fun k=>(Value.slice va ms.length vc).ownBlock=some k) oZ) (fun k hk=>hk)
     obtain⟨a5,c5,rfl,hc5,hrow5⟩:=cS ho5
     have hlq:ms5.length≤100000:=by
      have h1:=hN5.1
      rw [List.length_map] at h1
      have h2:=congrArg List.length HFS.out
      rw [HKP.out,jK] at h2
      omega
     refine wpAnyH_ready (rs:=[6]) (by kernel_rfl) (by simp) (AllReadyH.cons rfl (fun K hK=>?_) AllReadyH.nil)
     refine Fh W₅ rfl (.tmp 47) (.tmp 52) 221 224 _ 5 88 rfl Tryz.underlying221 jW rfl (by decide) (.slice va ms.length vc) ms.length (aM ms) (by simp [Act.eval,Act.put]) ho53 a5 ms5.length c5 _ (aM ms5) (by simp [Act.eval,Act.put]) (iK ms5) hrow5 (mK ms5) (by omega) (by omega) ?_
     intro v7 W₇ A7
     obtain⟨a7,c7,rfl⟩:=aP A7.row
     have b7:W₇.heap[W4.heap.size]?=some (mJ (.slice va ms.length vc)):=A7.fr.heap ((hB5.block _ nA3).trans hA3.box) (aX hA3.row hA3.box (by decide))
     have cN:=dC b7
     have fN:=aG b7
     have F7:Fr (fun k=>(Value.slice va ms.length vc).ownBlock=some k) W₃ W₇:=(Fr.of_below hB5).trans A7.fr
     have x7:=F7.heap x3 (aX hA3.row x3 (by decide))
     have t7:=F7.heap t3 (aX hA3.row t3 (by decide))
     obtain⟨h7s0,h7s1⟩:=bQ x7
     obtain⟨h7t0,h7t1,h7t2⟩:=dR t7
     have f8:Fr (Bl.one W4.heap.size) W₇ (W₇.setCell ⟨W4.heap.size,0,none⟩ (.slice a7 (ms.length+ms5.length) c7)):=(Fr.refl (Bl.one W4.heap.size) W₇).setCell (p:=⟨W4.heap.size,0,none⟩) (.inl rfl) _
     obtain⟨h8s0,h8s1⟩:=bQ (f8.heap x7 (oN (by omega)))
     obtain⟨h8t0,h8t1,h8t2⟩:=dR (f8.heap t7 (oN (by omega)))
     have z5:=hB5.size
     have z7:=A7.fr.size
     have nb7:(Value.slice a7 (ms.length+ms5.length) c7).ownBlock≠some W4.heap.size:=aX A7.row b7 (by decide)
     have FF:Fr (fun k=>k=NA∨(Value.slice va ms.length vc).ownBlock=some k) W₃ (W₇.setCell ⟨W4.heap.size,0,none⟩ (.slice a7 (ms.length+ms5.length) c7)):=(F7.mono (fun k hk=>.inl (.inr hk))).trans (f8.mono (fun k hk=>.inl (.inl (by simp only [Bl.one] at hk;exact hk))))
     have hv7:∀ k,(Value.slice a7 (ms.length+ms5.length) c7).ownBlock=some k→(Value.slice va ms.length vc).ownBlock=some k∨W₃.heap.size≤k:=fun k hk=>(A7.lies k hk).imp id (fun h=>by omega)
     have hAf:=hA3.more (ns':=cP (bI es own)) (ms':=ms5) (Z':=New W₃ W₅) FF (by have:=aF b7 0 (.slice a7 (ms.length+ms5.length) c7);simpa using this) (eB A7.row f8 (fun k hk e=>by simp only [Bl.one] at e;subst e;exact nb7 hk)) hv7
      ((hN5.on (A7.fr.on (fun k hk=>⟨hk.2,fun e=>by have h1:=oZ k e;have h2:W₃.heap.size≤k:=hk.1;omega⟩))).on (f8.on (fun k hk=>⟨by have:=hk.2;omega,fun e=>by simp only [Bl.one] at e;have h2:W₃.heap.size≤k:=hk.1;omega⟩)))
      (fun k hk=>⟨hk.1,by have:=hk.2;simp;omega,fun e=>by have h2:W₃.heap.size≤k:=hk.1;have h3:=hk.2;rcases A7.lies k e with h|h;exact absurd (oZ k h) (by omega);omega⟩) (by have:=FW0.size;omega)
     refine hK.out _ _ ⟨h7t0,h7t1,h7t2,h7s0,h7s1⟩ (fun hHeld=>?_)
     clear hK K
     try simp only [Act.put,jV,jZ,jX]
     refine wpAnyH_ready (rs:=[7]) (by kernel_rfl) (by simp) (AllReadyH.cons rfl (fun K hK=>?_) AllReadyH.nil)
     go_simp
     refine hK.out _ _ ⟨h8t0,h8t1,h8t2,h8s0,h8s1⟩ (fun hHeld=>?_)
     clear hK K
     refine wpAnyH_done (by kernel_rfl) ?_ _
     have HLQ:=HLP.out _ _ _ _ hAf FF hv7 (fun k hk=>hk.1)
     gi_wp2
     exact HLQ
    ·go_simp
     go_at_call 164
     refine jC hCh ?_
     rintro e W₅ ⟨v5,ms5,rfl,ho5,hN5,hb5,hl5⟩
     simp only []
     obtain⟨h5t0,h5t1,h5t2,h5s0,h5s1⟩:=HS.out W₅ hb5
     refine hK.out _ _ ⟨h5t0,h5t1,h5t2,h5s0,h5s1⟩ (fun hHeld=>?_)
     clear hK K
     try simp only [Act.put,jV,jZ,jX]
     have cA5:=HC5.out W₅ hb5
     refine wpAnyH_ready (rs:=[0]) (by kernel_rfl) (by simp) (AllReadyH.cons rfl (fun K hK=>?_) AllReadyH.nil)
     go_simp
     refine hK.out _ _ ⟨h5t0,h5t1,h5t2,h5s0,h5s1⟩ (fun hHeld=>?_)
     clear hK K
     try simp only [Act.put,jV,jZ,jX]
     have hB5:Below W₃.heap.size W₃ W₅:=(Below.refl _ W₃).drew.trans hb5
     have oZ:∀ k,(Value.slice va ms.length vc).ownBlock=some k→k<W₃.heap.size:=fun k hk=>aZ hA3.row hk
     have ho53:W₅.ownsRow 0 224 5 (.slice va ms.length vc) ms.length (aM ms):=bK hA3.row (vV hB5 (Y:=fun k=>(Value.slice va ms.length vc).ownBlock=some k) oZ) (fun k hk=>hk)
     obtain⟨a5,c5,rfl,hc5,hrow5⟩:=cS ho5
     have hlq:ms5.length≤100000:=by
      have h1:=hN5.1
      rw [List.length_map] at h1
      have h2:=congrArg List.length HFS.out
      rw [HKP.out,jK] at h2
      omega
     refine wpAnyH_ready (rs:=[6]) (by kernel_rfl) (by simp) (AllReadyH.cons rfl (fun K hK=>?_) AllReadyH.nil)
     refine Fh W₅ rfl (.tmp 47) (.tmp 52) 221 224 _ 5 88 rfl Tryz.underlying221 jW rfl (by decide) (.slice va ms.length vc) ms.length (aM ms) (by simp [Act.eval,Act.put]) ho53 a5 ms5.length c5 _ (aM ms5) (by simp [Act.eval,Act.put]) (iK ms5) hrow5 (mK ms5) (by omega) (by omega) ?_
     intro v7 W₇ A7
     obtain⟨a7,c7,rfl⟩:=aP A7.row
     have b7:W₇.heap[W4.heap.size]?=some (mJ (.slice va ms.length vc)):=A7.fr.heap ((hB5.block _ nA3).trans hA3.box) (aX hA3.row hA3.box (by decide))
     have cN:=dC b7
     have fN:=aG b7
     have F7:Fr (fun k=>(Value.slice va ms.length vc).ownBlock=some k) W₃ W₇:=(Fr.of_below hB5).trans A7.fr
     have x7:=F7.heap x3 (aX hA3.row x3 (by decide))
     have t7:=F7.heap t3 (aX hA3.row t3 (by decide))
     obtain⟨h7s0,h7s1⟩:=bQ x7
     obtain⟨h7t0,h7t1,h7t2⟩:=dR t7
     have f8:Fr (Bl.one W4.heap.size) W₇ (W₇.setCell ⟨W4.heap.size,0,none⟩ (.slice a7 (ms.length+ms5.length) c7)):=(Fr.refl (Bl.one W4.heap.size) W₇).setCell (p:=⟨W4.heap.size,0,none⟩) (.inl rfl) _
     obtain⟨h8s0,h8s1⟩:=bQ (f8.heap x7 (oN (by omega)))
     obtain⟨h8t0,h8t1,h8t2⟩:=dR (f8.heap t7 (oN (by omega)))
     have z5:=hB5.size
     have z7:=A7.fr.size
     have nb7:(Value.slice a7 (ms.length+ms5.length) c7).ownBlock≠some W4.heap.size:=aX A7.row b7 (by decide)
     have FF:Fr (fun k=>k=NA∨(Value.slice va ms.length vc).ownBlock=some k) W₃ (W₇.setCell ⟨W4.heap.size,0,none⟩ (.slice a7 (ms.length+ms5.length) c7)):=(F7.mono (fun k hk=>.inl (.inr hk))).trans (f8.mono (fun k hk=>.inl (.inl (by simp only [Bl.one] at hk;exact hk))))
     have hv7:∀ k,(Value.slice a7 (ms.length+ms5.length) c7).ownBlock=some k→(Value.slice va ms.length vc).ownBlock=some k∨W₃.heap.size≤k:=fun k hk=>(A7.lies k hk).imp id (fun h=>by omega)
     have hAf:=hA3.more (ns':=cP (bI es own)) (ms':=ms5) (Z':=New W₃ W₅) FF (by have:=aF b7 0 (.slice a7 (ms.length+ms5.length) c7);simpa using this) (eB A7.row f8 (fun k hk e=>by simp only [Bl.one] at e;subst e;exact nb7 hk)) hv7
      ((hN5.on (A7.fr.on (fun k hk=>⟨hk.2,fun e=>by have h1:=oZ k e;have h2:W₃.heap.size≤k:=hk.1;omega⟩))).on (f8.on (fun k hk=>⟨by have:=hk.2;omega,fun e=>by simp only [Bl.one] at e;have h2:W₃.heap.size≤k:=hk.1;omega⟩)))
      (fun k hk=>⟨hk.1,by have:=hk.2;simp;omega,fun e=>by have h2:W₃.heap.size≤k:=hk.1;have h3:=hk.2;rcases A7.lies k e with h|h;exact absurd (oZ k h) (by omega);omega⟩) (by have:=FW0.size;omega)
     refine hK.out _ _ ⟨h7t0,h7t1,h7t2,h7s0,h7s1⟩ (fun hHeld=>?_)
     clear hK K
     try simp only [Act.put,jV,jZ,jX]
     refine wpAnyH_ready (rs:=[7]) (by kernel_rfl) (by simp) (AllReadyH.cons rfl (fun K hK=>?_) AllReadyH.nil)
     go_simp
     refine hK.out _ _ ⟨h8t0,h8t1,h8t2,h8s0,h8s1⟩ (fun hHeld=>?_)
     clear hK K
     refine wpAnyH_done (by kernel_rfl) ?_ _
     have HLQ:=HLP.out _ _ _ _ hAf FF hv7 (fun k hk=>hk.1)
     gi_wp2
     exact HLQ
 ·rintro D Y' W hD hYD ⟨v,ms,Z,hA,hY⟩ hFW hGW hDW
  have hall':lE s ks kids cs (parts s g.keys g.kids).length=(parts s ks kids).flatMap (fun x=>eR x cs):=by
   rw [HXS.out,List.length_map];unfold lE;rw [List.take_length]
  rw [hall'] at hA
  obtain⟨ns,hns⟩:=nM ((parts s ks kids).flatMap (fun x=>eR x cs))
  rw [hns] at hA hJ
  have HNS:Hid ((parts s ks kids).flatMap (fun x=>eR x cs)=ns):=hns
  clear hns hall'
  have zW:W6.heap.size≤W.heap.size:=hFW.size
  have tW:=hFW.heap t6 (fun h=>by simp only [Bl.one,NA] at h;omega)
  have FW0:Fr (Bl.one NA) w W:=(F6.mono (fun _ h=>h.elim)).trans hFW
  have nNA:∀ k,k<w.heap.size→¬ Bl.one NA k:=fun k hk e=>by simp only [Bl.one,NA] at e;omega
  have hfW:aD W β sv lv fs:=hf.on (FW0.on (fun k hk=>⟨hf.lies k hk,nNA k (hf.lies k hk)⟩))
  have hml:ms.length=ns.length:=by have:=hA.nds.1;rwa [List.length_map] at this
  have hJl:=hJ.len
  obtain⟨va,vc,hva,hvc,hrow⟩:=cS hA.row
  subst hva
  have cA:W.cell? ⟨W4.heap.size,0,none⟩=some (.slice va ms.length vc):=dC hA.box
  have hSS:∀ b,((Value.slice va ms.length vc).ownBlock=some b∨Z b)→b<W.heap.size:=fun b hb=>hb.elim (fun h=>aZ hA.row h) (fun h=>(hA.apart b h).2.1)
  obtain⟨J,hJ1,hJ2,hJ3⟩:=hJ.inv
  have hJn:=qDe β sv lv fs hl root ca cn cc J hJ2 hJ3 ns ms va vc (fun k=>(Value.slice va ms.length vc).ownBlock=some k∨Z k) W hfW hJ1 (hrow.mono (fun k hk=>.inl hk)) (hA.nds.mono (fun k hk=>.inr hk)) hSS (by omega)
  rw [← hml] at hJn
  have HML:Hid (ms.length=ns.length):=hml
  clear hml
  obtain⟨d0,d1,d2⟩:=dR tW
  have hm:Marks w.heap.size [mk D] W:=(Marks.nil w.heap.size W6).cons (fun D' _ h=>hFW.heap h (fun e=>by simp only [Bl.one,NA] at e;subst e;rw [n6] at h;simp at h)) (by omega) hDW hD
  have HWw:Hid (Below w.heap.size w W):=FW0.below (jU _) (fun k hk=>by simp only [Bl.one,NA] at hk;omega)
  have hnw:∀ k,((Value.slice va ms.length vc).ownBlock=some k∨Z k)→w.heap.size≤k:=fun k hk=>hk.elim (hA.new k) (fun h=>(hA.apart k h).1)
  have hww:=HWw.out.size
  gi_wp2_with (first
   | (refine⟨trivial,rfl,?_⟩;gi_at_call 177;refine(callsIn_wide.2 hJn).mono ?_;clear hJn;rintro e W7 ⟨v7,rs,rfl,ho7,hN7,hb7,hl7⟩;obtain⟨a7,c7,hv7,hc7,hrow7⟩:=cS ho7;subst hv7;have HRL:Hid (rs.length=(gU iC ns).length):=(by have:=hN7.1;rwa [List.length_map] at this);have hrj:=hJ.jlen;have z7:=hb7.size;have hfit:∀ x∈rs,x.lo.size≤24:=(fun x hx=>(by obtain⟨i,hi,rfl⟩:=List.getElem_of_mem hx;have h1:i<(gU iC ns).length:=(by have:=HRL.out;omega);have h2:=(hN7.2 i (nd0 (gU iC ns)[i]) rs[i] (by rw [List.getElem?_map,jQ h1];rfl) (jQ hi)).lo;rw [h2];have h3:=hJ.lo _ (List.getElem_mem h1);(cases hq:(gU iC ns)[i])<;>rw [hq] at h3<;>exact h3));have hNB:=qE a7 c7 rs (fun k=>w.heap.size≤k∧k<W7.heap.size) W7 (hrow7.mono (fun k hk=>⟨vJ hww (hl7 k hk),aZ ho7 hk⟩)) (fun k hk=>hk.2) (by have:=HRL.out;omega) hc7 (fun x hx=>hfit x hx) (fun x hx=>(by have:=hfit x hx;unfold ksz;omega)))
   | (refine⟨trivial,rfl,?_⟩;gi_at_call 165;refine(callsIn_wide.2 hNB).mono ?_;clear hNB;rintro e W8 ⟨v8,qs,rfl,ho8,hql,hqr,hb8,hl8⟩))
  have z8:=hb8.size
  have hm8:Marks w.heap.size [mk D] W8:=hm.on (fun D' _ h=>(hb8.block _ (by have:=(gL h);omega)).trans ((hb7.block _ (gL h)).trans h))
  refine Nh rfl hm8 ?_
  intro w' ht'
  have hsz:=ht'.size
  have hB8:Below w.heap.size w W8:=(HWw.out.trans (hb7.mono hww)).trans (hb8.mono (by omega))
  have hN8:bO W8 (New w W8) ((gU iC ns).map nd0) rs:=(hN7.on (vV hb8 (fun k hk=>by rcases hk.1 with h|h;have:=hSS k h;omega;exact h.2))).mono (fun k hk=>by
   rcases hk.1 with h|h
   ·exact⟨hnw k h,by have:=hSS k h;omega⟩
   ·exact⟨by omega,by omega⟩)
  have hBr:=Ob (w:=w) hN8 hql (fun q hq=>⟨(hqr q hq).1,(hqr q hq).2.mono (fun k hk=>⟨hk.1,by omega⟩)⟩)
  refine⟨_,qs.map kK,rfl,?_,?_,hB8.trans ht'.below,fun k hk=>by have:=hl8 k hk;omega⟩
  ·rw [List.length_map];exact qQ ho8 ht'
  ·rw [HNS.out]
   refine bO.took (hBr.mono (fun k hk=>⟨hk.1,by have:=hk.2;omega⟩)) ht'
variable {N:List NT} {ms:List MN} {w:World}
theorem qAa (n:NT):(nd0 n).sp=n.sp:=by cases n<;>rfl
theorem uZ (n:NT):(nd0 n).kids=[]:=by cases n<;>rfl
theorem Sq (N:List NT):tot sP (N.map nd0)=tot zM N:=by
 rw [zQ,zQ,List.map_map]
 congr 1
 apply List.map_congr_left
 intro n _
 show sP (nd0 n)=zM n
 rw [sP,zM,qAa]
def mV (N:List NT):List Nd:=match N with
 | []=>[]
 | [n]=>[nd0 n]
 | n :: m :: r=>[iA ((n :: m :: r).map nd0)]
theorem qK (h:2≤N.length):mV N=[iA (N.map nd0)]:=by
 match N,h with
 | n :: m :: r,_=>rfl
theorem oB (h:N.length≤1):mV N=N.map nd0:=by
 match N,h with
 | [],_=>rfl
 | [n],_=>rfl
theorem gN.kn {S:Bl} {n:Nd} {m:MN} (h:gN w S n m):m.kn=n.kids.length:=by cases h;assumption
theorem Zn (cs:List Ch):eD cs ⟨⟨#[]⟩,⟨#[]⟩⟩=cs:=by
 unfold eD
 rw [List.filter_eq_self]
 intro c _
 exact Ij _
def sliceLen:Value→Nat
 | .slice _ n _=>n
 | _=>0
def Gy (v:Value) (w:World):Nat:=match v with
 | .slice (some ad) n _=>if n=1 then (match w.cell? (ad.add 4) with|some (.slice _ k _)=>k|_=>0) else 0
 | _=>0
structure iJ (w W:World) (L:List Nd) (a:Option Addr) (c:Nat) (ms:List MN):Prop where
 row:aI W (New w W) a (aM ms)
 nds:bO W (New w W) L ms
 cap:ms.length≤c
 new:Below w.heap.size w W
theorem iJ.of_own {w W:World} {L:List Nd} {v:Value}  (ho:W.ownsRow 0 224 5 v ms.length (aM ms)) (hN:bO W (New w W) L ms) (hb:Below w.heap.size w W) (hl:∀ k,v.ownBlock=some k→w.heap.size≤k):∃ a c,v=.slice a ms.length c∧iJ w W L a c ms:=by
 obtain⟨a,c,rfl,hc,hr⟩:=cS ho
 exact⟨a,c,rfl,hr.mono (fun k hk=>⟨hl k hk,aZ ho hk⟩),hN,hc,hb⟩
theorem bO.lo_le {S:Bl}   (h:bO w S (N.map nd0) ms) (hlo:∀ n∈N,n.sp.lo.size≤24):∀ x∈ms,x.lo.size≤24:=by
 intro x hx
 obtain⟨i,hi,rfl⟩:=List.getElem_of_mem hx
 have h1:i<N.length:=by have:=h.1;rw [List.length_map] at this;omega
 have h2:=(h.2 i (nd0 N[i]) ms[i] (by rw [List.getElem?_map,jQ h1];rfl) (jQ hi)).lo
 rw [h2,qAa]
 exact hlo _ (List.getElem_mem h1)
theorem Hu {w W:World}  {a:Option Addr} {c:Nat}  (h:iJ w W (N.map nd0) a c ms) (hlo:∀ n∈N,n.sp.lo.size≤24) (ht:tot zM N≤250) (h2:0<N.length) (hn:N.length≤100000) :
  Calls Tryz.prog 165 #[.slice a ms.length c] W fun e w'=>∃ a' c' ms',e=.returned (.slice a' 1 c')∧ms'.length=1∧iJ w w' [iA (N.map nd0)] a' c' ms':=by
 have hl:ms.length=N.length:=by have:=h.nds.1;rwa [List.length_map] at this
 have hf:=h.nds.lo_le hlo
 refine(qE a c ms (New w W) W h.row (fun k hk=>hk.2) (by omega) h.cap (fun x hx=>hf x hx) (fun x hx=>by have:=hf x hx;unfold ksz;omega)).mono ?_
 rintro e w' ⟨v,qs,rfl,ho,hq,hr,hb,hlie⟩
 have hs:=hb.size
 have hs0:=h.new.size
 have hN':bO w' (New w w') (N.map nd0) ms:=(h.nds.on (vV hb (fun k hk=>hk.2))).mono (fun k hk=>⟨hk.1,by have:=hk.2;omega⟩)
 have hB:=Ob (w:=w) hN' hq (fun q hq=>⟨(hr q hq).1,(hr q hq).2.mono (fun k hk=>⟨hk.1,by have:=hk.2;omega⟩)⟩)
 have ec:dY sP (N.map nd0)=[N.map nd0]:=by
  rw [sL _ _ (by rw [Sq];exact ht),if_neg (by rw [List.length_map];omega)]
 rw [ec] at hB
 have hql:qs.length=1:=by have:=hB.1;simpa using this
 have ho':w'.ownsRow 0 224 5 v (qs.map kK).length (aM (qs.map kK)):=by rw [List.length_map];exact ho
 obtain⟨a',c',rfl,hL⟩:=iJ.of_own ho' hB (h.new.trans (hb.mono hs0)) (fun k hk=>vJ hs0 (hlie k hk))
 refine⟨a',c',qs.map kK,?_,by rw [List.length_map];exact hql,hL⟩
 rw [List.length_map,hql]
structure uI (fs:Fs) (o:Option (Nat×T)) (cs:List Ch):Prop where
 lo:∀ n∈cG o cs,n.sp.lo.size≤24
 tot:tot zM (cG o cs)≤250
 len:(cG o cs).length≤1000
 good:∀ c∈cs,c.good
 on:(bI (eY o) cs).length≤100000
 br:∀ p ks kids,o=some (1,.branch p ks kids)→(∀ x∈parts ⟨⟨#[]⟩,⟨#[]⟩⟩ ks kids,0<x.1.place)∧(∀ x∈parts ⟨⟨#[]⟩,⟨#[]⟩⟩ ks kids,∀ q es,x.1=.leaf q es→(bI es (eD cs x.2)).length≤100000)∧qCc fs ((parts ⟨⟨#[]⟩,⟨#[]⟩⟩ ks kids).flatMap (fun x=>eR x cs))
theorem Qz (β:Nat) (sv lv:Value) (fs:Fs) (hl:(fs.life==0)=false) (p:Nat) (es:List En) (hp:0<p) (ht:aT fs 0 (.leaf p es) ⟨⟨#[]⟩,⟨#[]⟩⟩) (ca:Option Addr) (cc:Nat) (cs:List Ch) (S:Bl) (w:World) (hf:aD w β sv lv fs) (hR:aI w S ca (cs.flatMap Ch.cells)) (hS:∀ b,S b→b<w.heap.size) (hr:cI cs) (hn:cs.length≤1000) (hc:cs.length≤cc) (hca:(ca=none∧cc=0)∨∃ b off,ca=some ⟨b,off,none⟩) (hG:uI fs (some (0,T.leaf p es)) cs) :
  Calls Tryz.prog 146 #[.agg #[.pointer (some ⟨β,0,none⟩),.int .i64 (p:Nat),.slice ca cs.length cc]] w fun e w'=>∃ a c ms,e=.returned (.slice a ms.length c)∧iJ w w' (mV (cG (some (0,T.leaf p es)) cs)) a c ms:=by
 obtain⟨N,hNd⟩:=nM (cG (some (0,T.leaf p es)) cs)
 have HND:Hid (cG (some (0,T.leaf p es)) cs=N):=hNd
 have hlo:=hG.lo
 have htot:=hG.tot
 have hlen:=hG.len
 rw [hNd] at hlo htot hlen
 obtain⟨W1,hW1⟩:=nM (w.alloc (kY β (p:Nat) ca cs.length cc))
 have B1:Below w.heap.size w W1:=hW1▸(bA _ _)
 have t1:W1.heap[w.heap.size]?=some (kY β (p:Nat) ca cs.length cc):=hW1▸aA w _
 obtain⟨m0,m1,m2⟩:=dR t1
 have hf1:aD W1 β sv lv fs:=hf.on (vV B1 hf.lies)
 have hR1:aI W1 S ca (cs.flatMap Ch.cells):=hR.on (vV B1 hS)
 have hS1:∀ k,S k→k<W1.heap.size:=fun k hk=>jY (hS k hk) B1.size
 have hpb:¬ ((p:Int)=0):=by omega
 have hCh:=vY β sv lv fs hl (p:Nat) ca cs.length cc p ⟨⟨#[]⟩,⟨#[]⟩⟩ es cs ca cc S W1 ht hf1 hR1 hS1 hr hG.good hn hc hca hG.on
 have HLV:Hid ((cP (bI es cs)).map nd0=N.map nd0):=by show _=_;rw [← hNd];rfl
 clear hNd hR hR1 hf hf1 ht
 go_enter Tryz.func146,Tryz.ntmps146
 go_wp2_with (go_at_call 164;(with_reducible refine jC hCh ?_);rintro e X ⟨v,ms0,rfl,ho,hN,hb,hli⟩)
 rw [HLV.out] at hN
 have zX:=hb.size
 have zW1:=B1.size
 obtain⟨a0,c0,rfl,hL0⟩:=iJ.of_own (w:=w) ho (hN.mono (fun k hk=>⟨vJ zW1 hk.1,hk.2⟩)) (B1.trans (hb.mono zW1)) (fun k hk=>vJ zW1 (hli k hk))
 clear hCh ho hN hli
 go_loopw [3] (fun v wq=>∃ a c ms L,v=.slice a ms.length c∧Hid (iJ w wq L a c ms)∧Hid (L=N.map nd0∨(2≤N.length∧L=[iA (N.map nd0)]))) (fun v _=>sliceLen v)
 case atStart=>exact⟨a0,c0,ms0,N.map nd0,rfl,hL0,.inl rfl⟩
 case round =>
  obtain⟨a,c,ms,L,rfl,HL,HC⟩:=hrel
  have hL:=HL.out
  have hll:=hL.nds.1
  by_cases hgt:1<ms.length
  ·have hgti:(1:Int)<(ms.length:Int):=by omega
   have hLN:L=N.map nd0:=by
    rcases HC.out with h|⟨_,h⟩
    ·exact h
    ·rw [h] at hll;simp at hll;omega
   subst hLN
   rw [List.length_map] at hll
   have hNB:=Hu hL hlo htot (by omega) (by omega)
   clear hll hL
   go_wp2_with (go_at_call 165;(with_reducible refine jC hNB ?_);rintro e wX ⟨a',c',ms',rfl,hm1,hL'⟩)
   exact⟨⟨a',c',ms',_,by rw [hm1],hL',.inr ⟨by have:=HL.out.nds.1;rw [List.length_map] at this;omega,rfl⟩⟩,by simp [sliceLen];omega⟩
  ·have hgti:¬ (1:Int)<(ms.length:Int):=by omega
   have hTop:L=mV N:=by
    rcases HC.out with h|⟨h1,h⟩
    ·rw [h];rw [h,List.length_map] at hll;exact(oB (by omega)).symm
    ·rw [h];exact(qK h1).symm
   have hnk:∀ (j:Nat) (hj:j<ms.length),ms[j].kn≠1:=fun j hj=>by
    have hj':j<L.length:=by omega
    have h1:=(hL.nds.2 j L[j] ms[j] (jQ hj') (jQ hj)).kn
    rw [h1]
    rcases HC.out with h|⟨h1,h⟩
    ·subst h
     rw [List.getElem_map,uZ];simp
    ·subst h
     have:j=0:=by simp at hj';omega
     subst this
     show ((N.map nd0).length:Nat)≠1
     rw [List.length_map];omega
   have HT:Hid (iJ w wr (mV (cG (some (0,T.leaf p es)) cs)) a c ms):=by rw [HND.out,← hTop];exact hL
   rcases Nat.lt_or_ge 0 ms.length with h0|h0
   ·have h01:ms.length=1:=by omega
    obtain⟨rb,ro,rfl,_,n0,n1,n2,n3,n4⟩:=hL.row.nod h0
    have hk:=hnk 0 h0
    obtain⟨m,hm⟩:=nM (ms[0])
    rw [hm] at n0 n1 n2 n3 n4 hk
    have hki:¬ ((m.kn:Int)=1):=by omega
    rw [h01]
    have HM1:Hid (ms.length=1):=h01
    clear hnk hTop hll hL hm h01 h0 hgt hgti
    go_wp2
    go_loopw [3] (fun v wq=>v=.slice (some ⟨rb,ro,none⟩) 1 c∧wq=wr) (fun _ _=>0)
    case atStart=>exact⟨rfl,rfl⟩
    case round =>
     obtain⟨rfl,hwr⟩:=hrel
     subst hwr
     go_wp2
     go_ret
     exact⟨_,c,ms,by rw [HM1.out];rfl,HT.out⟩
   ·have h00:ms.length=0:=by omega
    rw [h00]
    have HM1:Hid (ms.length=0):=h00
    clear hnk hTop hll hL h00 h0 hgt hgti
    go_wp2
    go_loopw [3] (fun v wq=>v=.slice a 0 c∧wq=wr) (fun _ _=>0)
    case atStart=>exact⟨rfl,rfl⟩
    case round =>
     obtain⟨rfl,hwr⟩:=hrel
     subst hwr
     go_wp2
     go_ret
     exact⟨_,c,ms,by rw [HM1.out];rfl,HT.out⟩
theorem Qy (β:Nat) (sv lv:Value) (fs:Fs) (hl:(fs.life==0)=false)  (ca:Option Addr) (cc:Nat) (cs:List Ch) (S:Bl) (w:World) (hf:aD w β sv lv fs) (hR:aI w S ca (cs.flatMap Ch.cells)) (hS:∀ b,S b→b<w.heap.size) (hr:cI cs) (hn:cs.length≤1000) (hc:cs.length≤cc) (hca:(ca=none∧cc=0)∨∃ b off,ca=some ⟨b,off,none⟩) (hG:uI fs none cs) :
  Calls Tryz.prog 146 #[.agg #[.pointer (some ⟨β,0,none⟩),.int .i64 0,.slice ca cs.length cc]] w fun e w'=>∃ a c ms,e=.returned (.slice a ms.length c)∧iJ w w' (mV (cG none cs)) a c ms:=by
 obtain⟨N,hNd⟩:=nM (cG none cs)
 have HND:Hid (cG none cs=N):=hNd
 have hlo:=hG.lo
 have htot:=hG.tot
 have hlen:=hG.len
 rw [hNd] at hlo htot hlen
 obtain⟨W1,hW1⟩:=nM (w.alloc (kY β 0 ca cs.length cc))
 have B1:Below w.heap.size w W1:=hW1▸(bA _ _)
 have t1:W1.heap[w.heap.size]?=some (kY β 0 ca cs.length cc):=hW1▸aA w _
 obtain⟨m0,m1,m2⟩:=dR t1
 have hf1:aD W1 β sv lv fs:=hf.on (vV B1 hf.lies)
 have hR1:aI W1 S ca (cs.flatMap Ch.cells):=hR.on (vV B1 hS)
 have hS1:∀ k,S k→k<W1.heap.size:=fun k hk=>jY (hS k hk) B1.size
 have hEn:=vQ β sv lv fs hl 0 ca cc cs ⟨⟨#[]⟩,⟨#[]⟩⟩ none rfl S W1 hf1 hR1 hS1 hr (by omega) hc hca
 rw [Zn] at hEn
 have HON:Hid ((bI (cK ⟨⟨#[]⟩,⟨#[]⟩⟩ none) cs).length≤100000):=hG.on
 have HGD:Hid (∀ x∈bI (cK ⟨⟨#[]⟩,⟨#[]⟩⟩ none) cs,x.good fs):=eU (fs:=fs) (es:=[]) .nil hr (by simp) hG.good
 have HLV:Hid ((dY esz (bI (cK ⟨⟨#[]⟩,⟨#[]⟩⟩ none) cs)).map wZ=N.map nd0):=by show _=_;rw [← hNd];exact(tP _).symm
 obtain⟨ys,hys⟩:=nM (bI (cK ⟨⟨#[]⟩,⟨#[]⟩⟩ none) cs)
 rw [hys] at hEn HON HGD HLV
 have hfl:∀ k,fpF β sv lv k→k<W1.heap.size:=fun k hk=>hf1.lies k hk
 clear hNd hR hR1 hf hf1 hys
 go_enter Tryz.func146,Tryz.ntmps146
 go_wp2_with (first
  | (go_at_call 110;(with_reducible refine jC hEn ?_);rintro e X ⟨lb,rfl,hIt,hbX⟩;have hCo:=yU 148 lb (enters_of Tryz.func148 (by kernel_rfl) rfl) ys _ X hIt (fun k hk=>(by rcases hk with hk|hk|hk;have:=hS1 k hk;have:=hbX.size;omega;have:=hfl k hk;have:=hbX.size;omega;exact hk.2)) (by have:=HON.out;omega))
  | (go_at_call 163;(with_reducible refine jC hCo ?_);rintro e X2 ⟨vC,rfl,hoC,hbC,hliC⟩;obtain⟨va,vc,rfl,hvc,hrow⟩:=cS hoC;have hNL:=nT va vc ys (fun k=>X.heap.size≤k∧k<X2.heap.size) X2 (hrow.mono (fun k hk=>⟨hliC k hk,aZ hoC hk⟩)) (fun k hk=>hk.2) (by have:=HON.out;omega) hvc (fun x hx=>pB (HGD.out x hx)) (nL HGD.out))
  | (go_at_call 162;(with_reducible refine jC hNL ?_);rintro e X3 ⟨vL,qs,rfl,hoL,hql,hqr,hbL,hliL⟩))
 have zX:=hbX.size
 have zC:=hbC.size
 have zL:=hbL.size
 have zW1:=B1.size
 have hN:=wY (S:=New w X3) (fun q hq=>⟨(hqr q hq).1,(hqr q hq).2.mono (fun k hk=>⟨by have:=hk.1;omega,by have:=hk.2;omega⟩)⟩)
 rw [hql,HLV.out] at hN
 have hoL':X3.ownsRow 0 224 5 vL (qs.map jM).length (aM (qs.map jM)):=by rw [List.length_map];exact hoL
 obtain⟨a0,c0,rfl,hL0⟩:=iJ.of_own (w:=w) hoL' hN (((B1.trans (hbX.mono zW1)).trans (hbC.mono (by omega))).trans (hbL.mono (by omega))) (fun k hk=>by have:=hliL k hk;omega)
 obtain⟨ms0,hms0⟩:=nM (qs.map jM)
 rw [hms0] at hL0 ⊢
 clear hEn hCo hNL hoC hoL hN hliL hliC hIt hoL' hms0 hql hqr
 go_loopw [3] (fun v wq=>∃ a c ms L,v=.slice a ms.length c∧Hid (iJ w wq L a c ms)∧Hid (L=N.map nd0∨(2≤N.length∧L=[iA (N.map nd0)]))) (fun v _=>sliceLen v)
 case atStart=>exact⟨a0,c0,ms0,N.map nd0,rfl,hL0,.inl rfl⟩
 case round =>
  obtain⟨a,c,ms,L,rfl,HL,HC⟩:=hrel
  have hL:=HL.out
  have hll:=hL.nds.1
  by_cases hgt:1<ms.length
  ·have hgti:(1:Int)<(ms.length:Int):=by omega
   have hLN:L=N.map nd0:=by
    rcases HC.out with h|⟨_,h⟩
    ·exact h
    ·rw [h] at hll;simp at hll;omega
   subst hLN
   rw [List.length_map] at hll
   have hNB:=Hu hL hlo htot (by omega) (by omega)
   clear hll hL
   go_wp2_with (go_at_call 165;(with_reducible refine jC hNB ?_);rintro e wX ⟨a',c',ms',rfl,hm1,hL'⟩)
   exact⟨⟨a',c',ms',_,by rw [hm1],hL',.inr ⟨by have:=HL.out.nds.1;rw [List.length_map] at this;omega,rfl⟩⟩,by simp [sliceLen];omega⟩
  ·have hgti:¬ (1:Int)<(ms.length:Int):=by omega
   have hTop:L=mV N:=by
    rcases HC.out with h|⟨h1,h⟩
    ·rw [h];rw [h,List.length_map] at hll;exact(oB (by omega)).symm
    ·rw [h];exact(qK h1).symm
   have hnk:∀ (j:Nat) (hj:j<ms.length),ms[j].kn≠1:=fun j hj=>by
    have hj':j<L.length:=by omega
    have h1:=(hL.nds.2 j L[j] ms[j] (jQ hj') (jQ hj)).kn
    rw [h1]
    rcases HC.out with h|⟨h1,h⟩
    ·subst h
     rw [List.getElem_map,uZ];simp
    ·subst h
     have:j=0:=by simp at hj';omega
     subst this
     show ((N.map nd0).length:Nat)≠1
     rw [List.length_map];omega
   have HT:Hid (iJ w wr (mV (cG none cs)) a c ms):=by rw [HND.out,← hTop];exact hL
   rcases Nat.lt_or_ge 0 ms.length with h0|h0
   ·have h01:ms.length=1:=by omega
    obtain⟨rb,ro,rfl,_,n0,n1,n2,n3,n4⟩:=hL.row.nod h0
    have hk:=hnk 0 h0
    obtain⟨m,hm⟩:=nM (ms[0])
    rw [hm] at n0 n1 n2 n3 n4 hk
    have hki:¬ ((m.kn:Int)=1):=by omega
    rw [h01]
    have HM1:Hid (ms.length=1):=h01
    clear hnk hTop hll hL hm h01 h0 hgt hgti
    go_wp2
    go_loopw [3] (fun v wq=>v=.slice (some ⟨rb,ro,none⟩) 1 c∧wq=wr) (fun _ _=>0)
    case atStart=>exact⟨rfl,rfl⟩
    case round =>
     obtain⟨rfl,hwr⟩:=hrel
     subst hwr
     go_wp2
     go_ret
     exact⟨_,c,ms,by rw [HM1.out];rfl,HT.out⟩
   ·have h00:ms.length=0:=by omega
    rw [h00]
    have HM1:Hid (ms.length=0):=h00
    clear hnk hTop hll hL h00 h0 hgt hgti
    go_wp2
    go_loopw [3] (fun v wq=>v=.slice a 0 c∧wq=wr) (fun _ _=>0)
    case atStart=>exact⟨rfl,rfl⟩
    case round =>
     obtain⟨rfl,hwr⟩:=hrel
     subst hwr
     go_wp2
     go_ret
     exact⟨_,c,ms,by rw [HM1.out];rfl,HT.out⟩
theorem Jb (β:Nat) (sv lv:Value) (fs:Fs) (hl:(fs.life==0)=false) (p:Nat) (ks:List ByteArray) (kids:List T) (hp:0<p) (ht:aT fs 1 (.branch p ks kids) ⟨⟨#[]⟩,⟨#[]⟩⟩) (ca:Option Addr) (cc:Nat) (cs:List Ch) (S:Bl) (w:World) (hf:aD w β sv lv fs) (hR:aI w S ca (cs.flatMap Ch.cells)) (hS:∀ b,S b→b<w.heap.size) (hr:cI cs) (hn:cs.length≤1000) (hc:cs.length≤cc) (hca:(ca=none∧cc=0)∨∃ b off,ca=some ⟨b,off,none⟩) (hG:uI fs (some (1,T.branch p ks kids)) cs) :
  Calls Tryz.prog 146 #[.agg #[.pointer (some ⟨β,0,none⟩),.int .i64 (p:Nat),.slice ca cs.length cc]] w fun e w'=>∃ a c ms,e=.returned (.slice a ms.length c)∧iJ w w' (mV (cG (some (1,T.branch p ks kids)) cs)) a c ms:=by
 obtain⟨N,hNd⟩:=nM (cG (some (1,T.branch p ks kids)) cs)
 have HND:Hid (cG (some (1,T.branch p ks kids)) cs=N):=hNd
 have hlo:=hG.lo
 have htot:=hG.tot
 have hlen:=hG.len
 rw [hNd] at hlo htot hlen
 obtain⟨W1,hW1⟩:=nM (w.alloc (kY β (p:Nat) ca cs.length cc))
 have B1:Below w.heap.size w W1:=hW1▸(bA _ _)
 have t1:W1.heap[w.heap.size]?=some (kY β (p:Nat) ca cs.length cc):=hW1▸aA w _
 obtain⟨m0,m1,m2⟩:=dR t1
 have hf1:aD W1 β sv lv fs:=hf.on (vV B1 hf.lies)
 have hR1:aI W1 S ca (cs.flatMap Ch.cells):=hR.on (vV B1 hS)
 have hS1:∀ k,S k→k<W1.heap.size:=fun k hk=>jY (hS k hk) B1.size
 have hpb:¬ ((p:Int)=0):=by omega
 obtain⟨g1,g2,g3⟩:=hG.br p ks kids rfl
 have hCh:=Dg β sv lv fs hl (p:Nat) ca cs.length cc p ⟨⟨#[]⟩,⟨#[]⟩⟩ ks kids cs ca cc S W1 ht hf1 hR1 hS1 hr hG.good hn hc hca g1 g2 g3
 have HLV:Hid ((dY sP ((gU iC ((parts ⟨⟨#[]⟩,⟨#[]⟩⟩ ks kids).flatMap (fun x=>eR x cs))).map nd0)).map iA=if N.length=0 then [] else [iA (N.map nd0)]):=by
  show _=_
  have e:gU iC ((parts ⟨⟨#[]⟩,⟨#[]⟩⟩ ks kids).flatMap (fun x=>eR x cs))=N:=by rw [← hNd];rfl
  rw [e,sL _ _ (by rw [Sq];exact htot),List.length_map]
  split<;>rfl
 clear hNd hR hR1 hf hf1 ht g1 g2 g3
 go_enter Tryz.func146,Tryz.ntmps146
 go_wp2_with (go_at_call 164;(with_reducible refine jC hCh ?_);rintro e X ⟨v,ms0,rfl,ho,hN,hb,hli⟩)
 rw [HLV.out] at hN
 have zX:=hb.size
 have zW1:=B1.size
 obtain⟨a0,c0,rfl,hL0⟩:=iJ.of_own (w:=w) ho (hN.mono (fun k hk=>⟨vJ zW1 hk.1,hk.2⟩)) (B1.trans (hb.mono zW1)) (fun k hk=>vJ zW1 (hli k hk))
 clear hCh ho hN hli
 go_loopw [3] (fun v wq=>v=.slice a0 ms0.length c0∧wq=X) (fun _ _=>0)
 case atStart=>exact⟨rfl,rfl⟩
 case round =>
  obtain⟨rfl,hwr⟩:=hrel
  subst hwr
  have hm1:ms0.length≤1:=by
   have:=hL0.nds.1
   by_cases h:N.length=0
   ·rw [if_pos h] at this;rw [this];exact Nat.zero_le _
   ·rw [if_neg h] at this;rw [this];exact jU _
  have hgti:¬ (1:Int)<(ms0.length:Int):=by omega
  have HL0:Hid _:=hL0
  clear hm1 hL0
  go_wp2
  go_loopw [3] (fun v wq=>∃ a c ms L,v=.slice a ms.length c∧Hid (iJ w wq L a c ms)∧Hid ((L=if N.length=0 then [] else [iA (N.map nd0)])∨L=mV N)) (fun v wq=>Gy v wq)
  case atStart=>exact⟨a0,c0,ms0,_,rfl,HL0.out,.inl rfl⟩
  case round =>
   obtain⟨a,c,ms,L,rfl,HL,HC⟩:=hrel
   have hL:=HL.out
   have hll:=hL.nds.1
   have hL1:L.length≤1:=by
    rcases HC.out with h|h
    ·rw [h];split<;>simp
    ·rw [h]
     rcases Nat.lt_or_ge N.length 2 with h2|h2
     ·rw [oB (by omega),List.length_map];omega
     ·rw [qK h2];simp
   rcases Nat.lt_or_ge 0 ms.length with h0|h0
   ·have h01:ms.length=1:=by omega
    obtain⟨rb,ro,rfl,_,n0,n1,n2,n3,n4⟩:=hL.row.nod h0
    obtain⟨m,hm⟩:=nM (ms[0])
    have hl0:0<L.length:=by omega
    have hnd:=hL.nds.2 0 L[0] ms[0] (jQ hl0) (jQ h0)
    rw [hm] at n0 n1 n2 n3 n4 hnd
    by_cases hk:m.kn=1
    ·-- a branch of one kid
     have hkn:=hnd.kn
     rw [hk] at hkn
     have hLb:N.length=1∧L=[iA (N.map nd0)]:=by
      have key:∀ (M:List Nd),L=M→∀ h:0<M.length,M[0].kids.length=1→L=M:=fun M e _ _=>e
      rcases HC.out with h|h
      ·by_cases hN0:N.length=0
       ·rw [if_pos hN0] at h;subst h;simp at hl0
       ·rw [if_neg hN0] at h
        subst h
        have:(N.map nd0).length=1:=hkn.symm
        rw [List.length_map] at this
        exact⟨this,rfl⟩
      ·rcases Nat.lt_or_ge N.length 2 with h2|h2
       ·rw [oB (by omega)] at h
        subst h
        rw [List.getElem_map,uZ] at hkn
        simp at hkn
       ·rw [qK h2] at h
        subst h
        have:(N.map nd0).length=1:=hkn.symm
        rw [List.length_map] at this
        omega
     obtain⟨hN1,hLe⟩:=hLb
     subst hLe
     have hnd':gN wr (New w wr) (iA (N.map nd0)) m:=hnd
     obtain⟨_,_,_,_,_,msk,g1,g2,g3,g4,g5,g6,g7,g8,g9,g10,g11⟩:=hnd'
     rw [List.length_map] at g7 g10
     have HL':Hid (iJ w wr (mV N) m.ka m.kc msk):=by
      rw [oB (by omega)]
      exact⟨g9,⟨by rw [List.length_map];exact g10,g11⟩,by omega,hL.new⟩
     have hmk1:msk.length=1:=by omega
     have hki:((m.kn:Int)==1)=true:=by rw [hk];rfl
     have HMK:Hid (msk.length=1):=hmk1
     have HKN:Hid (m.kn=1):=hk
     obtain⟨rb',ro',hka,_,r0,r1,r2,r3,r4⟩:=HL'.out.row.nod (show 0<msk.length by omega)
     have hkk:(msk[0]'(by omega)).kn=0:=by
      have h1:=HL'.out.nds.2 0 (nd0 (N[0]'(by omega))) (msk[0]'(by omega)) (by rw [oB (by omega),List.getElem?_map,jQ (by omega)];rfl) (jQ (by omega))
      rw [h1.kn,uZ];rfl
     rw [hkk] at r4
     have HME:Hid (Gy (.slice m.ka 1 m.kc) wr<Gy (.slice (some ⟨rb,ro,none⟩) 1 c) wr):=by
      show Gy _ _<Gy _ _
      rw [hka]
      have e1:wr.cell? ((⟨rb',ro',none⟩:Addr).add 4)=some (.slice (msk[0]'(by omega)).ka 0 (msk[0]'(by omega)).kc):=by
       rw [Addr.add_lit];simpa using r4
      have e2:wr.cell? ((⟨rb,ro,none⟩:Addr).add 4)=some (.slice m.ka m.kn m.kc):=by
       rw [Addr.add_lit];simpa using n4
      simp only [Gy,if_true,e1,e2,HKN.out]
      omega
     rw [h01]
     rw [hk] at n4
     clear hnd hkn hL hll hL1 g1 g2 g3 g4 g5 g6 g7 g8 g9 g10 g11 hmk1 h01 h0 hl0 hk hm r0 r1 r2 r3 r4 hkk hka hki
     go_wp2
     exact⟨⟨m.ka,m.kc,msk,_,by rw [HMK.out],HL'.out,.inr rfl⟩,HME.out⟩
    ·have hki:¬ ((m.kn:Int)=1):=by omega
     have hTop:L=mV N:=by
      rcases HC.out with h|h
      ·by_cases hN0:N.length=0
       ·rw [if_pos hN0] at h;subst h;simp at hl0
       ·rw [if_neg hN0] at h
        subst h
        have hkn:=hnd.kn
        have e:(iA (N.map nd0)).kids.length=N.length:=by show (N.map nd0).length=_;rw [List.length_map]
        have:([iA (N.map nd0)][0]'hl0).kids.length=N.length:=e
        rw [this] at hkn
        exact(qK (by omega)).symm
      ·exact h
     have HT:Hid (iJ w wr (mV (cG (some (1,T.branch p ks kids)) cs)) (some ⟨rb,ro,none⟩) c ms):=by rw [HND.out,← hTop];exact hL
     rw [h01]
     have HM1:Hid (ms.length=1):=h01
     clear hTop hll hL hm h01 h0 hnd hL1 hl0
     go_wp2
     go_ret
     exact⟨_,c,ms,by rw [HM1.out];rfl,HT.out⟩
   ·have h00:ms.length=0:=by omega
    have hTop:L=mV N:=by
     rcases HC.out with h|h
     ·have h3:L.length=0:=by omega
      have:N.length=0:=by
       by_cases hN0:N.length=0
       ·exact hN0
       ·rw [if_neg hN0] at h;rw [h] at h3;simp at h3
      rw [List.eq_nil_of_length_eq_zero h3,List.eq_nil_of_length_eq_zero this];rfl
     ·exact h
    have HT:Hid (iJ w wr (mV (cG (some (1,T.branch p ks kids)) cs)) a c ms):=by rw [HND.out,← hTop];exact hL
    rw [h00]
    have HM1:Hid (ms.length=0):=h00
    clear hTop hll hL h00 h0 hL1
    go_wp2
    go_ret
    exact⟨_,c,ms,by rw [HM1.out];rfl,HT.out⟩
