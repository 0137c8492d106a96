/-
  Joined: Put.
-/
import Derived.Test.YtfnhmpcpeahfkaaGreatU42
import Derived.Test.YtfnhmpcpeahfkaaGreatU45
import Derived.Test.YtfnhmpcpeahfkaaGreatU46
set_option linter.unusedSimpArgs false
set_option linter.unusedVariables false
set_option maxRecDepth 100000
set_option maxHeartbeats 8000000
namespace Go.Proofs.YtfnhmpcpeahfkaaGreat.Tree
open Go.RowKit Pages
variable {i:Nat} {w:World}
theorem qGw {ts:List Tx} (h:ts.Pairwise zH) {i j:Nat} (hi:i<ts.length) (hj:j<ts.length) (hne:i≠j):zH ts[i] ts[j]:=by
 have hp:=List.pairwise_iff_getElem.1 h
 rcases Nat.lt_or_gt_of_ne hne with hlt|hlt
 ·exact hp i j hi hj hlt
 ·exact fun k h1 h2=>hp j i hj hi hlt k h2 h1
theorem aS.retx {w w':World} {st:Int} {D:Db}  {t t':Tx} (h:aS w st D) (hi:i<D.ts.length) (ht:D.ts[i]=t) (hT:iX w' D.β t') (hb:t'.b=t.b) (f:Fr (fpT t) w w') (hg:∀ k,fpT t' k→fpT t k∨w.heap.size≤k):aS w' st { D with ts:=D.ts.set i t' }:=by
 have hm:t∈D.ts:=ht▸List.getElem_mem hi
 have hpt:kB (D.ts.set i t')=kB D.ts:=by
  unfold kB
  apply List.ext_getElem?
  intro k
  rw [List.getElem?_map,List.getElem?_map,List.getElem?_set]
  split
  ·next e =>
   subst e
   rw [List.getElem?_eq_getElem hi,ht]
   simp [hb]
  ·rfl
 refine⟨f.heap h.box (h.noTx hm),h.file.on (f.on (fun k hk=>⟨h.file.lies k hk,fun e=>h.txFile (h.each t hm) k e hk⟩)),?_,?_,?_⟩
 ·show w'.ownsRow 0 _ 1 D.ov (D.ts.set i t').length (kB (D.ts.set i t'))
  rw [List.length_set,hpt]
  exact eD h.row f (fun k hk e=>h.txRow (h.each t hm) k e hk)
 ·intro x hx
  obtain⟨j,hj,rfl⟩:=List.getElem_of_mem hx
  rw [List.length_set] at hj
  rw [List.getElem_set]
  split
  ·exact hT
  ·next e =>
   have hx:=h.each D.ts[j] (List.getElem_mem hj)
   exact hx.on (f.on (fun k hk=>⟨hx.lies k hk,fun e'=>qGw h.apart hj hi (fun e2=>e e2.symm) k hk (ht▸e')⟩))
 ·refine List.pairwise_iff_getElem.2 (fun a b ha hb' hab=>?_)
  rw [List.length_set] at ha hb'
  rw [List.getElem_set,List.getElem_set]
  have old:∀ j (hj:j<D.ts.length),j≠i→∀ k,fpT t' k→¬ fpT D.ts[j] k:=fun j hj hne k h1 h2=>by
   rcases hg k h1 with h'|h'
   ·exact qGw h.apart hi hj (Ne.symm hne) k (ht.symm▸h') h2
   ·have:=(h.each D.ts[j] (List.getElem_mem hj)).lies k h2;omega
  split
  ·next e1 =>
   split
   ·omega
   ·next e2=>exact old b hb' (fun e=>e2 e.symm)
  ·next e1 =>
   split
   ·next e2=>exact fun k h1 h2=>old a ha (fun e=>e1 e.symm) k h2 h1
   ·exact qGw h.apart ha hb' (by omega)
theorem qKq {D:Db}  {t t':Tx} (hi:i<D.ts.length) (ht:D.ts[i]=t) (hg:∀ k,fpT t' k→fpT t k∨w.heap.size≤k):aK w (fpD D) (fpD { D with ts:=D.ts.set i t' }):=by
 rintro k (hk|hk|hk|⟨x,hx,hk⟩)
 ·exact .inl (.inl hk)
 ·exact .inl (.inr (.inl hk))
 ·exact .inl (.inr (.inr (.inl hk)))
 ·rcases List.mem_or_eq_of_mem_set hx with hx|rfl
  ·exact .inl (.inr (.inr (.inr ⟨x,hx,hk⟩)))
  ·exact(hg k hk).imp (fun h=>.inr (.inr (.inr ⟨t,ht▸List.getElem_mem hi,h⟩))) id
theorem dE {β:Nat} {a0:Value} {t:TypeId} (h:w.heap[β]?=some (.cells #[a0] t)):w.cell? ⟨β,0,none⟩=some a0:=by simp [World.cell?,h]
theorem qVf (D:Db) (x:Int) (i:Nat) (t:Tx) (key val:ByteArray) (b0 b1 b2 b3:Nat) (w:World) (h:aS w 1 D) (hn:D.ts.length≤1000) (hi:i<D.ts.length) (ht:D.ts[i]=t) (hx:nX D.ts x=i) (hw:t.wr=true) (hr:cI t.cs) (hcs:t.cs.length≤1000) (hk1:1≤key.size) (hk2:key.size≤24) (hv:val.size≤400)
  (x0:w.heap[b0]?=some (.cells #[.pointer (some ⟨D.d,0,none⟩)] 23)) (x1:w.heap[b1]?=some (.cells #[.int .i64 x] 3)) (x2:w.heap[b2]?=some (.cells #[.string key] 9)) (x3:w.heap[b3]?=some (.cells #[.string val] 9)) :
  Calls Tryz.prog 43 #[.pointer (some ⟨b0,0,none⟩),.pointer (some ⟨b1,0,none⟩),.pointer (some ⟨b2,0,none⟩),.pointer (some ⟨b3,0,none⟩)] w fun e w'=>e=.returned (.int .i64 0)∧∃ ca' cc',aS w' 1 { D with ts:=D.ts.set i { t with cs:=cZ t.cs ⟨key,val,false⟩,ca:=ca',cc:=cc' } }∧Fr (fpD D) w w'∧aK w (fpD D) (fpD { D with ts:=D.ts.set i { t with cs:=cZ t.cs ⟨key,val,false⟩,ca:=ca',cc:=cc' } }):=by
 have hWr:=zI D 1 x i t w h (by omega) hi ht hx hw
 have hm:t∈D.ts:=ht▸List.getElem_mem hi
 have HK:Hid (∀ X,Below w.heap.size w X→aS X 1 D∧X.cell? ⟨b0,0,none⟩=some (.pointer (some ⟨D.d,0,none⟩))∧X.cell? ⟨b1,0,none⟩=some (.int .i64 x)∧X.heap[b2]?=some (.cells #[.string key] 9)∧X.heap[b3]?=some (.cells #[.string val] 9)):=by
  intro X hX
  exact⟨h.on (On.of_below hX h.lies),dE ((hX.block _ (Array.getElem?_eq_some_iff.1 x0).1).trans x0),dE ((hX.block _ (Array.getElem?_eq_some_iff.1 x1).1).trans x1),(hX.block _ (Array.getElem?_eq_some_iff.1 x2).1).trans x2,(hX.block _ (Array.getElem?_eq_some_iff.1 x3).1).trans x3⟩
 obtain⟨_,c0,c1,y2,y3⟩:=HK.out w (Below.refl _ _)
 have c2:=dE y2
 have c3:=dE y3
 have hKy:∀ X,Calls Tryz.prog 45 #[.string key] X fun e w'=>e=.returned (.bool true)∧w'=X:=fun X=>by
  have:=wD key X
  rw [decide_eq_true (And.intro hk1 hk2)] at this
  exact this
 have HCk:Hid (∀ X,Calls Tryz.prog 47 #[.string key] X fun e w'=>e=.returned (.string key)∧Below X.heap.size X w'):=fun X=>sQ key (by omega) X
 have HCv:Hid (∀ X,Calls Tryz.prog 47 #[.string val] X fun e w'=>e=.returned (.string val)∧Below X.heap.size X w'):=fun X=>sQ val (by omega) X
 have HCh:Hid (∀ X,aS X 1 D→Calls Tryz.prog 46 #[.pointer (some ⟨t.b,0,none⟩),.agg #[.string key,.string val,.bool false]] X fun e w'=>e=.returned (.tuple #[])∧∃ ca' cc',iX w' D.β { t with cs:=cZ t.cs ⟨key,val,false⟩,ca:=ca',cc:=cc' }∧Fr (fpT t) X w'∧∀ k,fpT { t with cs:=cZ t.cs ⟨key,val,false⟩,ca:=ca',cc:=cc' } k→fpT t k∨X.heap.size≤k):=fun X hX=>qCg t D.β ⟨key,val,false⟩ X (hX.each t hm) hr hcs
 have hvi:¬ (400:Int)<(val.size:Int):=by omega
 have HHI:Hid (i<D.ts.length):=hi
 have HTI:Hid (D.ts[i]=t):=ht
 clear x0 x1 x2 x3 h ht hx hr
 go_enter Tryz.func43,Tryz.ntmps43
 go_wp2_with (first
  | (go_at_call 44;(with_reducible refine Calls.mono hWr ?_);rintro e X1 ⟨rfl,hX1⟩;obtain⟨hD1,c0,c1,y2,y3⟩:=HK.out X1 hX1;have c2:=dE y2;have c3:=dE y3;have hKy1:=hKy X1)
  | (go_at_call 45;(with_reducible refine Calls.mono hKy1 ?_);rintro e X1' ⟨rfl,hX1'⟩;subst X1'))
 go_region_held3 (fun X=>X.cell? ⟨b2,0,none⟩=some (.string key)∧X.cell? ⟨b3,0,none⟩=some (.string val))
  ((first|(with_reducible exact⟨c2,c3⟩)|(simp [c2,c3])))
  (first
   | (go_at_call 47;(with_reducible refine Calls.mono (HCk.out _) ?_);rintro e X2 ⟨rfl,hX2⟩;have B2:Below w.heap.size w X2:=hX1.drew.trans (hX2.mono hX1.size);obtain⟨hD2,c0,c1,y2,y3⟩:=HK.out X2 B2;have c2:=dE y2;have c3:=dE y3)
   | (go_at_call 47;(with_reducible refine Calls.mono (HCv.out _) ?_);rintro e X3 ⟨rfl,hX3⟩;have B3:Below w.heap.size w X3:=B2.trans (hX3.mono B2.size);obtain⟨hD3,c0,c1,y2,y3⟩:=HK.out X3 B3;have c2:=dE y2;have c3:=dE y3)
   | (go_at_call 46;(with_reducible refine Calls.mono (HCh.out _ hD3) ?_);rintro e X4 ⟨rfl,ca',cc',hT4,hF4,hG4⟩;have D4:=hD3.retx HHI.out HTI.out hT4 rfl hF4 hG4;have c2:=dE (hF4.heap y2 (zT (hD3.each t hm) y2 (by decide) (by decide)));have c3:=dE (hF4.heap y3 (zT (hD3.each t hm) y3 (by decide) (by decide)))))
 all_goals go_wp2
 all_goals go_ret
 all_goals
  refine⟨rfl,ca',cc',D4,(Fr.of_below B3).trans (hF4.mono (fun k hk=>.inl (.inr (.inr (.inr ⟨t,hm,hk⟩))))),fun k hk=>?_⟩
  have:=qKq (w:=X3) HHI.out HTI.out hG4 k hk
  exact this.imp id (fun h=>Nat.le_trans B3.size h)
theorem qYq (D:Db) (x:Int) (i:Nat) (t:Tx) (key val:ByteArray) (w:World) (h:aS w 0 D) (hn:D.ts.length≤1000) (hi:i<D.ts.length) (ht:D.ts[i]=t) (hx:nX D.ts x=i) (hw:t.wr=true) (hr:cI t.cs) (hcs:t.cs.length≤1000) (hk1:1≤key.size) (hk2:key.size≤24) (hv:val.size≤400) :
  Calls Tryz.prog 23 #[.pointer (some ⟨D.d,0,none⟩),.int .i64 x,.string key,.string val] w fun e w'=>e=.returned (.int .i64 0)∧∃ ca' cc',aS w' 0 { D with ts:=D.ts.set i { t with cs:=cZ t.cs ⟨key,val,false⟩,ca:=ca',cc:=cc' } }∧Fr (fpD D) w w'∧aK w (fpD D) (fpD { D with ts:=D.ts.set i { t with cs:=cZ t.cs ⟨key,val,false⟩,ca:=ca',cc:=cc' } }):=by
 obtain⟨W1,hW1⟩:=nM ((((w.alloc (.cells #[.pointer (some ⟨D.d,0,none⟩)] 23)).alloc (.cells #[.int .i64 x] 3)).alloc (.cells #[.string key] 9)).alloc (.cells #[.string val] 9))
 have B1:Below w.heap.size w W1:=hW1▸((((Below.refl _ _).alloc (Nat.le_refl _) _).alloc (by simp) _).alloc (by simp;omega) _).alloc (by simp;omega) _
 have x0:W1.heap[w.heap.size]?=some (.cells #[.pointer (some ⟨D.d,0,none⟩)] 23):=hW1▸aF _ (aF _ (aF _ (aB w _)))
 have x1:W1.heap[w.heap.size+1]?=some (.cells #[.int .i64 x] 3):=by
  rw [← hW1];refine aF _ (aF _ ?_);have:=aB (w.alloc (.cells #[.pointer (some ⟨D.d,0,none⟩)] 23)) (.cells #[.int .i64 x] 3);simpa using this
 have x2:W1.heap[w.heap.size+1+1]?=some (.cells #[.string key] 9):=by
  rw [← hW1];refine aF _ ?_;have:=aB ((w.alloc (.cells #[.pointer (some ⟨D.d,0,none⟩)] 23)).alloc (.cells #[.int .i64 x] 3)) (.cells #[.string key] 9);simpa using this
 have x3:W1.heap[w.heap.size+1+1+1]?=some (.cells #[.string val] 9):=by
  rw [← hW1];have:=aB (((w.alloc (.cells #[.pointer (some ⟨D.d,0,none⟩)] 23)).alloc (.cells #[.int .i64 x] 3)).alloc (.cells #[.string key] 9)) (.cells #[.string val] 9);simpa using this
 have h1:aS W1 0 D:=h.on (On.of_below B1 h.lies)
 have dlt:=(Array.getElem?_eq_some_iff.1 h.box).1
 have c0:=dE x0
 have hFc:=qHh D 43 #[] #[.pointer (some ⟨w.heap.size,0,none⟩),.pointer (some ⟨w.heap.size+1,0,none⟩),.pointer (some ⟨w.heap.size+1+1,0,none⟩),.pointer (some ⟨w.heap.size+1+1+1,0,none⟩)] (enters_of Tryz.func43 (by kernel_rfl) rfl) W1 h1 (fun z D'=>z=0∧∃ ca' cc',D' = { D with ts:=D.ts.set i { t with cs:=cZ t.cs ⟨key,val,false⟩,ca:=ca',cc:=cc' } }) (by
  intro W0 hD0 hF0 hs0
  have nd:∀ k,w.heap.size≤k→¬ Bl.one D.d k:=fun k hk e=>by simp only [Bl.one] at e;omega
  refine(qVf D x i t key val _ _ _ _ W0 hD0 hn hi ht hx hw hr hcs hk1 hk2 hv (hF0.heap x0 (nd _ (by omega))) (hF0.heap x1 (nd _ (by omega))) (hF0.heap x2 (nd _ (by omega))) (hF0.heap x3 (nd _ (by omega)))).mono ?_
  rintro e w' ⟨rfl,ca',cc',hD',hF',hG'⟩
  exact⟨0,_,rfl,hD',rfl,hF',hG',rfl,ca',cc',rfl⟩)
 clear x0 x1 x2 x3
 go_enter Tryz.func23,Tryz.ntmps23
 go_wp2_with (go_at_call 35;(with_reducible refine Calls.mono hFc ?_);rintro e X ⟨z,D',rfl,hD',hd',hF',hG',rfl,ca',cc',rfl⟩)
 go_ret
 exact⟨rfl,ca',cc',hD',(Fr.of_below B1).trans hF',fun k hk=>(hG' k hk).imp id (fun h=>Nat.le_trans B1.size h)⟩
end Go.Proofs.YtfnhmpcpeahfkaaGreat.Tree
