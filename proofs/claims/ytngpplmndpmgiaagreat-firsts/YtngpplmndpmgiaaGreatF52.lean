/-
  Joined: PBook, KVal, KBook, Deed, PCnt, Sees, Shows, KCom, ComH, SkG, ComK.
-/
import Derived.Test.YtngpplmndpmgiaaGreatF51
import Derived.Test.YtngpplmndpmgiaaGreatF49
import Derived.Test.YtngpplmndpmgiaaGreatF35
import Derived.Deep.MidRow
import Derived.Test.YtngpplmndpmgiaaGreatF50
set_option linter.unusedSimpArgs false
set_option linter.unusedVariables false
set_option maxRecDepth 100000
set_option maxHeartbeats 8000000
namespace Go.Proofs.YtngpplmndpmgiaaGreat.Tree
open Go.RowKit Go.Proofs.YtngpplmndpmgiaaGreat.Pages
abbrev whole:Sp:=⟨⟨#[]⟩,⟨#[]⟩⟩
theorem whole_has (k:ByteArray):whole.has k=true:=by
 simp only [whole,Sp.has,Bool.and_eq_true,below_iff]
 exact⟨nil_le k,.inl trivial⟩
theorem seenE_all {fs:Fs} {root:Nat} {o:Option (Nat×T)} (hro:Rooted fs root o) (cs:List Ch):seenE o cs whole=overE (oents o) cs:=by
 unfold seenE
 rw [ostored_eq hro,List.filter_eq_self.2 (fun x _=>whole_has _)]
 unfold ownC
 rw [List.filter_eq_self.2 (fun c _=>whole_has _)]
structure Told (xs:List En) (th:List Bool) (vs:List ByteArray):Prop where
 lt:th.length=12
 lv:vs.length=12
 rise:RiseE xs
 keys:∀ x∈xs,x.e.key∈keyL
 tells:∀ k (hk:k<12),valOf xs (keyL[k]'hk)=if th[k]'(by omega) then some (vs[k]'(by omega)).data.toList else none
theorem told_none:Told [] (List.replicate 12 false) (List.replicate 12 ⟨#[]⟩):=⟨by simp,by simp,.nil,by simp,fun k hk=>by
  rw [show (List.replicate 12 false)[k]'(by simpa using hk)=false from List.getElem_replicate _]
  rfl⟩
theorem valOf_kv {xs ys:List En} (h:xs.map En.kv=ys.map En.kv) (k:ByteArray):valOf xs k=valOf ys k:=by
 have key:∀ l:List En,valOf l k=((l.map En.kv).find? (fun p=>decide (p.1=k))).map (·.2):=fun l=>by
  unfold valOf
  rw [List.find?_map,Option.map_map]
  rfl
 rw [key,key,h]
theorem keys_kv {xs ys:List En} (h:xs.map En.kv=ys.map En.kv):xs.map (fun x=>x.e.key)=ys.map (fun x=>x.e.key):=by
 have:∀ l:List En,l.map (fun x=>x.e.key)=(l.map En.kv).map (·.1):=fun l=>by simp [En.kv]
 rw [this,this,h]
theorem Told.kv {xs ys:List En} {th:List Bool} {vs:List ByteArray} (h:Told xs th vs) (he:ys.map En.kv=xs.map En.kv) (hr:RiseE ys):Told ys th vs:=by
 refine⟨h.lt,h.lv,hr,fun x hx=>?_,fun k hk=>by rw [valOf_kv he];exact h.tells k hk⟩
 have h1:x.e.key∈ys.map (fun x=>x.e.key):=List.mem_map_of_mem hx
 rw [keys_kv he] at h1
 obtain⟨y,hy,e⟩:=List.mem_map.1 h1
 rw [← e]
 exact h.keys y hy
theorem key_inj:∀ i (hi:i<12) j (hj:j<12),keyL[i]'hi=keyL[j]'hj→i=j:=by
 intro i hi j hj h
 have hn:keyL.Nodup:=by decide +kernel
 exact(List.getElem_inj (h₀:=hi) (h₁:=hj) hn).1 h
theorem Told.change {es:List En} {cs:List Ch} {th:List Bool} {vs:List ByteArray} (he:RiseE es) (hr:Rise cs) (h:Told (overE es cs) th vs) (k:Nat) (hk:k<12) (v:ByteArray) (g:Bool) :
  Told (overE es (withC cs ⟨keyL[k]'hk,v,g⟩)) (th.set k (!g)) (vs.set k v):=by
 have hw:=with_rise hr ⟨keyL[k]'hk,v,g⟩
 refine⟨by simpa using h.lt,by simpa using h.lv,over_rise he hw,fun x hx=>?_,fun j hj=>?_⟩
 ·rcases (over_mem he hw x).1 hx with⟨c,hc,hg,rfl⟩|⟨hx1,hx2⟩
  ·rcases (with_mem hr _ c).1 hc with rfl|⟨hc1,hc2⟩
   ·exact key_at k hk
   ·exact h.keys _ ((over_mem he hr _).2 (.inl ⟨c,hc1,hg,rfl⟩))
  ·refine h.keys x ((over_mem he hr x).2 (.inr ⟨hx1,fun c hc e=>?_⟩))
   by_cases hck:c.key=keyL[k]'hk
   ·exact hx2 _ ((with_mem hr _ _).2 (.inl rfl)) (by rw [← e,hck])
   ·exact hx2 c ((with_mem hr _ c).2 (.inr ⟨hc,hck⟩)) e
 ·have ht:=h.tells j hj
  rw [over_val he hr] at ht
  rw [over_val he hw]
  by_cases hjk:j=k
  ·subst hjk
   have hf:(withC cs ⟨keyL[j]'hj,v,g⟩).find? (fun c=>decide (c.key=keyL[j]'hj))=some ⟨keyL[j]'hj,v,g⟩:=by
    cases hq:(withC cs ⟨keyL[j]'hj,v,g⟩).find? (fun c=>decide (c.key=keyL[j]'hj)) with
    | none=>have:=List.find?_eq_none.1 hq _ ((with_mem hr _ _).2 (.inl rfl));simp at this
    | some c =>
     have a1:=List.mem_of_find?_eq_some hq
     have a2:c.key=keyL[j]'hj:=by simpa using List.find?_some hq
     rcases (with_mem hr _ c).1 a1 with rfl|⟨_,hc2⟩
     ·rfl
     ·exact absurd a2 hc2
   rw [hf]
   cases g<;>simp
  ·have hne:keyL[k]'hk≠keyL[j]'hj:=fun e=>hjk (key_inj _ hk _ hj e).symm
   have hf:(withC cs ⟨keyL[k]'hk,v,g⟩).find? (fun c=>decide (c.key=keyL[j]'hj))=cs.find? (fun c=>decide (c.key=keyL[j]'hj)):=by
    cases hq:cs.find? (fun c=>decide (c.key=keyL[j]'hj)) with
    | none =>
     refine List.find?_eq_none.2 fun c hc=>?_
     rcases (with_mem hr _ c).1 hc with rfl|⟨hc1,_⟩
     ·simpa using hne
     ·exact List.find?_eq_none.1 hq c hc1
    | some d =>
     have d1:=List.mem_of_find?_eq_some hq
     have d2:d.key=keyL[j]'hj:=by simpa using List.find?_some hq
     cases hq2:(withC cs ⟨keyL[k]'hk,v,g⟩).find? (fun c=>decide (c.key=keyL[j]'hj)) with
     | none=>have:=List.find?_eq_none.1 hq2 d ((with_mem hr _ d).2 (.inr ⟨d1,fun e=>hne (e.symm.trans d2)⟩));simp [d2] at this
     | some c =>
      have c1:=List.mem_of_find?_eq_some hq2
      have c2:c.key=keyL[j]'hj:=by simpa using List.find?_some hq2
      rcases (with_mem hr _ c).1 c1 with rfl|⟨c3,_⟩
      ·exact absurd c2 hne
      ·obtain⟨i1,hi1,rfl⟩:=List.getElem_of_mem c3
       obtain⟨i2,hi2,rfl⟩:=List.getElem_of_mem d1
       rcases Nat.lt_trichotomy i1 i2 with hh|hh|hh
       ·have:=List.pairwise_iff_getElem.1 hr i1 i2 hi1 hi2 hh
        rw [c2,d2,lt_irrefl] at this;cases this
       ·subst hh;rfl
       ·have:=List.pairwise_iff_getElem.1 hr i2 i1 hi2 hi1 hh
        rw [c2,d2,lt_irrefl] at this;cases this
   rw [hf,ht]
   simp [List.getElem_set,Ne.symm hjk]
def lensL:List Int:=[0,1,5,60,61,240,241,400]
theorem lens_le400:∀ n∈lensL,0≤n∧n≤400:=by decide
theorem tdiv_small (c d:Int) (hd:0<d) (h0 : -9223372036854775808≤c) (h1:c≤9223372036854775807) : -9223372036854775808≤c.tdiv d∧c.tdiv d≤9223372036854775807:=by
 rcases Int.lt_or_le c 0 with h|h
 ·obtain⟨e,rfl⟩:∃ e:Int,c = -e:=⟨-c,by omega⟩
  rw [Int.neg_tdiv,Int.tdiv_eq_ediv_of_nonneg (by omega)]
  have a:=Int.ediv_nonneg (a:=e) (b:=d) (by omega) (by omega)
  have b:=Int.ediv_le_self (a:=e) d (by omega)
  omega
 ·rw [Int.tdiv_eq_ediv_of_nonneg h]
  have a:=Int.ediv_nonneg (a:=c) (b:=d) h (by omega)
  have b:=Int.ediv_le_self (a:=c) d h
  omega
theorem made_zero (n:Nat):(madeCells (Value.int .u8 0).cells (n * 1)).toList=Lib.byteCells (List.replicate n 0):=by
 apply List.ext_getElem
 ·simp [madeCells,Lib.byteCells]
 ·intro i h1 h2
  simp [madeCells,Value.cells,Nat.mod_one,Lib.byteCells]
theorem made_bytes (W:World) (n:Nat) (hn:n≤1000000):∃ w1,(Instr.makeSlice 115 (.int .i64 n) (.int .i64 n)).run Tryz.prog W=.ok (.slice (some ⟨W.heap.size,0,none⟩) n n) w1∧w1.ownsRow 0 5 1 (.slice (some ⟨W.heap.size,0,none⟩) n n) n (Lib.byteCells (List.replicate n 0))∧Below W.heap.size W w1:=by
 obtain⟨i0,hi,hz0,hz1,hz2⟩:=info_byte
 obtain⟨w1,hmk,hown,hg⟩:=run_makeSlice_full (P:=Tryz.prog) W 0 115 5 i0 (.int .u8 0) 1 Tryz.underlying115 hi hz0 hz1 .i64 .i64 n (by omega) (by rw [hz2];omega) (by unfold maxLen;omega) (Nat.zero_le _)
 rw [made_zero] at hown
 exact⟨w1,hmk,hown,hg.os,hg.tape,hg.output,hg.size,fun k hk=>hg.block k hk (by simp)⟩
theorem kvalue_any (c:Int) (w:World) (h0 : -9223372036854775808≤c) (h1:c≤9223372036854775807) :
  Calls Tryz.prog 33 #[.int .i64 c] w fun e w'=>∃ v:ByteArray,e=.returned (.string v)∧v.size≤400∧Below w.heap.size w w':=by
 obtain⟨m,hm⟩:∃ m:Nat,pickV c 8=m:=⟨(pickV c 8).toNat,(Int.toNat_of_nonneg (pickV_range c 8 (by omega)).1).symm⟩
 have hm8:m<8:=by have:=(pickV_range c 8 (by omega)).2;omega
 have hr:=lens_le400 _ (List.getElem_mem hm8)
 obtain⟨n,hn⟩:∃ n:Nat,lensL[m]'hm8=n:=⟨_,(Int.toNat_of_nonneg hr.1).symm⟩
 have hn4:n≤400:=by rw [hn] at hr;omega
 clear hr
 obtain⟨W1,hW1⟩:∃ W1,w.alloc (.cells (lensL.map (Value.int .i64)).toArray 3)=W1:=⟨_,rfl⟩
 have B1:Below w.heap.size w W1:=hW1▸(Below.refl _ _).alloc (Nat.le_refl _) _
 have x1:W1.heap[w.heap.size]?=some (.cells (lensL.map (Value.int .i64)).toArray 3):=hW1▸heap_new w _
 have hc:W1.cell? ⟨w.heap.size,m,none⟩=some (.int .i64 (n:Nat)):=by
  have hq:lensL[m]?=some n:=List.getElem?_eq_some_iff.2 ⟨hm8,hn⟩
  unfold World.cell?
  dsimp only
  rw [x1]
  simp [hq]
 obtain⟨W2,hmk,hown,hb2⟩:=made_bytes W1 n (by omega)
 have B2:Below w.heap.size w W2:=B1.trans (hb2.mono B1.size)
 have hPk:Calls Tryz.prog 20 #[.int .i64 c,.int .i64 8] W1 fun e w'=>e=.returned (.int .i64 m)∧w'=W1:=hm▸pick_val c 8 W1 h0 h1 (by omega)
 have hmi:(m:Int)<8:=by omega
 have HLg:Hid (w.heap.size≤W1.heap.size):=B1.size
 have hPq:Hid (∀ X,Calls Tryz.prog 20 #[.int .i64 (c.tdiv 8),.int .i64 1073741824] X fun e w'=>∃ p:Int,0≤p∧p<1073741824∧e=.returned (.int .i64 p)∧w'=X):=fun X=>pick_any (c.tdiv 8) 1073741824 X (tdiv_small c 8 (by omega) h0 h1).1 (tdiv_small c 8 (by omega) h0 h1).2 (by omega)
 simp only [lensL,List.map_cons,List.map_nil] at hW1
 clear x1 hn hm
 go_enter Tryz.func33,Tryz.ntmps33
 go_wp2_with (go_at_call 20;(with_reducible refine Calls.mono hPk ?_);rintro e X ⟨rfl,hX⟩;subst X)
 have H0:Hid ((List.replicate n (0:UInt8)).length=n∧W2.ownsRow 0 5 1 (.slice (some ⟨W1.heap.size,0,none⟩) n n) n (Lib.byteCells (List.replicate n 0))∧Below w.heap.size w W2):=⟨by simp,hown,B2⟩
 clear hown hb2 hmk hc hPk
 go_loopw [5] (fun i wr=>∃ (j:Nat) (l:List UInt8),i=.int .i64 j∧j≤n∧Hid (l.length=n∧wr.ownsRow 0 5 1 (.slice (some ⟨W1.heap.size,0,none⟩) n n) n (Lib.byteCells l)∧Below w.heap.size w wr)) (fun i _=>n-(intOf i).toNat)
 case atStart=>exact⟨0,_,rfl,Nat.zero_le _,H0⟩
 case round =>
  obtain⟨j,l,rfl,hj,HL⟩:=hrel
  rename World=>wr
  by_cases hlt:j<n
  ·have hlti:(j:Int)<(n:Int):=by omega
   obtain⟨hll,hrow,hB⟩:=HL.out
   have hcj:wr.cell? ⟨W1.heap.size,j,none⟩=some (.int .u8 (l[j]'(by omega)).toNat):=by
    rw [World.ownsRow.cellAt (w:=wr) hrow j (by omega)]
    simp [Lib.byteCells,hll,hlt]
   have hfj:=World.ownsRow.frozenAt (w:=wr) hrow j
   have hPr:=hPq.out wr
   have HS:Hid (∀ y:Int,0≤y→y<256→∃ l':List UInt8,l'.length=n∧(wr.setCell ⟨W1.heap.size,j,none⟩ (.int .u8 y)).ownsRow 0 5 1 (.slice (some ⟨W1.heap.size,0,none⟩) n n) n (Lib.byteCells l')∧Below w.heap.size w (wr.setCell ⟨W1.heap.size,j,none⟩ (.int .u8 y))):=fun y hy0 hy1=>by
    refine⟨l.set j (UInt8.ofNat y.toNat),by simpa using hll,?_,hB.setCell (p:=⟨W1.heap.size,j,none⟩) HLg.out _⟩
    have h2:=(World.ownsRow.stored (w:=wr) hrow j (.int .u8 y)).1
    have h3:Lib.byteCells (l.set j (UInt8.ofNat y.toNat))=(Lib.byteCells l).set j (.int .u8 y):=by
     simp only [Lib.byteCells,List.map_set,byte_of y hy0 hy1]
    rw [h3]
    exact h2
   clear hrow hB
   go_wp2_with (go_at_call 20;(with_reducible refine Calls.mono hPr ?_);rintro e X ⟨p,hp0,hp1,rfl,hX⟩;subst X)
   obtain⟨l',hl'⟩:=HS.out (wrap64 (p / 2 ^ (j % 20)+(j:Int)) % 256) (by omega) (by omega)
   refine⟨⟨j+1,l',by simp,by omega,hl'⟩,?_⟩
   simp [intOf]
   omega
  ·obtain rfl:j=n:=by omega
   have hlti:¬ (j:Int)<(j:Int):=by omega
   obtain⟨hll,hrow,hB⟩:=HL.out
   have hcv:=run_convert_bytes_back (P:=Tryz.prog) wr 115 9 5 ⟨W1.heap.size,0,none⟩ j l Tryz.underlying115 Tryz.underlying5 Tryz.underlying9 (fun i hi=>by
    have:=World.ownsRow.cells (w:=wr) hrow (g:=W1.heap.size) rfl i (.int .u8 (l[i]).toNat) (by simp [Lib.byteCells,hi])
    simpa using this)
   rw [hll] at hcv
   have hsz:(⟨l.toArray⟩:ByteArray).size=j:=by show l.toArray.size=j;simpa using hll
   clear hrow hll
   go_wp2
   go_ret
   exact⟨_,rfl,by rw [hsz];exact hn4,hB⟩
def bookC (th:List Bool) (vs:List ByteArray):Array Value:=(th.map Value.bool++vs.map Value.string).toArray
structure BookAt (w:World) (q:Nat) (th:List Bool) (vs:List ByteArray):Prop where
 box:w.heap[q]?=some (.cells (bookC th vs) 30)
 lt:th.length=12
 lv:vs.length=12
theorem BookAt.on {w w':World} {q:Nat} {th:List Bool} {vs:List ByteArray} {Y:Bl} (h:BookAt w q th vs) (ho:On Y w w') (hy:Y q):BookAt w' q th vs:=⟨ho.heap h.box hy,h.lt,h.lv⟩
theorem BookAt.there {w:World} {q:Nat} {th:List Bool} {vs:List ByteArray} (h:BookAt w q th vs) (k:Nat) (hk:k<12):w.cell? ⟨q,k,none⟩=some (.bool (th[k]'(by have:=h.lt;omega))):=by
 have h1:=h.lt
 simp [World.cell?,h.box,bookC,List.getElem?_append,h1,hk]
theorem BookAt.value {w:World} {q:Nat} {th:List Bool} {vs:List ByteArray} (h:BookAt w q th vs) (k:Nat) (hk:k<12):w.cell? ⟨q,12+k,none⟩=some (.string (vs[k]'(by have:=h.lv;omega))):=by
 have h1:=h.lt
 have h2:=h.lv
 simp [World.cell?,h.box,bookC,List.getElem?_append,h1,h2,hk]
theorem BookAt.free {w:World} {q:Nat} {th:List Bool} {vs:List ByteArray} (h:BookAt w q th vs) (i:Nat):w.frozen? ⟨q,i,none⟩=false:=free_of h.box i
theorem BookAt.setThere {w:World} {q:Nat} {th:List Bool} {vs:List ByteArray} (h:BookAt w q th vs) (k:Nat) (hk:k<12) (t:Bool):BookAt (w.setCell ⟨q,k,none⟩ (.bool t)) q (th.set k t) vs:=by
 refine⟨?_,by simpa using h.lt,h.lv⟩
 rw [set_of h.box k (.bool t)]
 have h1:=h.lt
 simp only [bookC,List.setIfInBounds_toArray,List.map_set]
 rw [List.set_append_left _ _ (by simpa [h1] using hk)]
theorem BookAt.setValue {w:World} {q:Nat} {th:List Bool} {vs:List ByteArray} (h:BookAt w q th vs) (k:Nat) (hk:k<12) (v:ByteArray):BookAt (w.setCell ⟨q,12+k,none⟩ (.string v)) q th (vs.set k v):=by
 refine⟨?_,h.lt,by simpa using h.lv⟩
 rw [set_of h.box (12+k) (.string v)]
 have h1:=h.lt
 simp only [bookC,List.setIfInBounds_toArray,List.map_set]
 rw [List.set_append_right _ _ (by simp [h1])]
 simp [h1]
theorem Sk.now {K:List ByteArray} {n:Nat} {Kp:Bl} {w wq:World} {D:Db} {j m:Nat} {o ao:Option (Nat×T)} (h:Sk K n Kp w wq D j m o ao):Sk K n Kp wq wq D j m o ao :=
 ⟨h.db,h.well,h.failed,h.ver,h.root,h.aroot,h.last0,h.last1,h.store,h.new,On.refl _ _,fun k hk=>Nat.lt_of_lt_of_le (h.lies k hk) h.kept.size⟩
theorem Sk.poke {K:List ByteArray} {n:Nat} {Kp:Bl} {w wq:World} {D:Db} {j m:Nat} {o ao:Option (Nat×T)} (h:Sk K n Kp w wq D j m o ao) (p:Addr) (hp:Kp p.block) (v:Value):Sk K n Kp (wq.setCell p v) (wq.setCell p v) D j m o ao:=by
 have h':=h.now
 refine⟨h.db.on ((On.refl (fpD D) wq).setCell (fun hk=>h.new _ hk hp) v),h.well,h.failed,h.ver,h.root,h.aroot,h.last0,h.last1,h.store,h.new,On.refl _ _,fun k hk=>by simpa using h'.lies k hk⟩
theorem SkO.now {K:List ByteArray} {n:Nat} {Kp:Bl} {w wq:World} {d b j m:Nat} {o ao:Option (Nat×T)} {wr:Bool} {x:Int} {cs:List Ch} (h:SkO K n Kp w wq d b j m o ao wr x cs):SkO K n Kp wq wq d b j m o ao wr x cs:=by
 obtain⟨D,h,r⟩:=h
 exact⟨D,h.now,r⟩
theorem SkO.poke {K:List ByteArray} {n:Nat} {Kp:Bl} {w wq:World} {d b j m:Nat} {o ao:Option (Nat×T)} {wr:Bool} {x:Int} {cs:List Ch} (h:SkO K n Kp w wq d b j m o ao wr x cs) (p:Addr) (hp:Kp p.block) (v:Value):SkO K n Kp (wq.setCell p v) (wq.setCell p v) d b j m o ao wr x cs:=by
 obtain⟨D,h,r⟩:=h
 exact⟨D,h.poke p hp v,r⟩
theorem SkO.kept {K:List ByteArray} {n:Nat} {Kp:Bl} {w wq:World} {d b j m:Nat} {o ao:Option (Nat×T)} {wr:Bool} {x:Int} {cs:List Ch} (h:SkO K n Kp w wq d b j m o ao wr x cs):On Kp w wq:=by
 obtain⟨D,h,_⟩:=h
 exact h.kept
theorem SkO.step {K:List ByteArray} {n:Nat} {Kp:Bl} {w wq w':World} {d b j m:Nat} {o ao:Option (Nat×T)} {wr:Bool} {x:Int} {cs:List Ch} (h:SkO K n Kp w wq d b j m o ao wr x cs) (hb:Below wq.heap.size wq w'):SkO K n Kp w w' d b j m o ao wr x cs:=by
 obtain⟨D,h,r⟩:=h
 exact⟨D,⟨h.db.on (On.of_below hb h.db.lies),h.well,h.failed,h.ver,h.root,h.aroot,h.last0,h.last1,h.store,h.new,h.kept.trans (On.of_below hb (fun k hk=>Nat.lt_of_lt_of_le (h.lies k hk) h.kept.size)),h.lies⟩,r⟩
theorem found_seen {fs:Fs} {root:Nat} {o:Option (Nat×T)} {cs:List Ch} (hro:Rooted fs root o) (hf:Flat2 o) (hr:Rise cs) (hc:∀ c∈cs,c.good) (key:ByteArray):foundC o cs key=(seenV o cs key).isSome:=by
 obtain⟨E,h1,h2⟩:∃ E:Ent,(fnd cs key=true→∀ c,cs[srch cs key]?=some c→E=(chE c).e)∧(fnd cs key=false→∀ x xs,ostored (keySp key) o=x :: xs→E=x.e):=by
  cases hfd:fnd cs key with
  | true =>
   obtain⟨h0,_⟩:=fnd_at hfd hr
   exact⟨(chE cs[srch cs key]).e,fun _ c hcc=>by rw [List.getElem?_eq_getElem h0] at hcc;cases hcc;rfl,fun h=>by cases h⟩
  | false =>
   cases hos:ostored (keySp key) o with
   | nil=>exact⟨⟨⟨#[]⟩,⟨#[]⟩,0,0⟩,(fun h=>by cases h),(fun _ x xs h=>by cases h)⟩
   | cons y ys=>exact⟨y.e,(fun h=>by cases h),(fun _ x xs h=>by cases h;rfl)⟩
 rcases find_seen hro hf hr hc h1 h2 with⟨a,b⟩|⟨X,_,_,a,b⟩
 ·rw [a,b];rfl
 ·rw [a,b];rfl
structure DeedSt (n:Nat) (Kp:Bl) (wq:World) (d b j m:Nat) (o ao:Option (Nat×T)) (x:Int) (cs:List Ch) (q:Nat) (th:List Bool) (vs:List ByteArray):Prop where
 st:SkO keyL n Kp wq wq d b j m o ao true x cs
 ok:CsOk keyL cs
 book:BookAt wq q th vs
 own:Kp q
 told:Told (overE (oents o) cs) th vs
theorem Told.blank {xs:List En} {th:List Bool} {vs:List ByteArray} (h:Told xs th vs) (k:Nat) (hk:k<12) (v:ByteArray) (hf:th[k]'(by have:=h.lt;omega)=false):Told xs (th.set k false) (vs.set k v):=by
 refine⟨by simpa using h.lt,by simpa using h.lv,h.rise,h.keys,fun j hj=>?_⟩
 have ht:=h.tells j hj
 by_cases hjk:j=k
 ·subst hjk
  rw [hf] at ht
  rw [ht]
  simp
 ·rw [ht]
  simp [List.getElem_set,Ne.symm hjk]
theorem DeedSt.rooted {n:Nat} {Kp:Bl} {wq:World} {d b j m:Nat} {o ao:Option (Nat×T)} {x:Int} {cs:List Ch} {q:Nat} {th:List Bool} {vs:List ByteArray} (h:DeedSt n Kp wq d b j m o ao x cs q th vs):∃ fs,Rooted fs (rootOf o) o∧Flat2 o:=by
 obtain⟨D,hD,_⟩:=h.st
 exact⟨D.fs,hD.store.sure.rooted,hD.store.sure.flat⟩
theorem DeedSt.found {n:Nat} {Kp:Bl} {wq:World} {d b j m:Nat} {o ao:Option (Nat×T)} {x:Int} {cs:List Ch} {q:Nat} {th:List Bool} {vs:List ByteArray} (h:DeedSt n Kp wq d b j m o ao x cs q th vs) (k:Nat) (hk:k<12):foundC o cs (keyL[k]'hk)=th[k]'(by have:=h.told.lt;omega):=by
 obtain⟨fs,h1,h2⟩:=h.rooted
 rw [found_seen h1 h2 h.ok.rise h.ok.good]
 unfold seenV
 rw [h.told.tells k hk]
 cases th[k]'(by have:=h.told.lt;omega)<;>rfl
theorem deed_any {n:Nat} {Kp:Bl} {wq:World} {d b j m:Nat} {o ao:Option (Nat×T)} {x:Int} {cs:List Ch} {q:Nat} {th:List Bool} {vs:List ByteArray} (h:DeedSt n Kp wq d b j m o ao x cs q th vs) (c:Int) (h0 : -9223372036854775808≤c) (h1:c≤9223372036854775807) (hl:cs.length<100) :
  Calls Tryz.prog 17 #[.pointer (some ⟨d,0,none⟩),.int .i64 x,.pointer (some ⟨q,0,none⟩),.int .i64 c] wq fun e w'=>e=.returned (.bool true)∧∃ cs' th' vs',DeedSt n Kp w' d b j m o ao x cs' q th' vs'∧cs'.length≤cs.length+1∧On (fun k=>Kp k∧k≠q) wq w':=by
 obtain⟨k,hk⟩:∃ k:Nat,pickV c 12=k:=⟨(pickV c 12).toNat,(Int.toNat_of_nonneg (pickV_range c 12 (by omega)).1).symm⟩
 have hk12:k<12:=by have:=(pickV_range c 12 (by omega)).2;omega
 have hki:(k:Int)<12:=by omega
 have hP1:Calls Tryz.prog 20 #[.int .i64 c,.int .i64 12] wq fun e w'=>e=.returned (.int .i64 k)∧w'=wq:=hk▸pick_val c 12 wq h0 h1 (by omega)
 obtain⟨g,hg⟩:∃ g,pickV (c.tdiv 12) 4=g:=⟨_,rfl⟩
 have hg0:0≤g:=hg▸(pickV_range (c.tdiv 12) 4 (by omega)).1
 have hP2:Calls Tryz.prog 20 #[.int .i64 (c.tdiv 12),.int .i64 4] wq fun e w'=>e=.returned (.int .i64 g)∧w'=wq:=hg▸pick_val (c.tdiv 12) 4 wq (tdiv_small c 12 (by omega) h0 h1).1 (tdiv_small c 12 (by omega) h0 h1).2 (by omega)
 have hVl:=kvalue_any (c.tdiv 48) wq (tdiv_small c 48 (by omega) h0 h1).1 (tdiv_small c 48 (by omega) h0 h1).2
 have HKey:Hid (∀ X,Calls Tryz.prog 22 #[.int .i64 (k:Nat)] X fun e w'=>e=.returned (.string (keyL[k]'hk12))∧Below X.heap.size X w'):=fun X=>key_any k hk12 X
 have H:Hid (DeedSt n Kp wq d b j m o ao x cs q th vs):=h
 have ks:=key_size _ (key_at k hk12)
 clear hk hg h
 have hql:q<wq.heap.size:=(Array.getElem?_eq_some_iff.1 H.out.book.box).1
 by_cases hgp:0<g
 ·go_enter Tryz.func17,Tryz.ntmps17
  go_wp2_with (first
   | (go_at_call 20;(with_reducible refine Calls.mono hP1 ?_);rintro e X ⟨rfl,hX⟩;subst X)
   | (go_at_call 20;(with_reducible refine Calls.mono hP2 ?_);rintro e X ⟨rfl,hX⟩;subst X)
   | (go_at_call 33;(with_reducible refine Calls.mono hVl ?_);rintro e X1 ⟨v,rfl,hv,hb1⟩;have hB1:BookAt X1 q th vs:=H.out.book.on (On.of_below hb1 (Y:=Bl.one q) (fun i hi=>by simp only [Bl.one] at hi;omega)) rfl;have e1:=hB1.there k hk12;have e2:=hB1.free k;obtain⟨X2,hX2⟩:∃ X2,X1.setCell ⟨q,k,none⟩ (.bool true)=X2:=⟨_,rfl⟩;have hB2:BookAt X2 q (th.set k true) vs:=hX2▸hB1.setThere k hk12 true;have e3:=hB2.value k hk12;have e4:=hB2.free (12+k);obtain⟨X3,hX3⟩:∃ X3,X2.setCell ⟨q,12+k,none⟩ (.string v)=X3:=⟨_,rfl⟩;have hB3:BookAt X3 q (th.set k true) (vs.set k v):=hX3▸hB2.setValue k hk12 v;have hS3:SkO keyL n Kp X3 X3 d b j m o ao true x cs:=hX3▸(hX2▸(H.out.st.step hb1).poke ⟨q,k,none⟩ H.out.own _:SkO keyL n Kp X2 X2 d b j m o ao true x cs).poke ⟨q,12+k,none⟩ H.out.own _;have HO:Hid (On (fun k=>Kp k∧k≠q) wq X3):=(by obtain⟨D,hD,_⟩:=H.out.st;have o1:On (fun k=>Kp k∧k≠q) wq X1:=On.of_below hb1 (fun i hi=>hD.lies i hi.1);rw [← hX3,← hX2];exact(o1.setCell (p:=⟨q,k,none⟩) (fun e=>e.2 rfl) _).setCell (p:=⟨q,12+k,none⟩) (fun e=>e.2 rfl) _);have hKy:=HKey.out X3)
   | (go_at_call 22;(with_reducible refine Calls.mono hKy ?_);rintro e X4 ⟨rfl,hb4⟩;have hPu:=put_k (hS3.step hb4) (keyL[k]'hk12) v H.out.ok.rise H.out.ok.len ks.1 ks.2 hv)
   | (go_at_call 21;(with_reducible refine Calls.mono hPu ?_);rintro e X5 ⟨rfl,hS5⟩))
  go_ret
  obtain⟨fs,hro,_⟩:=H.out.rooted
  have hgd:(⟨keyL[k]'hk12,v,false⟩:Ch).good:=put_good k hk12 v hv false
  obtain⟨w1,w2,w3⟩:=H.out.ok.with (by omega) ⟨keyL[k]'hk12,v,false⟩ hgd (key_at k hk12)
  refine⟨rfl,_,_,_,⟨hS5.now,w1,hB3.on hS5.kept H.out.own,H.out.own,H.out.told.change (oents_rise hro) H.out.ok.rise k hk12 v false⟩,w3,HO.out.trans (hS5.kept.mono (fun i hi=>hi.1))⟩
 ·have hgn:¬ (0<g):=hgp
  have hB0:=H.out.book
  have hKy:=HKey.out wq
  have hfo:=H.out.found k hk12
  obtain⟨fb,hfb⟩:∃ fb,th[k]'(by have:=H.out.told.lt;omega)=fb:=⟨_,rfl⟩
  rw [hfb] at hfo
  cases fb with
  | true =>
   go_enter Tryz.func17,Tryz.ntmps17
   go_wp2_with (first
    | (go_at_call 20;(with_reducible refine Calls.mono hP1 ?_);rintro e X ⟨rfl,hX⟩;subst X)
    | (go_at_call 20;(with_reducible refine Calls.mono hP2 ?_);rintro e X ⟨rfl,hX⟩;subst X)
    | (go_at_call 22;(with_reducible refine Calls.mono hKy ?_);rintro e X4 ⟨rfl,hb4⟩;have hDe:=del_k (H.out.st.step hb4) (keyL[k]'hk12) H.out.ok.rise H.out.ok.len ks.1 ks.2)
    | (go_at_call 23;(with_reducible refine Calls.mono hDe ?_);rintro e X5 ⟨z,cs',rfl,hS5,hor⟩;obtain⟨rfl,rfl⟩:z=0∧cs'=withC cs ⟨keyL[k]'hk12,⟨#[]⟩,true⟩:=(by rcases hor with⟨h1,h2,h3⟩|⟨h1,h2,h3⟩;exact⟨h2,h3⟩;(rw [hfo] at h1;cases h1));clear hor;have hB5:=H.out.book.on hS5.kept H.out.own;have e1:=hB5.there k hk12;rw [hfb] at e1;have e2:=hB5.free k;obtain⟨X6,hX6⟩:∃ X6,X5.setCell ⟨q,k,none⟩ (.bool false)=X6:=⟨_,rfl⟩;have hB6:BookAt X6 q (th.set k false) vs:=hX6▸hB5.setThere k hk12 false;have e3:=hB6.value k hk12;have e4:=hB6.free (12+k);obtain⟨X7,hX7⟩:∃ X7,X6.setCell ⟨q,12+k,none⟩ (.string ⟨#[]⟩)=X7:=⟨_,rfl⟩;have hB7:BookAt X7 q (th.set k false) (vs.set k ⟨#[]⟩):=hX7▸hB6.setValue k hk12 ⟨#[]⟩;have hS7:=(hX7▸(hX6▸hS5.poke ⟨q,k,none⟩ H.out.own _:SkO keyL n Kp X6 X6 d b j m o ao true x _).poke ⟨q,12+k,none⟩ H.out.own _:SkO keyL n Kp X7 X7 d b j m o ao true x _);have HO:Hid (On (fun k=>Kp k∧k≠q) wq X7):=(by have o1:On (fun k=>Kp k∧k≠q) wq X5:=hS5.kept.mono (fun i hi=>hi.1);rw [← hX7,← hX6];exact(o1.setCell (p:=⟨q,k,none⟩) (fun e=>e.2 rfl) _).setCell (p:=⟨q,12+k,none⟩) (fun e=>e.2 rfl) _)))
   go_ret
   obtain⟨fs,hro,_⟩:=H.out.rooted
   have hgd:(⟨keyL[k]'hk12,⟨#[]⟩,true⟩:Ch).good:=put_good k hk12 ⟨#[]⟩ (by decide) true
   obtain⟨w1,w2,w3⟩:=H.out.ok.with (by omega) ⟨keyL[k]'hk12,⟨#[]⟩,true⟩ hgd (key_at k hk12)
   exact⟨rfl,_,_,_,⟨hS7,w1,hB7,H.out.own,H.out.told.change (oents_rise hro) H.out.ok.rise k hk12 ⟨#[]⟩ true⟩,w3,HO.out⟩
  | false =>
   go_enter Tryz.func17,Tryz.ntmps17
   go_wp2_with (first
    | (go_at_call 20;(with_reducible refine Calls.mono hP1 ?_);rintro e X ⟨rfl,hX⟩;subst X)
    | (go_at_call 20;(with_reducible refine Calls.mono hP2 ?_);rintro e X ⟨rfl,hX⟩;subst X)
    | (go_at_call 22;(with_reducible refine Calls.mono hKy ?_);rintro e X4 ⟨rfl,hb4⟩;have hDe:=del_k (H.out.st.step hb4) (keyL[k]'hk12) H.out.ok.rise H.out.ok.len ks.1 ks.2)
    | (go_at_call 23;(with_reducible refine Calls.mono hDe ?_);rintro e X5 ⟨z,cs',rfl,hS5,hor⟩;obtain⟨rfl,rfl⟩:z=5∧cs'=cs:=(by rcases hor with⟨h1,h2,h3⟩|⟨h1,h2,h3⟩;(rw [hfo] at h1;cases h1);exact⟨h2,h3⟩);clear hor;have hB5:=H.out.book.on hS5.kept H.out.own;have e1:=hB5.there k hk12;rw [hfb] at e1;have e2:=hB5.free k;obtain⟨X6,hX6⟩:∃ X6,X5.setCell ⟨q,k,none⟩ (.bool false)=X6:=⟨_,rfl⟩;have hB6:BookAt X6 q (th.set k false) vs:=hX6▸hB5.setThere k hk12 false;have e3:=hB6.value k hk12;have e4:=hB6.free (12+k);obtain⟨X7,hX7⟩:∃ X7,X6.setCell ⟨q,12+k,none⟩ (.string ⟨#[]⟩)=X7:=⟨_,rfl⟩;have hB7:BookAt X7 q (th.set k false) (vs.set k ⟨#[]⟩):=hX7▸hB6.setValue k hk12 ⟨#[]⟩;have hS7:=(hX7▸(hX6▸hS5.poke ⟨q,k,none⟩ H.out.own _:SkO keyL n Kp X6 X6 d b j m o ao true x _).poke ⟨q,12+k,none⟩ H.out.own _:SkO keyL n Kp X7 X7 d b j m o ao true x _);have HO:Hid (On (fun k=>Kp k∧k≠q) wq X7):=(by have o1:On (fun k=>Kp k∧k≠q) wq X5:=hS5.kept.mono (fun i hi=>hi.1);rw [← hX7,← hX6];exact(o1.setCell (p:=⟨q,k,none⟩) (fun e=>e.2 rfl) _).setCell (p:=⟨q,12+k,none⟩) (fun e=>e.2 rfl) _)))
   go_ret
   exact⟨rfl,_,_,_,⟨hS7,H.out.ok,hB7,H.out.own,H.out.told.blank k hk12 ⟨#[]⟩ hfb⟩,by omega,HO.out⟩
theorem rising_eq:∀ {a b:List ByteArray},a.Pairwise (fun x y=>lt x y=true)→b.Pairwise (fun x y=>lt x y=true)→(∀ x,x∈a↔x∈b)→a=b
 | [],[],_,_,_=>rfl
 | [],y :: b,_,_,h=>by have:=(h y).2 (by simp);simp at this
 | x :: a,[],_,_,h=>by have:=(h x).1 (by simp);simp at this
 | x :: a,y :: b,ha,hb,h=>by
  obtain⟨ha1,ha2⟩:=List.pairwise_cons.1 ha
  obtain⟨hb1,hb2⟩:=List.pairwise_cons.1 hb
  have hxy:x=y:=by
   rcases List.mem_cons.1 ((h x).1 (by simp)) with e|hx
   ·exact e
   ·rcases List.mem_cons.1 ((h y).2 (by simp)) with e|hy
    ·exact e.symm
    ·have h1:=hb1 x hx
     have h2:=ha1 y hy
     rw [lt_asymm h1] at h2;cases h2
  subst hxy
  congr 1
  refine rising_eq ha2 hb2 fun z=>⟨fun hz=>?_,fun hz=>?_⟩
  ·rcases List.mem_cons.1 ((h z).1 (by simp [hz])) with e|hz'
   ·subst e;have:=ha1 z hz;rw [lt_irrefl] at this;cases this
   ·exact hz'
  ·rcases List.mem_cons.1 ((h z).2 (by simp [hz])) with e|hz'
   ·subst e;have:=hb1 z hz;rw [lt_irrefl] at this;cases this
   ·exact hz'
theorem keyL_rise:keyL.Pairwise (fun x y=>lt x y=true):=by decide +kernel
def onL (th:List Bool):List (ByteArray×Bool):=keyL.zip th
def cnt (th:List Bool) (k:Nat):Nat:=(((onL th).take k).filter (·.2)).length
theorem onL_len {th:List Bool} (h:th.length=12):(onL th).length=12:=by simp [onL,h,show keyL.length=12 from rfl]
theorem onL_at {th:List Bool} (h:th.length=12) (k:Nat) (hk:k<12):(onL th)[k]'(by rw [onL_len h];exact hk)=(keyL[k]'hk,th[k]'(by omega)):=by
 simp only [onL,List.getElem_zip]
 rfl
theorem cnt_zero (th:List Bool):cnt th 0=0:=by simp [cnt]
theorem cnt_succ {th:List Bool} (h:th.length=12) (k:Nat) (hk:k<12):cnt th (k+1)=cnt th k+(if th[k]'(by omega)=true then 1 else 0):=by
 unfold cnt
 rw [List.take_succ_eq_append_getElem (by rw [onL_len h];exact hk),List.filter_append,List.length_append,onL_at h k hk]
 cases th[k]'(by omega)<;>rfl
theorem told_keys {xs:List En} {th:List Bool} {vs:List ByteArray} (h:Told xs th vs):xs.map (fun x=>x.e.key)=((onL th).filter (·.2)).map (·.1):=by
 have hl:=onL_len h.lt
 refine rising_eq (List.pairwise_map.2 h.rise) ?_ fun key=>⟨fun hx=>?_,fun hx=>?_⟩
 ·have:(((onL th).filter (·.2)).map (·.1)).Sublist keyL:=by
   have h1:(((onL th).filter (·.2)).map (·.1)).Sublist ((onL th).map (·.1)):=List.Sublist.map _ List.filter_sublist
   rw [show (onL th).map (·.1)=keyL from List.map_fst_zip (by rw [h.lt];decide)] at h1
   exact h1
  exact List.Pairwise.sublist this keyL_rise
 ·obtain⟨x,hx1,rfl⟩:=List.mem_map.1 hx
  obtain⟨k,hk,e⟩:=List.getElem_of_mem (h.keys x hx1)
  have ht:=h.tells k hk
  have hv:valOf xs (keyL[k]'hk)=some x.value:=(valOf_some h.rise).2 ⟨x,hx1,e.symm,rfl⟩
  rw [hv] at ht
  have hth:th[k]'(by have:=h.lt;have:k<12:=hk;omega)=true:=by
   cases hq:th[k]'(by have:=h.lt;have:k<12:=hk;omega) with
   | true=>rfl
   | false=>rw [hq] at ht;simp at ht
  refine List.mem_map.2 ⟨(keyL[k]'hk,true),List.mem_filter.2 ⟨?_,rfl⟩,e⟩
  rw [← hth,← onL_at h.lt k hk]
  exact List.getElem_mem _
 ·obtain⟨p,hp,rfl⟩:=List.mem_map.1 hx
  obtain⟨hp1,hp2⟩:=List.mem_filter.1 hp
  obtain⟨k,hk,e⟩:=List.getElem_of_mem hp1
  rw [hl] at hk
  rw [onL_at h.lt k hk] at e
  subst e
  have ht:=h.tells k hk
  rw [show th[k]'(by have:=h.lt;omega)=true from hp2] at ht
  obtain⟨x,hx1,e1,_⟩:=(valOf_some h.rise).1 (ht.trans (if_pos rfl))
  exact List.mem_map.2 ⟨x,hx1,e1⟩
theorem told_len {xs:List En} {th:List Bool} {vs:List ByteArray} (h:Told xs th vs):xs.length=cnt th 12:=by
 have:=congrArg List.length (told_keys h)
 rw [List.length_map,List.length_map] at this
 rw [this,cnt,List.take_of_length_le (by rw [onL_len h.lt];exact Nat.le_refl _)]
theorem told_at {xs:List En} {th:List Bool} {vs:List ByteArray} (h:Told xs th vs) (k:Nat) (hk:k<12) (ht:th[k]'(by have:=h.lt;omega)=true):∃ hc:cnt th k<xs.length,(xs[cnt th k]).e.key=keyL[k]'hk∧(xs[cnt th k]).value=(vs[k]'(by have:=h.lv;omega)).data.toList:=by
 have hl:=onL_len h.lt
 have hks:=told_keys h
 have hsplit:(onL th).filter (·.2)=((onL th).take k).filter (·.2)++(keyL[k]'hk,true) :: ((onL th).drop (k+1)).filter (·.2):=by
  conv=>lhs;rw [← List.take_append_drop k (onL th),List.filter_append,List.drop_eq_getElem_cons (by rw [hl];exact hk),onL_at h.lt k hk,ht,List.filter_cons,if_pos rfl]
 have hlen:=congrArg List.length hks
 rw [List.length_map,List.length_map,hsplit,List.length_append,List.length_cons] at hlen
 have hc:cnt th k<xs.length:=by unfold cnt;omega
 have hkey:(xs[cnt th k]).e.key=keyL[k]'hk:=by
  have h1:(xs.map (fun x=>x.e.key))[cnt th k]?=some (xs[cnt th k]).e.key:=by rw [List.getElem?_map,List.getElem?_eq_getElem hc];rfl
  obtain⟨y,hy⟩:∃ y,(xs[cnt th k]).e.key=y:=⟨_,rfl⟩
  rw [hy] at h1 ⊢
  rw [hks,hsplit,List.getElem?_map] at h1
  unfold cnt at h1
  rw [List.getElem?_append_right (Nat.le_refl _),Nat.sub_self] at h1
  simpa using h1.symm
 refine⟨hc,hkey,?_⟩
 have hv:valOf xs (keyL[k]'hk)=some (xs[cnt th k]).value:=(valOf_some h.rise).2 ⟨_,List.getElem_mem hc,hkey,rfl⟩
 have htl:=h.tells k hk
 rw [hv,ht] at htl
 simpa using htl
theorem pcells_at:∀ {l:List En} {j:Nat} (hj:j<l.length),(pcells l)[j * 2]?=some (.string (l[j]).e.key)∧(pcells l)[j * 2+1]?=some (.string ⟨(l[j]).value.toArray⟩)
 | [],j,hj=>by simp at hj
 | x :: l,0,hj=>by simp [pcells]
 | x :: l,j+1,hj=>by
  have:=pcells_at (l:=l) (j:=j) (by simpa using hj)
  have e1:(j+1) * 2=j * 2+2:=by omega
  have e2:(j+1) * 2+1=j * 2+1+2:=by omega
  rw [e2,e1]
  simpa [pcells] using this
theorem cnt_le (th:List Bool) (h:th.length=12) (k:Nat):cnt th k≤12:=by
 unfold cnt
 refine Nat.le_trans (List.length_filter_le _ _) ?_
 rw [List.length_take,onL_len h];omega
theorem bytes_back (v:ByteArray):(⟨v.data.toList.toArray⟩:ByteArray)=v:=by simp
structure SeeSt (n:Nat) (Kp:Bl) (w wq:World) (d b j m:Nat) (o ao:Option (Nat×T)) (wb:Bool) (x:Int) (cs:List Ch) (q:Nat) (th:List Bool) (vs:List ByteArray) (v:Value) (xs:List En):Prop where
 st:SkO keyL n Kp w wq d b j m o ao wb x cs
 book:BookAt wq q th vs
 row:wq.ownsRow 0 93 2 v xs.length (pcells xs)
 nq:q≠d
 nv:v.ownBlock≠some d
theorem SeeSt.step {n:Nat} {Kp:Bl} {w wq w':World} {d b j m:Nat} {o ao:Option (Nat×T)} {wb:Bool} {x:Int} {cs:List Ch} {q:Nat} {th:List Bool} {vs:List ByteArray} {v:Value} {xs:List En} (h:SeeSt n Kp w wq d b j m o ao wb x cs q th vs v xs) (hb:Below wq.heap.size wq w'):SeeSt n Kp w w' d b j m o ao wb x cs q th vs v xs:=by
 have hq:q<wq.heap.size:=(Array.getElem?_eq_some_iff.1 h.book.box).1
 exact⟨h.st.step hb,h.book.on (On.of_below hb (Y:=Bl.one q) (fun i hi=>by simp only [Bl.one] at hi;omega)) rfl,own_on h.row (On.of_below hb (Y:=fun k=>v.ownBlock=some k) (fun k hk=>own_lt h.row hk)) (fun k hk=>hk),h.nq,h.nv⟩
theorem SeeSt.read {n:Nat} {Kp:Bl} {w wq w':World} {d b j m:Nat} {o ao:Option (Nat×T)} {wb:Bool} {x:Int} {cs:List Ch} {q:Nat} {th:List Bool} {vs:List ByteArray} {v:Value} {xs:List En} (h:SeeSt n Kp w wq d b j m o ao wb x cs q th vs v xs) (hs:SkO keyL n Kp w w' d b j m o ao wb x cs) (hF:Fr (Bl.one d) wq w'):SeeSt n Kp w w' d b j m o ao wb x cs q th vs v xs :=
 ⟨hs,⟨hF.heap h.book.box (fun e=>by simp only [Bl.one] at e;exact h.nq e),h.book.lt,h.book.lv⟩,own_keep h.row hF (fun k hk e=>by simp only [Bl.one] at e;subst e;exact h.nv hk),h.nq,h.nv⟩
theorem SkO.lies {K:List ByteArray} {n:Nat} {Kp:Bl} {w wq:World} {d b j m:Nat} {o ao:Option (Nat×T)} {wb:Bool} {x:Int} {cs:List Ch} (h:SkO K n Kp w wq d b j m o ao wb x cs):d<wq.heap.size:=by
 obtain⟨D,h,_,rfl,_⟩:=h
 exact(Array.getElem?_eq_some_iff.1 h.db.box).1
theorem SkO.rooted {K:List ByteArray} {n:Nat} {Kp:Bl} {w wq:World} {d b j m:Nat} {o ao:Option (Nat×T)} {wb:Bool} {x:Int} {cs:List Ch} (h:SkO K n Kp w wq d b j m o ao wb x cs):∃ fs,Rooted fs (rootOf o) o:=by
 obtain⟨D,hD,_⟩:=h
 exact⟨D.fs,hD.store.sure.rooted⟩
theorem sees_any {n:Nat} {Kp:Bl} {w wq:World} {d b j m:Nat} {o ao:Option (Nat×T)} {wb:Bool} {x:Int} {cs:List Ch} (h:SkO keyL n Kp w wq d b j m o ao wb x cs) (hc:CsOk keyL cs) (th:List Bool) (vs:List ByteArray) (ht:Told (overE (oents o) cs) th vs) :
  Calls Tryz.prog 18 #[.pointer (some ⟨d,0,none⟩),.int .i64 x,.agg (bookC th vs)] wq fun e w'=>e=.returned (.bool true)∧SkO keyL n Kp w w' d b j m o ao wb x cs:=by
 obtain⟨W1,hW1⟩:∃ W1,wq.alloc (.cells (bookC th vs) 30)=W1:=⟨_,rfl⟩
 have b1:Below wq.heap.size wq W1:=hW1▸(Below.refl _ _).alloc (Nat.le_refl _) _
 have x1:BookAt W1 wq.heap.size th vs:=⟨hW1▸heap_new wq _,ht.lt,ht.lv⟩
 have z1:W1.heap.size=wq.heap.size+1:=by rw [← hW1];simp
 have hd:=h.lies
 obtain⟨fs,hro⟩:=h.rooted
 have hall:=seenE_all hro cs
 obtain⟨xs,hxs⟩:∃ xs,overE (oents o) cs=xs:=⟨_,rfl⟩
 rw [hxs] at ht hall
 have hlen:xs.length=cnt th 12:=told_len ht
 have hl12:xs.length≤12:=hlen▸cnt_le th ht.lt 12
 have hSc:=scan_k (h.step b1) hc whole 100 (by decide) (by decide) (by rw [hall];omega) (by decide)
 rw [hall] at hSc
 have HX:Hid (overE (oents o) cs=xs):=hxs
 have HL:Hid (xs.length=cnt th 12):=hlen
 have HC:Hid (CsOk keyL cs):=hc
 have HZ:Hid (W1.heap.size=wq.heap.size+1):=z1
 clear hxs hlen hc hall hro z1
 go_enter Tryz.func18,Tryz.ntmps18
 go_wp2_with (go_at_call 34;(with_reducible refine Calls.mono hSc ?_);rintro e X ⟨v,rfl,hSX,hFX,hrow,hli⟩;obtain⟨va,vc,rfl⟩:=own_shape hrow;have HS0:SeeSt n Kp w X d b j m o ao wb x cs wq.heap.size th vs (.slice va xs.length vc) xs:=⟨hSX,⟨hFX.heap x1.box (fun e=>by simp only [Bl.one] at e;omega),x1.lt,x1.lv⟩,hrow,by omega,fun e=>by have:=hli _ e;have:=HZ.out;omega⟩)
 go_loopw [7,10] (fun nn kk wr=>∃ k:Nat,kk=.int .i64 k∧k≤12∧nn=.int .i64 (cnt th k:Nat)∧SeeSt n Kp w wr d b j m o ao wb x cs wq.heap.size th vs (.slice va xs.length vc) xs) (fun _ kk _=>12-(intOf kk).toNat)
 case atStart=>exact⟨0,rfl,by omega,by rw [cnt_zero];rfl,HS0⟩
 case round =>
  obtain⟨k,rfl,hk,rfl,HS⟩:=hrel
  by_cases hlt:k<12
  ·have hki:(k:Int)<12:=by omega
   have hKy:∀ X,Calls Tryz.prog 22 #[.int .i64 (k:Nat)] X fun e w'=>e=.returned (.string (keyL[k]'hlt))∧Below X.heap.size X w':=fun X=>key_any k hlt X
   have ks:=key_size _ (key_at k hlt)
   have htl:=ht.tells k hlt
   have hcs:=cnt_succ ht.lt k hlt
   have hta:=told_at ht k hlt
   obtain⟨kk,hkk⟩:∃ kk,keyL[k]'hlt=kk:=⟨_,rfl⟩
   simp only [hkk] at hKy ks htl hta
   have HKY:Hid (∀ X,Calls Tryz.prog 22 #[.int .i64 (k:Nat)] X fun e w'=>e=.returned (.string kk)∧Below X.heap.size X w'):=hKy
   have hK1:=hKy wr
   obtain⟨vv,hvv⟩:∃ vv,vs[k]'(by have:=ht.lv;omega)=vv:=⟨_,rfl⟩
   obtain⟨tt,htt⟩:∃ tt,th[k]'(by have:=ht.lt;omega)=tt:=⟨_,rfl⟩
   simp only [hvv,htt] at htl hta hcs
   have HSN:Hid (SeeSt n Kp w wr d b j m o ao wb x cs wq.heap.size th vs (.slice va xs.length vc) xs):=HS
   have hSV:seenV o cs kk=if tt=true then some vv.data.toList else none:=by unfold seenV;rw [HX.out];exact htl
   clear hKy htl HS hkk
   cases tt with
   | false =>
    have HCN:Hid (cnt th (k+1)=cnt th k):=by show _=_;rw [hcs];rfl
    clear hcs hta
    go_wp2_with (first
     | (go_at_call 22;(with_reducible refine Calls.mono hK1 ?_);rintro e X1 ⟨rfl,hb1⟩;have hG:=get_k (HSN.out.step hb1).st HC.out kk ks.1 ks.2)
     | (go_at_call 35;(with_reducible refine Calls.mono hG ?_);rintro e X2 ⟨v2,z,rfl,hS2,hF2,hor⟩;obtain rfl:z=5:=(by rcases hor with⟨_,h2,_⟩|⟨l,h1,_⟩;exact h2;(rw [hSV] at h1;simp at h1));clear hor;have hN2:=(HSN.out.step hb1).read hS2 hF2;have e1:=hN2.book.there k hlt;rw [htt] at e1))
    refine⟨⟨k+1,by go_num,by omega,by rw [HCN.out],hN2⟩,by simp [intOf];omega⟩
   | true =>
    have HCN:Hid (cnt th (k+1)=cnt th k+1):=by show _=_;rw [hcs];rfl
    obtain⟨hci,hck,hcv⟩:=hta rfl
    obtain⟨pc0,pc1⟩:=pcells_at hci
    rw [hck] at pc0
    rw [hcv,bytes_back] at pc1
    rw [if_pos rfl] at hSV
    obtain⟨c,hcn⟩:∃ c,cnt th k=c:=⟨_,rfl⟩
    have HCK:Hid (cnt th k=c):=hcn
    simp only [hcn] at pc0 pc1 hci ⊢
    clear hcs hta hck hcv hcn
    have hci':(c:Int)<(xs.length:Int):=by omega
    go_wp2_with (first
     | (go_at_call 22;(with_reducible refine Calls.mono hK1 ?_);rintro e X1 ⟨rfl,hb1⟩;have hG:=get_k (HSN.out.step hb1).st HC.out kk ks.1 ks.2)
     | (go_at_call 35;(with_reducible refine Calls.mono hG ?_);rintro e X2 ⟨v2,z,rfl,hS2,hF2,hor⟩;obtain⟨rfl,rfl⟩:z=0∧v2=vv:=(by rcases hor with⟨h1,_⟩|⟨l,h1,h2,h3⟩;(rw [hSV] at h1;cases h1);(rw [hSV] at h1;cases h1;exact⟨h2,h3.trans (bytes_back vv)⟩));clear hor;have hN2:=(HSN.out.step hb1).read hS2 hF2;have e1:=hN2.book.there k hlt;rw [htt] at e1;have e2:=hN2.book.value k hlt;rw [hvv] at e2;obtain⟨g,hg,hgl,hgc,e3⟩:=own_get hN2.row pc0;obtain⟨g',hg',_,_,e4⟩:=own_get hN2.row pc1;subst hg;obtain rfl:g=g':=(by simpa using hg');clear hg'))
    have hnge:decide ((xs.length:Int)≤(c:Int))=false:=by simp;omega
    have hnge2:¬ ((xs.length:Int)≤(c:Int)):=by omega
    clear hSV hvv htt pc0 pc1 hK1 hG hS2 hF2
    go_region_held3 (fun X=>X.cell? ⟨wq.heap.size,12+k,none⟩=some (.string v2)∧X.cell? ⟨g,c * 2,none⟩=some (.string kk)∧X.cell? ⟨g,c * 2+1,none⟩=some (.string v2))
     ((first|(with_reducible exact⟨f2,f3,f4⟩)|(with_reducible exact⟨e2,e3,e4⟩)|exact⟨e2,e3,e4⟩))
     ((go_at_call 22;(with_reducible refine Calls.mono (HKY.out _) ?_);rintro e X3 ⟨rfl,hb3⟩;have hb3':Below X2.heap.size X2 X3:=(Below.refl _ _).drew.trans hb3;have hN3:=hN2.step hb3';have hq2:wq.heap.size<X2.heap.size:=(Array.getElem?_eq_some_iff.1 hN2.book.box).1;have f2:=(World.cell?_of_block (w:=X2) (a:=⟨wq.heap.size,12+k,none⟩) (hb3'.block _ hq2)).trans e2;have f3:=(World.cell?_of_block (w:=X2) (a:=⟨g,c * 2,none⟩) (hb3'.block _ hgl)).trans e3;have f4:=(World.cell?_of_block (w:=X2) (a:=⟨g,c * 2+1,none⟩) (hb3'.block _ hgl)).trans e4))
    go_wp2
    refine⟨⟨k+1,by go_num,by omega,?_,hN3⟩,by simp [intOf];omega⟩
    rw [HCN.out,HCK.out]
    go_num
  ·obtain rfl:k=12:=by omega
   have hnl:cnt th 12=xs.length:=HL.out.symm
   rw [hnl]
   clear hnl
   go_wp2
   go_ret
   exact⟨rfl,HS.st⟩
theorem bookC_size {th:List Bool} {vs:List ByteArray} (h1:th.length=12) (h2:vs.length=12):(bookC th vs).size=24:=by simp [bookC,h1,h2]
theorem infoBook:(Tryz.prog.info? 30).map (·.size)=some 24:=by kernel_rfl
theorem bookRow:∃ d,Tryz.prog.underlying 30=some d∧d.isRow=true:=⟨_,Tryz.underlying30,rfl⟩
theorem BookAt.range {w:World} {q:Nat} {th:List Bool} {vs:List ByteArray} (h:BookAt w q th vs):w.rangeAt q 0 (bookC th vs).toList:=by
 intro j v hv
 simp [World.cell?,h.box,Array.getElem?_toList] at hv ⊢
 exact hv
theorem wp_book {ops:Array Oper} {rest:List Oper} {op:Oper} {a:Act} {w:World} {Q:Exit→Act→World→Prop} (hgd:op.guard=none) (x:Operand) (ho:op.op=.load 30 x) (q:Nat) (hx:a.eval x=.pointer (some ⟨q,0,none⟩)) {th:List Bool} {vs:List ByteArray} (hb:BookAt w q th vs)
  (h:wpList Tryz.prog ops Q rest (a.put op.dst (.agg (bookC th vs))) w):wpList Tryz.prog ops Q (op :: rest) a w:=by
 obtain⟨d,h1,h2⟩:=bookRow
 exact wpList_load_mid hgd _ x ho q 0 hx (bookC th vs).toList d hb.range h1 h2 (by rw [infoBook,Array.length_toList,bookC_size hb.lt hb.lv]) (by simpa using h)
theorem Sk.less {K:List ByteArray} {n:Nat} {Kp Kq:Bl} {w wq:World} {D:Db} {j m:Nat} {o ao:Option (Nat×T)} (h:Sk K n Kp w wq D j m o ao) (w0:World) (hs:∀ k,Kq k→Kp k) (ho:On Kq w0 w) (hl:∀ k,Kq k→k<w0.heap.size):Sk K n Kq w0 wq D j m o ao :=
 ⟨h.db,h.well,h.failed,h.ver,h.root,h.aroot,h.last0,h.last1,h.store,fun k hk hq=>h.new k hk (hs k hq),ho.trans (h.kept.mono hs),hl⟩
theorem SkL.make {K:List ByteArray} {n:Nat} {Kp:Bl} {w wq:World} {d b j m:Nat} {o ao:Option (Nat×T)} (h:SkL K n Kp w wq d b j m o ao) (ob:Obj):SkL K n (Bl.or Kp (Bl.one wq.heap.size)) (wq.alloc ob) (wq.alloc ob) d b j m o ao:=by
 obtain⟨D,h,r⟩:=h
 exact⟨D,h.make ob,r⟩
theorem SkL.less {K:List ByteArray} {n:Nat} {Kp Kq:Bl} {w wq:World} {d b j m:Nat} {o ao:Option (Nat×T)} (h:SkL K n Kp w wq d b j m o ao) (w0:World) (hs:∀ k,Kq k→Kp k) (ho:On Kq w0 w) (hl:∀ k,Kq k→k<w0.heap.size):SkL K n Kq w0 wq d b j m o ao:=by
 obtain⟨D,h,r⟩:=h
 exact⟨D,h.less w0 hs ho hl,r⟩
theorem SkL.kept {K:List ByteArray} {n:Nat} {Kp:Bl} {w wq:World} {d b j m:Nat} {o ao:Option (Nat×T)} (h:SkL K n Kp w wq d b j m o ao):On Kp w wq:=by
 obtain⟨D,h,_⟩:=h
 exact h.kept
theorem SkL.below {K:List ByteArray} {n:Nat} {Kp:Bl} {w wq:World} {d b j m:Nat} {o ao:Option (Nat×T)} (h:SkL K n Kp w wq d b j m o ao):∀ k,Kp k→k<w.heap.size:=by
 obtain⟨D,h,_⟩:=h
 exact h.lies
theorem shows_any {n:Nat} {Kp:Bl} {w wq:World} {d b j m:Nat} {o ao:Option (Nat×T)} (h:SkL keyL n Kp w wq d b j m o ao) (th:List Bool) (vs:List ByteArray) (ht:Told (oents o) th vs) (hm:m≤1000000) :
  Calls Tryz.prog 11 #[.pointer (some ⟨d,0,none⟩),.agg (bookC th vs)] wq fun e w'=>e=.returned (.bool true)∧SkL keyL n Kp w w' d b j (m+1) o ao:=by
 obtain⟨W1,hW1⟩:∃ W1,wq.alloc (.cells (bookC th vs) 30)=W1:=⟨_,rfl⟩
 have b1:Below wq.heap.size wq W1:=hW1▸(Below.refl _ _).alloc (Nat.le_refl _) _
 have x1:BookAt W1 wq.heap.size th vs:=⟨hW1▸heap_new wq _,ht.lt,ht.lv⟩
 have HM:SkL keyL n (Bl.or Kp (Bl.one wq.heap.size)) W1 W1 d b j m o ao:=hW1▸h.make _
 have hBg:=begin_k HM false hm
 have HK:Hid (On Kp w W1):=h.kept.trans (On.of_below b1 (fun k hk=>Nat.lt_of_lt_of_le (h.below k hk) h.kept.size))
 have HL:Hid (∀ k,Kp k→k<w.heap.size):=h.below
 have hc0:CsOk keyL []:=⟨.nil,by simp,by simp,by simp⟩
 have HT:Hid (Told (overE (oents o) []) th vs):=by rw [over_none ht.rise];exact ht
 clear h ht HM
 go_enter Tryz.func11,Tryz.ntmps11
 go_wp2_with (first
  | (go_at_call 16;(with_reducible refine Calls.mono hBg ?_);rintro e X2 ⟨x,rfl,hS2⟩;have x2:BookAt X2 wq.heap.size th vs:=x1.on hS2.kept (.inr rfl);have hSe:=sees_any hS2 hc0 th vs HT.out)
  | (refine wp_book rfl (.tmp 3) rfl wq.heap.size rfl x2 ?_)
  | (go_at_call 18;(with_reducible refine Calls.mono hSe ?_);rintro e X3 ⟨rfl,hS3⟩;have hCo:=com0_k hS3)
  | (go_at_call 24;(with_reducible refine Calls.mono hCo ?_);rintro e X4 ⟨rfl,hS4⟩))
 go_ret
 exact⟨rfl,hS4.less w (fun k hk=>.inl hk) HK.out HL.out⟩
theorem Fr.setCells {Y:Bl} (q:Nat) (hq:Y q):∀ (vs:List Value) (o:Nat) (w:World),Fr Y w (w.setCells q o vs)
 | [],_,w=>Fr.refl Y w
 | v :: vs,o,w=>((Fr.refl Y w).setCell (p:=⟨q,o,none⟩) (.inl hq) v).trans ((Fr.setCells q hq vs (o+1) _).mono (fun k hk=>.inl hk))
theorem heap_setCells {q:Nat} {t:TypeId}:∀ (vs:List Value) (o:Nat) (w:World) (pre old post:List Value),w.heap[q]?=some (.cells (pre++old++post).toArray t)→pre.length=o→old.length=vs.length→(w.setCells q o vs).heap[q]?=some (.cells (pre++vs++post).toArray t)
 | [],o,w,pre,old,post,h,_,hl=>by
  obtain rfl:old=[]:=List.eq_nil_of_length_eq_zero hl
  exact h
 | v :: vs,o,w,pre,[],post,h,_,hl=>by simp at hl
 | v :: vs,o,w,pre,u :: old,post,h,hp,hl=>by
  have h1:=set_of h o v
  have e:(pre++u :: old++post).toArray.setIfInBounds o v=((pre++[v])++old++post).toArray:=by
   simp only [List.setIfInBounds_toArray,List.append_assoc,List.cons_append,List.nil_append]
   rw [List.set_append_right _ _ (by omega),show o-pre.length=0 by omega]
   rfl
  rw [e] at h1
  have:=heap_setCells vs (o+1) _ (pre++[v]) old post h1 (by simp [hp]) (by simpa using hl)
  rw [World.setCells]
  simpa using this
theorem bookC_one (th:List Bool) (vs:List ByteArray):(bookC th vs).all (·.oneCell')=true:=by
 unfold bookC
 refine all_oneCell_toArray fun v hv=>?_
 rcases List.mem_append.1 hv with h|h
 ·obtain⟨b,_,rfl⟩:=List.mem_map.1 h;rfl
 ·obtain⟨b,_,rfl⟩:=List.mem_map.1 h;rfl
theorem BookAt.all {w:World} {q:Nat} {th th':List Bool} {vs vs':List ByteArray} (h:BookAt w q th vs) (h1:th'.length=12) (h2:vs'.length=12):BookAt (w.setCells q 0 (bookC th' vs').toList) q th' vs':=by
 refine⟨?_,h1,h2⟩
 have hb:=h.box
 have:=heap_setCells (q:=q) (t:=30) (bookC th' vs').toList 0 w [] (bookC th vs).toList [] (by simpa using hb) rfl (by rw [Array.length_toList,Array.length_toList,bookC_size h.lt h.lv,bookC_size h1 h2])
 simpa using this
theorem wp_bookst {ops:Array Oper} {rest:List Oper} {op:Oper} {a:Act} {w:World} {Q:Exit→Act→World→Prop} (hgd:op.guard=none) (x y:Operand) (ho:op.op=.store 30 x y) (q:Nat) (hx:a.eval x=.pointer (some ⟨q,0,none⟩)) {th th':List Bool} {vs vs':List ByteArray} (hy:a.eval y=.agg (bookC th' vs')) (hb:BookAt w q th vs) (h1:th'.length=12) (h2:vs'.length=12)
  (h:∀ w',BookAt w' q th' vs'→Fr (Bl.one q) w w'→wpList Tryz.prog ops Q rest (a.put op.dst undef) w'):wpList Tryz.prog ops Q (op :: rest) a w:=by
 refine wpList_store_mid hgd _ x y ho q 0 (bookC th' vs') hx hy (fun j hj=>⟨?_,?_⟩) (by rw [infoBook,bookC_size h1 h2]) (bookC_one _ _) ?_
 ·rw [Nat.zero_add]
  have hz:=bookC_size hb.lt hb.lv
  rw [bookC_size h1 h2] at hj
  simp [World.cell?,hb.box,hz,hj]
 ·rw [Nat.zero_add];exact hb.free j
 ·exact h _ (hb.all h1 h2) (Fr.setCells (Y:=Bl.one q) q rfl _ _ _)
theorem Sk.touch {K:List ByteArray} {n:Nat} {Kp:Bl} {w wq w':World} {D:Db} {j m:Nat} {o ao:Option (Nat×T)} (h:Sk K n Kp w wq D j m o ao) {q:Nat} (hF:Fr (Bl.one q) wq w') (hq:Kp q):Sk K n Kp w' w' D j m o ao:=by
 have h':=h.now
 refine⟨h.db.on (hF.on (fun k hk=>⟨h.db.lies k hk,fun e=>by simp only [Bl.one] at e;subst e;exact h.new _ hk hq⟩)),h.well,h.failed,h.ver,h.root,h.aroot,h.last0,h.last1,h.store,h.new,On.refl _ _,fun k hk=>Nat.lt_of_lt_of_le (h'.lies k hk) hF.size⟩
theorem SkO.make {K:List ByteArray} {n:Nat} {Kp:Bl} {w wq:World} {d b j m:Nat} {o ao:Option (Nat×T)} {wb:Bool} {x:Int} {cs:List Ch} (h:SkO K n Kp w wq d b j m o ao wb x cs) (ob:Obj):SkO K n (Bl.or Kp (Bl.one wq.heap.size)) (wq.alloc ob) (wq.alloc ob) d b j m o ao wb x cs:=by
 obtain⟨D,h,r⟩:=h
 exact⟨D,h.make ob,r⟩
theorem SkO.touch {K:List ByteArray} {n:Nat} {Kp:Bl} {w wq w':World} {d b j m:Nat} {o ao:Option (Nat×T)} {wb:Bool} {x:Int} {cs:List Ch} (h:SkO K n Kp w wq d b j m o ao wb x cs) {q:Nat} (hF:Fr (Bl.one q) wq w') (hq:Kp q):SkO K n Kp w' w' d b j m o ao wb x cs:=by
 obtain⟨D,h,r⟩:=h
 exact⟨D,h.touch hF hq,r⟩
theorem SkL.touch {K:List ByteArray} {n:Nat} {Kp:Bl} {w wq w':World} {d b j m:Nat} {o ao:Option (Nat×T)} (h:SkL K n Kp w wq d b j m o ao) {q:Nat} (hF:Fr (Bl.one q) wq w') (hq:Kp q):SkL K n Kp w' w' d b j m o ao:=by
 obtain⟨D,h,r⟩:=h
 exact⟨D,h.touch hF hq,r⟩
theorem ver_o {K:List ByteArray} {n:Nat} {Kp:Bl} {w wq:World} {d b j m:Nat} {o ao:Option (Nat×T)} {wb:Bool} {x:Int} {cs:List Ch} (h:SkO K n Kp w wq d b j m o ao wb x cs) :
  Calls Tryz.prog 15 #[.pointer (some ⟨d,0,none⟩)] wq fun e w'=>e=.returned (.int .i64 (j:Nat))∧SkO K n Kp w w' d b j m o ao wb x cs:=by
 obtain⟨D,h,r,rfl,r2⟩:=h
 refine(ver_k h).mono ?_
 rintro e w' ⟨rfl,h'⟩
 exact⟨rfl,D,h',r,rfl,r2⟩
theorem ver_i {K:List ByteArray} {n:Nat} {Kp:Bl} {w wq:World} {d b j m:Nat} {o ao:Option (Nat×T)} (h:SkL K n Kp w wq d b j m o ao) :
  Calls Tryz.prog 15 #[.pointer (some ⟨d,0,none⟩)] wq fun e w'=>e=.returned (.int .i64 (j:Nat))∧SkL K n Kp w w' d b j m o ao:=by
 obtain⟨D,h,r,rfl,r2⟩:=h
 refine(ver_k h).mono ?_
 rintro e w' ⟨rfl,h'⟩
 exact⟨rfl,D,h',r,rfl,r2⟩
theorem comm_k {n:Nat} (hK:KOk keyL n) {Kp:Bl} {w wq:World} {d b j m:Nat} {o ao:Option (Nat×T)} {wb:Bool} {x:Int} {cs:List Ch} (h:SkO keyL n Kp w wq d b j m o ao wb x cs) (hc:CsOk keyL cs) (hj:j≤1000000) {th:List Bool} {vs:List ByteArray} (ht:Told (overE (oents o) cs) th vs) :
  Calls Tryz.prog 24 #[.pointer (some ⟨d,0,none⟩),.int .i64 x] wq fun e w'=>e=.returned (.int .i64 0)∧∃ j' o' ao',SkL keyL n Kp w w' d b j' m o' ao'∧(j'=j∨j'=j+1)∧Told (oents o') th vs:=by
 obtain⟨fs,hro⟩:=h.rooted
 cases cs with
 | nil =>
  refine(com0_k h).mono ?_
  rintro e w' ⟨rfl,h'⟩
  rw [over_none (oents_rise hro)] at ht
  exact⟨rfl,j,o,ao,h',.inl rfl,ht⟩
 | cons c cs =>
  refine(com_k hK h hc (by simp) hj).mono ?_
  rintro e w' ⟨rfl,o1,h',hkv⟩
  obtain⟨fs1,hro1⟩:∃ fs,Rooted fs (rootOf o1) o1:=by obtain⟨D,hD,_⟩:=h';exact⟨D.fs,hD.store.sure.rooted⟩
  exact⟨rfl,j+1,o1,o,h',.inr rfl,ht.kv hkv (oents_rise hro1)⟩
theorem RowAt.onK {w w':World} {B:Nat} {a:Option Addr} {vs:List Value} {Y:Bl} (h:RowAt w B a vs) (ho:On Y w w') (hy:∀ k,k<B→Y k):RowAt w' B a vs:=by
 rcases h with h|⟨b,off,rfl,hb,hc⟩
 ·exact .inl h
 ·refine .inr ⟨b,off,rfl,hb,fun i u hu=>?_⟩
  have h1:=hc i u hu
  have hbl:b<w.heap.size:=by
   rcases Nat.lt_or_ge b w.heap.size with h|h
   ·exact h
   ·simp [World.cell?,Array.getElem?_eq_none h] at h1
  obtain⟨ob,hob⟩:∃ ob,w.heap[b]?=some ob:=⟨_,Array.getElem?_eq_getElem hbl⟩
  rw [World.cell?_of_block (w:=w) (a:=⟨b,off+i,none⟩) ((ho.heap hob (hy b hb)).trans hob.symm)]
  exact h1
abbrev zeroBook:Obj:=.cells #[.bool false,.bool false,.bool false,.bool false,.bool false,.bool false,.bool false,.bool false,.bool false,.bool false,.bool false,.bool false,.string ⟨#[]⟩,.string ⟨#[]⟩,.string ⟨#[]⟩,.string ⟨#[]⟩,.string ⟨#[]⟩,.string ⟨#[]⟩,.string ⟨#[]⟩,.string ⟨#[]⟩,.string ⟨#[]⟩,.string ⟨#[]⟩,.string ⟨#[]⟩,.string ⟨#[]⟩] 30
theorem book_zero (w:World):BookAt (w.alloc zeroBook) w.heap.size (List.replicate 12 false) (List.replicate 12 ⟨#[]⟩):=⟨heap_new w _,by simp,by simp⟩
structure BookSt (n:Nat) (Kp:Bl) (wq:World) (d b j m:Nat) (o ao:Option (Nat×T)) (q:Nat) (th:List Bool) (vs:List ByteArray):Prop where
 st:SkL keyL n Kp wq wq d b j m o ao
 book:BookAt wq q th vs
 own:Kp q
 told:Told (oents o) th vs
theorem commit_any {n:Nat} (hK:KOk keyL n) {Kp:Bl} {wq:World} {d b j m:Nat} {o ao:Option (Nat×T)} {q:Nat} {th:List Bool} {vs:List ByteArray} (h:BookSt n Kp wq d b j m o ao q th vs) (hm:m≤1000000) (hj:j≤1000000) (ra:Option Addr) (rc:Nat) (ns:List Int) (B:Nat) (hR:RowAt wq B ra (ns.map (.int .i64))) (hB:∀ k,k<B→Kp k∧k≠q) (hi64:∀ x∈ns,-9223372036854775808≤x∧x≤9223372036854775807) :
  Calls Tryz.prog 9 #[.pointer (some ⟨d,0,none⟩),.pointer (some ⟨q,0,none⟩),.slice ra ns.length rc] wq fun e w'=>e=.returned (.bool true)∧∃ j' o' ao' th' vs',BookSt n Kp w' d b j' (m+1) o' ao' q th' vs'∧j'≤j+1∧On (fun k=>Kp k∧k≠q) wq w':=by
 have hBg:=begin_k h.st true hm
 have H:Hid (BookSt n Kp wq d b j m o ao q th vs):=h
 clear h
 go_enter Tryz.func9,Tryz.ntmps9
 go_wp2_with (first
  | (go_at_call 16;(with_reducible refine Calls.mono hBg ?_);rintro e X2 ⟨x,rfl,hS2⟩;have x2:BookAt X2 q th vs:=H.out.book.on hS2.kept H.out.own;have xz:=book_zero X2)
  | (refine wp_book rfl (.tmp 24) rfl q rfl x2 ?_)
  | (refine wp_bookst rfl (.tmp 9) (.tmp 25) rfl X2.heap.size rfl rfl xz x2.lt x2.lv ?_;intro X3 hB3 hF3))
 have hz2:wq.heap.size≤X2.heap.size:=hS2.kept.size
 have hKl:∀ k,Kp k→k<wq.heap.size:=H.out.st.below
 have hbA:Below X2.heap.size X2 (X2.alloc zeroBook):=(Below.refl _ _).alloc (Nat.le_refl _) _
 have HO3:Hid (On Kp wq X3):=(hS2.kept.trans (On.of_below hbA (fun k hk=>Nat.lt_of_lt_of_le (hKl k hk) hz2))).trans (hF3.on (fun k hk=>⟨Nat.lt_of_lt_of_le (hKl k hk) (Nat.le_trans hz2 hbA.size),fun e=>by simp only [Bl.one] at e;have:=hKl k hk;omega⟩))
 have HD3:Hid (DeedSt n (Bl.or Kp (Bl.one X2.heap.size)) X3 d b j (m+1) o ao x [] X2.heap.size th vs):=⟨(hS2.make zeroBook).touch hF3 (.inr rfl),⟨.nil,by simp,by simp,by simp⟩,hB3,.inr rfl,by rw [over_none H.out.told.rise];exact H.out.told⟩
 have HX:Hid (BookAt X3 q th vs):=H.out.book.on HO3.out H.out.own
 obtain⟨nq,hnq⟩:∃ nq,X2.heap.size=nq:=⟨_,rfl⟩
 have HQ:Hid (wq.heap.size≤nq):=by show _≤_;omega
 have HKL:Hid (∀ k,Kp k→k<wq.heap.size):=hKl
 rw [hnq] at HD3 ⊢
 clear hS2 x2 xz hB3 hF3 hbA hz2 hnq hBg hKl
 go_loopw [10] (fun i wr=>∃ (k:Nat) (cs:List Ch) (th':List Bool) (vs':List ByteArray),i=.int .i64 k∧k≤8∧Hid (DeedSt n (Bl.or Kp (Bl.one nq)) wr d b j (m+1) o ao x cs nq th' vs')∧cs.length≤k∧Hid (On Kp wq wr)) (fun i _=>8-(intOf i).toNat)
 case atStart=>exact⟨0,[],th,vs,rfl,by omega,HD3,by simp,HO3⟩
 case round =>
  obtain⟨k,cs,th',vs',rfl,hk8,HD,hcl,HO⟩:=hrel
  by_cases hlt:k<ns.length∧k<8
  ·have hk1:(k:Int)<(ns.length:Int):=by omega
   have hk2:(k:Int)<8:=by omega
   obtain⟨y,hy⟩:∃ y,ns[k]'hlt.1=y:=⟨_,rfl⟩
   have hyr:=hi64 y (hy▸List.getElem_mem hlt.1)
   rcases RowAt.onK hR HO.out (fun k hk=>(hB k hk).1) with hR'|⟨rb,off,rfl,hrb,hRc⟩
   ·have h0:(ns.map (Value.int .i64)).length=0:=by rw [hR'];rfl
    rw [List.length_map] at h0
    omega
   have hcell:wr.cell? ⟨rb,off+k,none⟩=some (.int .i64 y):=hRc k _ (by rw [List.getElem?_map,List.getElem?_eq_getElem hlt.1,hy];rfl)
   have hDe:=deed_any HD.out y hyr.1 hyr.2 (by omega)
   clear hy hyr hRc
   go_wp2_with (go_at_call 17;(with_reducible refine Calls.mono hDe ?_);rintro e X4 ⟨rfl,cs2,th2,vs2,hD2,hl2,ho2⟩)
   exact⟨⟨k+1,cs2,th2,vs2,by go_num,by omega,hD2,by omega,HO.out.trans (ho2.mono (fun i hi=>⟨.inl hi,fun e=>by subst e;have:=HKL.out _ hi;have:=HQ.out;omega⟩))⟩,by simp [intOf];omega⟩
  ·have hSe:=sees_any HD.out.st HD.out.ok th' vs' HD.out.told
   have x4:=HD.out.book
   have hw:IntKind.i64.wrap ((j:Int)+1)=(j:Int)+1:=by rw [IntKind.wrap_i64];omega
   rcases (by omega:ns.length≤k∨(k<ns.length∧8≤k)) with hx|hx
   all_goals
    have hx1:(ns.length:Int)≤(k:Int)∨((k:Int)<(ns.length:Int)∧(8:Int)≤(k:Int)):=by omega
    go_wp2_with (first
     | (refine wp_book rfl (.tmp 9) rfl nq rfl x4 ?_)
     | (go_at_call 18;(with_reducible refine Calls.mono hSe ?_);rintro e X5 ⟨rfl,hS5⟩;have hV5:=ver_o hS5)
     | (go_at_call 15;(with_reducible refine Calls.mono hV5 ?_);rintro e X6 ⟨rfl,hS6⟩;have hC6:=comm_k hK hS6 HD.out.ok hj HD.out.told)
     | (go_at_call 24;(with_reducible refine Calls.mono hC6 ?_);rintro e X7 ⟨rfl,j',o',ao',hS7,hor,hT7⟩;have hV7:=ver_i hS7)
     | (go_at_call 15;(with_reducible refine Calls.mono hV7 ?_);rintro e X8 ⟨rfl,hS8⟩;have x8:=HD.out.book.on hS8.kept (.inr rfl);have y8:=(H.out.book.on HO.out H.out.own).on hS8.kept (.inl H.out.own))
     | (refine wp_book rfl (.tmp 9) rfl nq rfl x8 ?_)
     | (refine wp_bookst rfl (.tmp 58) (.tmp 57) rfl q rfl rfl y8 x8.lt x8.lv ?_;intro X9 hB9 hF9;rcases hor with rfl|rfl))
    all_goals
     go_ret
     have hL8:=hS8.less wr (fun i hi=>.inl hi) (On.refl _ _) (fun i hi=>Nat.lt_of_lt_of_le (HKL.out i hi) HO.out.size)
     exact⟨rfl,_,_,_,_,_,⟨hL8.touch hF9 H.out.own,hB9,H.out.own,hT7⟩,by omega,(HO.out.mono (fun i hi=>hi.1)).trans ((hL8.kept.mono (fun i hi=>hi.1)).trans (hF9.on (fun i hi=>⟨Nat.lt_of_lt_of_le (HKL.out i hi.1) (Nat.le_trans HO.out.size hS8.kept.size),fun e=>by simp only [Bl.one] at e;exact hi.2 e⟩)))⟩
abbrev Db.drop (D:Db) (i g c:Nat):Db:={ D with ov:=.slice (some ⟨g,0,none⟩) (D.ts.length-1) c,ts:=D.ts.eraseIdx i }
theorem fpD_drop {D:Db} {i g c:Nat} (hov:D.ov=.slice (some ⟨g,0,none⟩) D.ts.length c):∀ k,fpD (D.drop i g c) k→fpD D k:=by
 rintro k (hk|hk|hk|⟨y,hy,hk⟩)
 ·exact .inl hk
 ·exact .inr (.inl hk)
 ·have hk':(Value.slice (some ⟨g,0,none⟩) (D.ts.length-1) c).ownBlock=some k:=hk
  exact .inr (.inr (.inl (by rw [hov];exact hk')))
 ·exact .inr (.inr (.inr ⟨y,List.mem_of_mem_eraseIdx hy,hk⟩))
theorem comG1 (D:Db) (x:Int) (i:Nat) (t:Tx) (b0 b1:Nat) (w:World) (h:DbAt w 1 D) (hn:D.ts.length≤1000) (hi:i<D.ts.length) (ht:D.ts[i]=t) (hidx:idxT D.ts x=i) (R:Int→Db→Prop)
  (hco:∀ X g c,D.ov=.slice (some ⟨g,0,none⟩) D.ts.length c→DbAt X 1 (D.drop i g c)→TxAt X D.β t→Calls Tryz.prog 46 #[.pointer (some ⟨D.d,0,none⟩),.pointer (some ⟨t.b,0,none⟩)] X fun e w'=>∃ z D',e=.returned (.int .i64 z)∧DbAt w' 1 D'∧D'.d=D.d∧Fr (fpD (D.drop i g c)) X w'∧Grows X (fpD (D.drop i g c)) (fpD D')∧R z D')
  (x0:w.heap[b0]?=some (.cells #[.pointer (some ⟨D.d,0,none⟩)] 23)) (x1:w.heap[b1]?=some (.cells #[.int .i64 x] 3)) :
  Calls Tryz.prog 45 #[.pointer (some ⟨b0,0,none⟩),.pointer (some ⟨b1,0,none⟩)] w fun e w'=>∃ z D',e=.returned (.int .i64 z)∧DbAt w' 1 D'∧D'.d=D.d∧Fr (fpD D) w w'∧Grows w (fpD D) (fpD D')∧R z D':=by
 have hEn:=end_hit D 1 x i t w h (by omega) hi ht hidx
 have HCO:Hid (∀ X g c,D.ov=.slice (some ⟨g,0,none⟩) D.ts.length c→DbAt X 1 (D.drop i g c)→TxAt X D.β t→Calls Tryz.prog 46 #[.pointer (some ⟨D.d,0,none⟩),.pointer (some ⟨t.b,0,none⟩)] X fun e w'=>∃ z D',e=.returned (.int .i64 z)∧DbAt w' 1 D'∧D'.d=D.d∧Fr (fpD (D.drop i g c)) X w'∧Grows X (fpD (D.drop i g c)) (fpD D')∧R z D'):=hco
 have HBX:Hid (∀ X,Fr (fun k=>k=D.d∨D.ov.ownBlock=some k) w X→X.cell? ⟨b0,0,none⟩=some (.pointer (some ⟨D.d,0,none⟩))):=fun X hX=>box1 (hX.heap x0 (fun e=>by
  rcases e with e|e
  ·have:=h.box;rw [← e,x0] at this;simp at this
  ·exact own_ne h.row x0 (by decide) e))
 have c0:=box1 x0
 have c1:=box1 x1
 clear h x0 x1 hidx hco ht hi
 go_enter Tryz.func45,Tryz.ntmps45
 go_wp2_with (first
  | (go_at_call 37;(with_reducible refine Calls.mono hEn ?_);rintro e X1 ⟨rfl,g,c,hov,hD1,hT1,hF1⟩;have F1:Fr (fun k=>k=D.d∨D.ov.ownBlock=some k) w X1:=⟨hF1.os,hF1.tape,hF1.output,hF1.size,fun k hk hn=>hF1.block k hk (fun e=>hn (e.imp id (fun h=>by rw [hov,h];rfl)))⟩;have c0':=HBX.out X1 F1;have hCo:=HCO.out X1 g c hov hD1 hT1;have HOV:Hid (D.ov=.slice (some ⟨g,0,none⟩) D.ts.length c):=hov;clear hov)
  | (go_at_call 46;(with_reducible refine Calls.mono hCo ?_);rintro e X2 ⟨z,D',rfl,hD2,hd2,hF2,hG2,hR2⟩;have HD2:Hid (DbAt X2 1 D'):=hD2;have HR2:Hid (R z D'):=hR2;have HE2:Hid (D'.d=D.d):=hd2;clear hD2 hR2 hd2))
 go_ret
 have hsub:=fpD_drop (i:=i) HOV.out
 refine⟨z,D',rfl,HD2.out,HE2.out,?_,fun k hk=>?_,HR2.out⟩
 ·exact(F1.mono (fun k hk=>.inl (by rcases hk with hk|hk;exact .inl hk;exact .inr (.inr (.inl hk))))).trans (hF2.mono (fun k hk=>.inl (hsub k hk)))
 ·exact(hG2 k hk).imp (hsub k) (fun h=>Nat.le_trans F1.size h)
theorem comG (D:Db) (x:Int) (i:Nat) (t:Tx) (w:World) (h:DbAt w 0 D) (hn:D.ts.length≤1000) (hi:i<D.ts.length) (ht:D.ts[i]=t) (hidx:idxT D.ts x=i) (R:Int→Db→Prop)
  (hco:∀ X g c,D.ov=.slice (some ⟨g,0,none⟩) D.ts.length c→DbAt X 1 (D.drop i g c)→TxAt X D.β t→Calls Tryz.prog 46 #[.pointer (some ⟨D.d,0,none⟩),.pointer (some ⟨t.b,0,none⟩)] X fun e w'=>∃ z D',e=.returned (.int .i64 z)∧DbAt w' 1 D'∧D'.d=D.d∧Fr (fpD (D.drop i g c)) X w'∧Grows X (fpD (D.drop i g c)) (fpD D')∧R z D') :
  Calls Tryz.prog 24 #[.pointer (some ⟨D.d,0,none⟩),.int .i64 x] w fun e w'=>∃ z D',e=.returned (.int .i64 z)∧DbAt w' 0 D'∧D'.d=D.d∧Fr (fpD D) w w'∧Grows w (fpD D) (fpD D')∧R z D':=by
 obtain⟨W1,hW1⟩:∃ W1,(w.alloc (.cells #[.pointer (some ⟨D.d,0,none⟩)] 23)).alloc (.cells #[.int .i64 x] 3)=W1:=⟨_,rfl⟩
 have B1:Below w.heap.size w W1:=hW1▸((Below.refl _ _).alloc (Nat.le_refl _) _).alloc (by simp) _
 have x0:W1.heap[w.heap.size]?=some (.cells #[.pointer (some ⟨D.d,0,none⟩)] 23):=hW1▸heap_keep _ (heap_new w _)
 have x1:W1.heap[w.heap.size+1]?=some (.cells #[.int .i64 x] 3):=by
  rw [← hW1];have:=heap_new (w.alloc (.cells #[.pointer (some ⟨D.d,0,none⟩)] 23)) (.cells #[.int .i64 x] 3);simpa using this
 have h1:DbAt W1 0 D:=h.on (On.of_below B1 h.lies)
 have dlt:=(Array.getElem?_eq_some_iff.1 h.box).1
 have c0:=box1 x0
 have hFc:=face_db D 45 #[] #[.pointer (some ⟨w.heap.size,0,none⟩),.pointer (some ⟨w.heap.size+1,0,none⟩)] (enters_of Tryz.func45 (by kernel_rfl) rfl) W1 h1 R (by
  intro W0 hD0 hF0 hs0
  have nd:∀ k,w.heap.size≤k→¬ Bl.one D.d k:=fun k hk e=>by simp only [Bl.one] at e;omega
  exact comG1 D x i t _ _ W0 hD0 hn hi ht hidx R hco (hF0.heap x0 (nd _ (by omega))) (hF0.heap x1 (nd _ (by omega))))
 clear x0 x1 hco
 go_enter Tryz.func24,Tryz.ntmps24
 go_wp2_with (go_at_call 28;(with_reducible refine Calls.mono hFc ?_);rintro e X ⟨z,D',rfl,hD',hd',hF',hG',hR⟩;have HD':Hid (DbAt X 0 D'):=hD';have HR':Hid (R z D'):=hR;have HE':Hid (D'.d=D.d):=hd';clear hD' hR hd')
 go_ret
 exact⟨z,D',rfl,HD'.out,HE'.out,(Fr.of_below B1).trans hF',fun k hk=>(hG' k hk).imp id (fun h=>Nat.le_trans B1.size h),HR'.out⟩
theorem com_made {K:List ByteArray} {n:Nat} (D:Db) (x:Int) (i:Nat) (t:Tx) (v:Nat) (o ao:Option (Nat×T)) (ot:Tx→Option (Nat×T)) (w:World) (h:DbAt w 0 D) (hn:D.ts.length≤1000) (hi:i<D.ts.length) (ht:D.ts[i]=t) (hidx:idxT D.ts x=i) (hne:0<t.cs.length) (hks:∀ c∈t.cs,c.key ∉ t.ks) (hcn:t.cs.length≤1000) (hw:D.fs.well) (hfd:D.failed=false) (hv:D.ver=v) (hv63:v+1<9223372036854775808) (ST:Store K n D.fs v o ao) (h2:2≤n) (hr:D.root=rootOf o) (har:D.aroot=rootOf ao) (hts:∀ t∈D.ts.eraseIdx i,Rooted D.fs (rootOf (ot t)) (ot t)∧t.root=rootOf (ot t)) (P:Plan K n D.fs o t.cs (freeP D.fs.safe.length (usedP ([o,ao]++(D.ts.eraseIdx i).map ot)))) :
  Calls Tryz.prog 24 #[.pointer (some ⟨D.d,0,none⟩),.int .i64 x] w fun e w'=>e=.returned (.int .i64 0)∧∃ D' g c lv' ts',DbAt w' 0 D'∧D' = { (D.drop i g c).made lv' (planP o t.cs (freeP D.fs.safe.length (usedP ([o,ao]++(D.ts.eraseIdx i).map ot)))).2 (v+1) (rootOf (planP o t.cs (freeP D.fs.safe.length (usedP ([o,ao]++(D.ts.eraseIdx i).map ot)))).1) with ts:=ts' }∧LostAll (D.ts.eraseIdx i) t.cs ts'∧Fr (fpD D) w w'∧Grows w (fpD D) (fpD D'):=by
 refine(comG D x i t w h hn hi ht hidx (fun z D'=>z=0∧∃ g c lv' ts',D' = { (D.drop i g c).made lv' (planP o t.cs (freeP D.fs.safe.length (usedP ([o,ao]++(D.ts.eraseIdx i).map ot)))).2 (v+1) (rootOf (planP o t.cs (freeP D.fs.safe.length (usedP ([o,ao]++(D.ts.eraseIdx i).map ot)))).1) with ts:=ts' }∧LostAll (D.ts.eraseIdx i) t.cs ts') (fun X g c hov hD hT=>?_)).mono ?_
 ·have hap:∀ y∈D.ts.eraseIdx i,TxApart y t:=fun y hy=>by
   obtain⟨k,hk,hne',rfl⟩:=List.mem_eraseIdx_iff_getElem.1 hy
   rw [← ht]
   exact pair_at h.apart hk hi hne'
  have hlen:(D.ts.eraseIdx i).length≤1000:=by rw [List.length_eraseIdx];split<;>omega
  refine(commit_gen (K:=K) (n:=n) (D.drop i g c) 1 v o ao ot t X hD hT hap hne hks hcn hw hfd hv hv63 hlen ST h2 hr har hts P).mono ?_
  rintro e w' ⟨rfl,lv',ts',hD',hL,hF,hG⟩
  exact⟨0,_,rfl,hD',rfl,hF,hG,rfl,g,c,lv',ts',rfl,hL⟩
 ·rintro e w' ⟨z,D',rfl,hD',hd,hF,hG,rfl,g,c,lv',ts',he,hL⟩
  exact⟨rfl,D',g,c,lv',ts',hD',he,hL,hF,hG⟩
theorem com_drop (D:Db) (x:Int) (i:Nat) (t:Tx) (w:World) (h:DbAt w 0 D) (hn:D.ts.length≤1000) (hi:i<D.ts.length) (ht:D.ts[i]=t) (hidx:idxT D.ts x=i) (hcn:t.cs.length≤1000) (z:Int) (hz:(t.cs=[]∧z=0)∨(0<t.cs.length∧(∃ c∈t.cs,c.key∈t.ks)∧z=7)) :
  Calls Tryz.prog 24 #[.pointer (some ⟨D.d,0,none⟩),.int .i64 x] w fun e w'=>e=.returned (.int .i64 z)∧∃ g c,DbAt w' 0 (D.drop i g c)∧Fr (fpD D) w w'∧Grows w (fpD D) (fpD (D.drop i g c)):=by
 refine(comG D x i t w h hn hi ht hidx (fun z' D'=>z'=z∧∃ g c,D'=D.drop i g c) (fun X g c hov hD hT=>?_)).mono ?_
 ·have hB:Calls Tryz.prog 46 #[.pointer (some ⟨D.d,0,none⟩),.pointer (some ⟨t.b,0,none⟩)] X fun e w'=>e=.returned (.int .i64 z)∧Below X.heap.size X w':=by
   rcases hz with⟨h1,rfl⟩|⟨h1,h2,rfl⟩
   ·refine(commit_none D.d D.β t X hT h1).mono ?_
    rintro e w' ⟨rfl,rfl⟩
    exact⟨rfl,Below.refl _ _⟩
   ·exact commit_conf D.d D.β t X hT h1 hcn h2
  refine hB.mono ?_
  rintro e w' ⟨rfl,hb⟩
  exact⟨z,D.drop i g c,rfl,hD.on (On.of_below hb hD.lies),rfl,Fr.of_below hb,fun k hk=>.inl hk,rfl,g,c,rfl⟩
 ·rintro e w' ⟨z',D',rfl,hD',hd,hF,hG,rfl,g,c,rfl⟩
  exact⟨rfl,g,c,hD',hF,hG⟩
structure Ut where
 x:Int
 wr:Bool
 ot:Option (Nat×T)
 cs:List Ch
 ks:ByteArray→Prop
structure UOk (K:List ByteArray) (fs:Fs) (t:Tx) (u:Ut):Prop where
 num:t.num=u.x
 wr:t.wr=u.wr
 root:t.root=rootOf u.ot
 cs:t.cs=u.cs
 ks:t.wr=true→∀ y,y∈t.ks↔u.ks y
 tr:Tr K fs u.ot
structure Us (K:List ByteArray) (D:Db) (us:List Ut):Prop where
 len:D.ts.length=us.length
 each:∀ i (h:i<D.ts.length) (h':i<us.length),UOk K D.fs D.ts[i] us[i]
 rise:us.Pairwise (fun a b=>a.x<b.x)
 le:∀ u∈us,u.x≤D.last
theorem Us.idx {K:List ByteArray} {D:Db} {us:List Ut} (h:Us K D us) {i:Nat} {u:Ut} (hi:us[i]?=some u):∃ hi:i<D.ts.length,idxT D.ts u.x=i∧UOk K D.fs D.ts[i] u:=by
 obtain⟨h1,rfl⟩:=List.getElem?_eq_some_iff.1 hi
 have h2:i<D.ts.length:=by rw [h.len];exact h1
 refine⟨h2,idxT_hit h2 (by simp [(h.each i h2 h1).num]) (fun m hm hlt=>?_),h.each i h2 h1⟩
 have hm':m<us.length:=by rw [← h.len];exact hm
 have:=List.pairwise_iff_getElem.1 h.rise m i hm' h1 hlt
 rw [(h.each m hm hm').num]
 simp;omega
theorem Us.set {K:List ByteArray} {D:Db} {us:List Ut} (h:Us K D us) {i:Nat} {u u':Ut} (hi:us[i]?=some u) (hx:u'.x=u.x) {t':Tx} (ht:UOk K D.fs t' u'):Us K { D with ts:=D.ts.set i t' } (us.set i u'):=by
 obtain⟨h1,rfl⟩:=List.getElem?_eq_some_iff.1 hi
 refine⟨by simp [h.len],fun k hk hk'=>?_,?_,fun v hv=>?_⟩
 ·simp only [List.length_set] at hk hk'
  simp only [List.getElem_set]
  split
  ·exact ht
  ·exact h.each k hk hk'
 ·refine List.pairwise_iff_getElem.2 (fun a b ha hb hab=>?_)
  simp only [List.length_set] at ha hb
  have hr:=List.pairwise_iff_getElem.1 h.rise a b ha hb hab
  simp only [List.getElem_set]
  split
  ·next e=>subst e;rw [if_neg (by omega),hx];exact hr
  ·split
   ·next e=>subst e;rw [hx];exact hr
   ·exact hr
 ·rcases List.mem_or_eq_of_mem_set hv with h'|rfl
  ·exact h.le v h'
  ·rw [hx];exact h.le _ (List.getElem_mem h1)
def SkG (K:List ByteArray) (n:Nat) (Kp:Bl) (w wq:World) (d b j m:Nat) (z:Int) (o ao:Option (Nat×T)) (us:List Ut):Prop:=∃ D,Sk K n Kp w wq D j m o ao∧Us K D us∧D.last=z∧D.d=d∧D.β=b
theorem SkG.step {K:List ByteArray} {n:Nat} {Kp:Bl} {w wq w':World} {d b j m:Nat} {z:Int} {o ao:Option (Nat×T)} {us:List Ut} (h:SkG K n Kp w wq d b j m z o ao us) (hb:Below wq.heap.size wq w'):SkG K n Kp w w' d b j m z o ao us:=by
 obtain⟨D,h,r⟩:=h
 exact⟨D,⟨h.db.on (On.of_below hb h.db.lies),h.well,h.failed,h.ver,h.root,h.aroot,h.last0,h.last1,h.store,h.new,h.kept.trans (On.of_below hb (fun k hk=>Nat.lt_of_lt_of_le (h.lies k hk) h.kept.size)),h.lies⟩,r⟩
theorem SkG.sure {K:List ByteArray} {n:Nat} {Kp:Bl} {w wq:World} {d b j m:Nat} {z:Int} {o ao:Option (Nat×T)} {us:List Ut} (h:SkG K n Kp w wq d b j m z o ao us):∃ fs,Rooted fs (rootOf o) o∧Flat2 o:=by
 obtain⟨D,h,_⟩:=h
 exact⟨D.fs,h.store.sure.rooted,h.store.sure.flat⟩
theorem begin_g {K:List ByteArray} {n:Nat} {Kp:Bl} {w wq:World} {d b j m:Nat} {z:Int} {o ao:Option (Nat×T)} {us:List Ut} (h:SkG K n Kp w wq d b j m z o ao us) (wr:Bool) (hm:m≤1000000) (hu:us.length<8) :
  Calls Tryz.prog 16 #[.pointer (some ⟨d,0,none⟩),.bool wr] wq fun e w'=>e=.returned (.tuple #[.int .i64 (z+1),.int .i64 0])∧SkG K n Kp w w' d b j (m+1) (z+1) o ao (us++[⟨z+1,wr,o,[],fun _=>False⟩]):=by
 obtain⟨D,h,hU,rfl,rfl,rfl⟩:=h
 have h1:=h.last0
 have h2:=h.last1
 refine(begin_any D wr wq h.db (by rw [hU.len];exact hu) h1 (by omega)).mono ?_
 rintro e w' ⟨rfl,b,ov',hD,hF,hb,hov⟩
 have hs:=h.kept.size
 refine⟨rfl,_,⟨hD,h.well,h.failed,h.ver,h.root,h.aroot,by show 0≤D.last+1;omega,by show D.last+1≤((m+1:Nat):Int);omega,h.store,?_,h.on hF h.new,h.lies⟩,⟨by simp [hU.len],fun i hi hi'=>?_,?_,fun u hu'=>?_⟩,rfl,rfl,rfl⟩
 ·rintro k (hk|hk|hk|⟨y,hy,hk⟩) hp
  ·exact h.new k (.inl hk) hp
  ·exact h.new k (.inr (.inl hk)) hp
  ·rcases hov k hk with h'|h'
   ·exact h.new k (.inr (.inr (.inl h'))) hp
   ·have:=h.lies k hp;omega
  ·rcases List.mem_append.1 hy with hy|hy
   ·exact h.new k (.inr (.inr (.inr ⟨y,hy,hk⟩))) hp
   ·rw [List.mem_singleton] at hy
    subst hy
    have:=newTx_fp hk
    have:=h.lies k hp
    omega
 ·show UOk K D.fs (D.ts++[newTx b (D.last+1) wr D.root])[i] _
  rcases Nat.lt_or_ge i D.ts.length with hlt|hge
  ·rw [List.getElem_append_left hlt,List.getElem_append_left (by rw [← hU.len];exact hlt)]
   exact hU.each i hlt _
  ·have hi2:i=D.ts.length:=by simp at hi;omega
   subst hi2
   rw [List.getElem_append_right (Nat.le_refl _),List.getElem_append_right (by rw [hU.len];exact Nat.le_refl _)]
   simp only [hU.len,Nat.sub_self,List.getElem_cons_zero]
   exact⟨rfl,rfl,h.root,rfl,fun _ y=>by simp,h.store.sure⟩
 ·refine List.pairwise_append.2 ⟨hU.rise,by simp,fun a ha c hc=>?_⟩
  rw [List.mem_singleton] at hc
  subst hc
  have:=hU.le a ha
  show a.x<D.last+1
  omega
 ·rcases List.mem_append.1 hu' with h'|h'
  ·have:=hU.le u h';show u.x≤D.last+1;omega
  ·rw [List.mem_singleton] at h';subst h';exact Int.le_refl _
theorem put_g {K:List ByteArray} {n:Nat} {Kp:Bl} {w wq:World} {d b j m:Nat} {z:Int} {o ao:Option (Nat×T)} {us:List Ut} (h:SkG K n Kp w wq d b j m z o ao us) {i:Nat} {u:Ut} (hu:us[i]?=some u) (h8:us.length≤8) (hw:u.wr=true) (key val:ByteArray) (hr:Rise u.cs) (hn:u.cs.length≤1000) (hk1:1≤key.size) (hk2:key.size≤24) (hv:val.size≤400) :
  Calls Tryz.prog 21 #[.pointer (some ⟨d,0,none⟩),.int .i64 u.x,.string key,.string val] wq fun e w'=>e=.returned (.int .i64 0)∧SkG K n Kp w w' d b j m z o ao (us.set i { u with cs:=withC u.cs ⟨key,val,false⟩ }):=by
 obtain⟨D,h,hU,rfl,rfl,rfl⟩:=h
 obtain⟨hi,hidx,hk⟩:=hU.idx hu
 refine(put_any D u.x i D.ts[i] key val wq h.db (by rw [hU.len];omega) hi rfl hidx (by rw [hk.wr];exact hw) (by rw [hk.cs];exact hr) (by rw [hk.cs];exact hn) hk1 hk2 hv).mono ?_
 rintro e w' ⟨rfl,ca',cc',hD,hF,hG⟩
 exact⟨rfl,_,⟨hD,h.well,h.failed,h.ver,h.root,h.aroot,h.last0,h.last1,h.store,h.grows hG,h.on hF h.new,h.lies⟩,hU.set (u':={ u with cs:=withC u.cs ⟨key,val,false⟩ }) hu rfl ⟨hk.num,hk.wr,hk.root,by show withC _ _=_;rw [hk.cs],hk.ks,hk.tr⟩,rfl,rfl,rfl⟩
theorem del_g {K:List ByteArray} {n:Nat} {Kp:Bl} {w wq:World} {d b j m:Nat} {z:Int} {o ao:Option (Nat×T)} {us:List Ut} (h:SkG K n Kp w wq d b j m z o ao us) {i:Nat} {u:Ut} (hu:us[i]?=some u) (h8:us.length≤8) (hw:u.wr=true) (key:ByteArray) (hr:Rise u.cs) (hn:u.cs.length≤1000) (hk1:1≤key.size) (hk2:key.size≤24) :
  Calls Tryz.prog 23 #[.pointer (some ⟨d,0,none⟩),.int .i64 u.x,.string key] wq fun e w'=>∃ y us',e=.returned (.int .i64 y)∧SkG K n Kp w w' d b j m z o ao us'∧((foundC u.ot u.cs key=true∧y=0∧us'=us.set i { u with cs:=withC u.cs ⟨key,⟨#[]⟩,true⟩ })∨(foundC u.ot u.cs key=false∧y=5∧us'=us)):=by
 obtain⟨D,h,hU,rfl,rfl,rfl⟩:=h
 obtain⟨hi,hidx,hk⟩:=hU.idx hu
 refine(delete_any D u.x i D.ts[i] u.ot key wq h.db (Fs.well_alive h.well) (by rw [hk.root];exact hk.tr.rooted) (by rw [hU.len];omega) hi rfl hidx (by rw [hk.wr];exact hw) (by rw [hk.cs];exact hr) (by rw [hk.cs];exact hn) hk1 hk2).mono ?_
 rintro e w' ⟨y,D',rfl,hD,hd,hF,hG,hR⟩
 rw [DelR,hk.cs] at hR
 rcases hR with⟨h1,h2,ca',cc',rfl⟩|⟨h1,h2,rfl⟩
 ·exact⟨y,_,rfl,⟨_,⟨hD,h.well,h.failed,h.ver,h.root,h.aroot,h.last0,h.last1,h.store,h.grows hG,h.on hF h.new,h.lies⟩,hU.set (u':={ u with cs:=withC u.cs ⟨key,⟨#[]⟩,true⟩ }) hu rfl ⟨hk.num,hk.wr,hk.root,rfl,hk.ks,hk.tr⟩,rfl,rfl,rfl⟩,.inl ⟨h1,h2,rfl⟩⟩
 ·exact⟨y,_,rfl,⟨_,⟨hD,h.well,h.failed,h.ver,h.root,h.aroot,h.last0,h.last1,h.store,h.new,h.on hF h.new,h.lies⟩,hU,rfl,rfl,rfl⟩,.inr ⟨h1,h2,rfl⟩⟩
def Ut.lose (cs:List Ch) (u:Ut):Ut:={ u with ks:=fun y=>u.ks y∨y∈cs.map (·.key) }
theorem erase_at {α:Type} {l:List α} {i k:Nat} (h:k<(l.eraseIdx i).length):∃ k',∃ h':k'<l.length,(l.eraseIdx i)[k]=l[k']∧k'=if k<i then k else k+1:=by
 have h0:=h
 rw [List.length_eraseIdx] at h0
 rcases Nat.lt_or_ge k i with hlt|hge
 ·refine⟨k,by split at h0<;>omega,?_,by rw [if_pos hlt]⟩
  rw [List.getElem_eraseIdx,dif_pos hlt]
 ·refine⟨k+1,by split at h0<;>omega,?_,by rw [if_neg (by omega)]⟩
  rw [List.getElem_eraseIdx,dif_neg (by omega)]
theorem Us.drop {K:List ByteArray} {D:Db} {us:List Ut} (h:Us K D us) (i g c:Nat):Us K (D.drop i g c) (us.eraseIdx i):=by
 refine⟨?_,fun k hk hk'=>?_,h.rise.sublist (List.eraseIdx_sublist _ _),fun u hu=>h.le u (List.mem_of_mem_eraseIdx hu)⟩
 ·show (D.ts.eraseIdx i).length=_
  rw [List.length_eraseIdx,List.length_eraseIdx,h.len]
 ·show UOk K D.fs (D.ts.eraseIdx i)[k] (us.eraseIdx i)[k]
  obtain⟨a,ha,e1,e2⟩:=erase_at (l:=D.ts) (i:=i) hk
  obtain⟨b,hb,e3,e4⟩:=erase_at (l:=us) (i:=i) hk'
  obtain rfl:a=b:=e2.trans e4.symm
  rw [e1,e3]
  exact h.each a ha hb
theorem Us.lost {K:List ByteArray} {D D':Db} {us:List Ut} {cs:List Ch} {ts':List Tx} (h:Us K D us) (hL:LostAll D.ts cs ts') (hts:D'.ts=ts') (hl:D'.last=D.last) (hst:∀ u∈us,Tr K D'.fs u.ot):Us K D' (us.map (Ut.lose cs)):=by
 refine⟨by rw [hts,hL.len,h.len,List.length_map],fun k hk hk'=>?_,?_,fun u hu=>?_⟩
 ·have h1:k<D.ts.length:=by rw [hts,hL.len] at hk;exact hk
  have h2:k<us.length:=by rwa [List.length_map] at hk'
  have e:=h.each k h1 h2
  obtain⟨tk,ks,ht,hy⟩:=hL.each k h1
  have ht':D'.ts[k] = { D.ts[k] with tk:=tk,ks:=ks }:=by
   have:D'.ts[k]=ts'[k]'(by rw [hL.len];exact h1):=by simp [hts]
   rw [this,ht]
  rw [List.getElem_map]
  refine⟨by rw [ht'];exact e.num,by rw [ht'];exact e.wr,by rw [ht'];exact e.root,by rw [ht'];exact e.cs,fun hw y=>?_,show Tr K D'.fs (us[k]).ot from hst _ (List.getElem_mem h2)⟩
  rw [ht'] at hw
  have hw':D.ts[k].wr=true:=hw
  rw [ht']
  show y∈ks↔_
  rw [hy hw' y,e.ks hw' y]
  exact Iff.rfl
 ·exact List.pairwise_map.2 h.rise
 ·obtain⟨v,hv,rfl⟩:=List.mem_map.1 hu
  rw [hl]
  exact h.le v hv
def otOf (us:List Ut) (t:Tx):Option (Nat×T):=((us.find? (fun u=>u.x==t.num)).map (·.ot)).getD none
theorem otOf_at {K:List ByteArray} {D:Db} {us:List Ut} (h:Us K D us) (k:Nat) (hk:k<D.ts.length) (hk':k<us.length):otOf us D.ts[k]=us[k].ot:=by
 have hf:us.find? (fun u=>u.x==D.ts[k].num)=some us[k]:=by
  rw [List.find?_eq_some_iff_getElem]
  refine⟨by simp [(h.each k hk hk').num],k,hk',rfl,fun a ha=>?_⟩
  have:=List.pairwise_iff_getElem.1 h.rise a k (by omega) hk' ha
  rw [(h.each k hk hk').num]
  simp;omega
 rw [otOf,hf];rfl
theorem otOf_map {K:List ByteArray} {D:Db} {us:List Ut} (h:Us K D us):D.ts.map (otOf us)=us.map (·.ot):=by
 apply List.ext_getElem
 ·simp [h.len]
 ·intro k h1 h2
  simp only [List.length_map] at h1 h2
  rw [List.getElem_map,List.getElem_map]
  exact otOf_at h k h1 h2
theorem com_gd {K:List ByteArray} {n:Nat} {Kp:Bl} {w wq:World} {d b j m:Nat} {z:Int} {o ao:Option (Nat×T)} {us:List Ut} (h:SkG K n Kp w wq d b j m z o ao us) {i:Nat} {u:Ut} (hu:us[i]?=some u) (h8:us.length≤8) (hn:u.cs.length≤1000) (y:Int) (hy:(u.cs=[]∧y=0)∨(u.wr=true∧0<u.cs.length∧(∃ c∈u.cs,u.ks c.key)∧y=7)) :
  Calls Tryz.prog 24 #[.pointer (some ⟨d,0,none⟩),.int .i64 u.x] wq fun e w'=>e=.returned (.int .i64 y)∧SkG K n Kp w w' d b j m z o ao (us.eraseIdx i):=by
 obtain⟨D,h,hU,rfl,rfl,rfl⟩:=h
 obtain⟨hi,hidx,hk⟩:=hU.idx hu
 refine(com_drop D u.x i D.ts[i] wq h.db (by rw [hU.len];omega) hi rfl hidx (by rw [hk.cs];exact hn) y (by
  rcases hy with⟨h1,h2⟩|⟨h0,h1,⟨c,hc,hck⟩,h2⟩
  ·exact .inl ⟨by rw [hk.cs];exact h1,h2⟩
  ·exact .inr ⟨by rw [hk.cs];exact h1,⟨c,by rw [hk.cs];exact hc,(hk.ks (by rw [hk.wr];exact h0) _).2 hck⟩,h2⟩)).mono ?_
 rintro e w' ⟨rfl,g,c,hD,hF,hG⟩
 exact⟨rfl,_,⟨hD,h.well,h.failed,h.ver,h.root,h.aroot,h.last0,h.last1,h.store,h.grows hG,h.on hF h.new,h.lies⟩,hU.drop i g c,rfl,rfl,rfl⟩
theorem com_gm {K:List ByteArray} {n:Nat} {Kp:Bl} {w wq:World} {d b j m:Nat} {z:Int} {o ao:Option (Nat×T)} {us:List Ut} (hK:KOk K n) (h:SkG K n Kp w wq d b j m z o ao us) {i:Nat} {u:Ut} (hu:us[i]?=some u) (h8:us.length≤8) (hroom:(us.length+2) * (1+3 * K.length)+2≤n) (hc:CsOk K u.cs) (hne:0<u.cs.length) (hw:u.wr=true) (hks:∀ c∈u.cs,¬ u.ks c.key) (hj:j≤1000000) :
  Calls Tryz.prog 24 #[.pointer (some ⟨d,0,none⟩),.int .i64 u.x] wq fun e w'=>e=.returned (.int .i64 0)∧∃ o1,SkG K n Kp w w' d b (j+1) m z o1 o ((us.eraseIdx i).map (Ut.lose u.cs))∧(oents o1).map En.kv=(overE (oents o) u.cs).map En.kv:=by
 obtain⟨D,h,hU,rfl,rfl,rfl⟩:=h
 obtain⟨hi,hidx,hk⟩:=hU.idx hu
 have hUd:=hU.drop i 0 0
 have hmap:(D.ts.eraseIdx i).map (otOf (us.eraseIdx i))=(us.eraseIdx i).map (·.ot):=otOf_map hUd
 have htr:∀ v∈us.eraseIdx i,Tr K D.fs v.ot:=fun v hv=>by
  obtain⟨k,hk',rfl⟩:=List.getElem_of_mem hv
  exact(hUd.each k (by rw [hUd.len];exact hk') hk').tr
 have hos:∀ o'∈[o,ao]++(us.eraseIdx i).map (·.ot),Tr K D.fs o':=fun o' ho'=>by
  rcases List.mem_append.1 ho' with ho'|ho'
  ·rcases List.mem_cons.1 ho' with rfl|ho'
   ·exact h.store.sure
   ·rw [List.mem_singleton] at ho';subst ho';exact h.store.ahead
  ·obtain⟨v,hv,rfl⟩:=List.mem_map.1 ho'
   exact htr v hv
 have hlen:D.fs.safe.length=n:=h.store.len
 have hole:([o,ao]++(us.eraseIdx i).map (·.ot)).length+1≤us.length+2:=by
  have:=(List.getElem?_eq_some_iff.1 hu).1
  rw [List.length_append,List.length_map,List.length_eraseIdx,if_pos this]
  simp;omega
 obtain⟨hP,haw⟩:=plan_of (K:=K) (n:=n) (fs:=D.fs) (o:=o) (cs:=u.cs) (os:=[o,ao]++(us.eraseIdx i).map (·.ot)) hlen hK.small hos (by simp) hc.rise hc.good hc.keys hK.k24 hK.ksum (Nat.le_trans (Nat.add_le_add_right (Nat.mul_le_mul_right _ hole) 2) hroom)
 have hP':Plan K n D.fs o (D.ts[i]).cs (freeP D.fs.safe.length (usedP ([o,ao]++(D.ts.eraseIdx i).map (otOf (us.eraseIdx i))))):=by rw [hmap,hlen,hk.cs];exact hP
 have hn40:=hK.n40
 obtain⟨c1,c2,c3,c4,c5⟩:=commit_store h.store hP (by omega) (by omega)
 have hts:∀ t∈D.ts.eraseIdx i,Rooted D.fs (rootOf (otOf (us.eraseIdx i) t)) (otOf (us.eraseIdx i) t)∧t.root=rootOf (otOf (us.eraseIdx i) t):=fun t ht=>by
  obtain⟨k,hk',rfl⟩:=List.getElem_of_mem ht
  have hk2:k<(us.eraseIdx i).length:=by rw [← hUd.len];exact hk'
  have e:=otOf_at hUd k hk' hk2
  have e':otOf (us.eraseIdx i) (D.ts.eraseIdx i)[k]=((us.eraseIdx i)[k]).ot:=e
  rw [e']
  exact⟨(hUd.each k hk' hk2).tr.rooted,(hUd.each k hk' hk2).root⟩
 refine(com_made (K:=K) (n:=n) D u.x i D.ts[i] j o ao (otOf (us.eraseIdx i)) wq h.db (by rw [hU.len];omega) hi rfl hidx (by rw [hk.cs];exact hne) (fun c hcc hck=>hks c (by rw [← hk.cs];exact hcc) ((hk.ks (by rw [hk.wr];exact hw) _).1 hck)) (by rw [hk.cs];exact hc.len) h.well h.failed h.ver (by omega) h.store (by omega) h.root h.aroot hts hP').mono ?_
 rintro e w' ⟨rfl,D',g,c,lv',ts',hD,he,hL,hF,hG⟩
 rw [hmap,hlen,hk.cs] at he
 rw [hk.cs] at hL
 subst he
 refine⟨rfl,(planP o u.cs (freeP n (usedP ([o,ao]++(us.eraseIdx i).map (·.ot))))).1,⟨_,⟨hD,h.well,h.failed,rfl,rfl,h.root,h.last0,h.last1,c1,h.grows hG,h.on hF h.new,h.lies⟩,?_,rfl,rfl,rfl⟩,c4⟩
 refine Us.lost (hU.drop i g c) hL rfl rfl (fun v hv=>c5 v.ot (htr v hv) (haw v.ot ?_))
 exact List.mem_append_right _ (List.mem_map.2 ⟨v,hv,rfl⟩)
end Go.Proofs.YtngpplmndpmgiaaGreat.Tree
