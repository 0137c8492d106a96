/-
  Joined: KBook, Deed, PCnt, Sees, Shows, KCom, Each, SkW.
-/
import Derived.Test.YtfnhmpcpeahfkaaGreatW50
set_option linter.unusedSimpArgs false
set_option linter.unusedVariables false
set_option maxRecDepth 100000
set_option maxHeartbeats 8000000
namespace Go.Proofs.YtfnhmpcpeahfkaaGreat.Tree
open Go.RowKit Pages
def bookC (th:List Bool) (vs:List ByteArray):Array Value:=(th.map Value.bool++vs.map Value.string).toArray
structure BookAt (w:World) (q:Nat) (th:List Bool) (vs:List ByteArray):Prop where
 box:w.heap[q]?=some (.cells (bookC th vs) 30)
 lt:th.length=12
 lv:vs.length=12
theorem BookAt.on {w w':World} {q:Nat} {th:List Bool} {vs:List ByteArray} {Y:Bl} (h:BookAt w q th vs) (ho:On Y w w') (hy:Y q):BookAt w' q th vs:=⟨ho.heap h.box hy,h.lt,h.lv⟩
theorem BookAt.there {w:World} {q:Nat} {th:List Bool} {vs:List ByteArray} (h:BookAt w q th vs) (k:Nat) (hk:k<12):w.cell? ⟨q,k,none⟩=some (.bool (th[k]'(by have:=h.lt;omega))):=by
 have h1:=h.lt
 simp [World.cell?,h.box,bookC,List.getElem?_append,h1,hk]
theorem BookAt.value {w:World} {q:Nat} {th:List Bool} {vs:List ByteArray} (h:BookAt w q th vs) (k:Nat) (hk:k<12):w.cell? ⟨q,12+k,none⟩=some (.string (vs[k]'(by have:=h.lv;omega))):=by
 have h1:=h.lt
 have h2:=h.lv
 simp [World.cell?,h.box,bookC,List.getElem?_append,h1,h2,hk]
theorem BookAt.free {w:World} {q:Nat} {th:List Bool} {vs:List ByteArray} (h:BookAt w q th vs) (i:Nat):w.frozen? ⟨q,i,none⟩=false:=free_of h.box i
theorem BookAt.setThere {w:World} {q:Nat} {th:List Bool} {vs:List ByteArray} (h:BookAt w q th vs) (k:Nat) (hk:k<12) (t:Bool):BookAt (w.setCell ⟨q,k,none⟩ (.bool t)) q (th.set k t) vs:=by
 refine⟨?_,by simpa using h.lt,h.lv⟩
 rw [set_of h.box k (.bool t)]
 have h1:=h.lt
 simp only [bookC,jV,List.map_set]
 rw [List.set_append_left _ _ (by simpa [h1] using hk)]
theorem BookAt.setValue {w:World} {q:Nat} {th:List Bool} {vs:List ByteArray} (h:BookAt w q th vs) (k:Nat) (hk:k<12) (v:ByteArray):BookAt (w.setCell ⟨q,12+k,none⟩ (.string v)) q th (vs.set k v):=by
 refine⟨?_,h.lt,by simpa using h.lv⟩
 rw [set_of h.box (12+k) (.string v)]
 have h1:=h.lt
 simp only [bookC,jV,List.map_set]
 rw [List.set_append_right _ _ (by simp [h1])]
 simp [h1]
theorem Sk.now {K:List ByteArray} {n:Nat} {Kp:Bl} {w wq:World} {D:Db} {j m:Nat} {o ao:Option (Nat×T)} (h:Sk K n Kp w wq D j m o ao):Sk K n Kp wq wq D j m o ao :=
 ⟨h.db,h.well,h.failed,h.ver,h.root,h.aroot,h.last0,h.last1,h.store,h.new,On.refl _ _,fun k hk=>jY (h.lies k hk) h.kept.size⟩
theorem Sk.poke {K:List ByteArray} {n:Nat} {Kp:Bl} {w wq:World} {D:Db} {j m:Nat} {o ao:Option (Nat×T)} (h:Sk K n Kp w wq D j m o ao) (p:Addr) (hp:Kp p.block) (v:Value):Sk K n Kp (wq.setCell p v) (wq.setCell p v) D j m o ao:=by
 have h':=h.now
 refine⟨h.db.on ((On.refl (fpD D) wq).setCell (fun hk=>h.new _ hk hp) v),h.well,h.failed,h.ver,h.root,h.aroot,h.last0,h.last1,h.store,h.new,On.refl _ _,fun k hk=>by simpa using h'.lies k hk⟩
theorem SkO.now {K:List ByteArray} {n:Nat} {Kp:Bl} {w wq:World} {d b j m:Nat} {o ao:Option (Nat×T)} {wr:Bool} {x:Int} {cs:List Ch} (h:SkO K n Kp w wq d b j m o ao wr x cs):SkO K n Kp wq wq d b j m o ao wr x cs:=by
 obtain⟨D,h,r⟩:=h
 exact⟨D,h.now,r⟩
theorem SkO.poke {K:List ByteArray} {n:Nat} {Kp:Bl} {w wq:World} {d b j m:Nat} {o ao:Option (Nat×T)} {wr:Bool} {x:Int} {cs:List Ch} (h:SkO K n Kp w wq d b j m o ao wr x cs) (p:Addr) (hp:Kp p.block) (v:Value):SkO K n Kp (wq.setCell p v) (wq.setCell p v) d b j m o ao wr x cs:=by
 obtain⟨D,h,r⟩:=h
 exact⟨D,h.poke p hp v,r⟩
theorem SkO.kept {K:List ByteArray} {n:Nat} {Kp:Bl} {w wq:World} {d b j m:Nat} {o ao:Option (Nat×T)} {wr:Bool} {x:Int} {cs:List Ch} (h:SkO K n Kp w wq d b j m o ao wr x cs):On Kp w wq:=by
 obtain⟨D,h,_⟩:=h
 exact h.kept
theorem SkO.step {K:List ByteArray} {n:Nat} {Kp:Bl} {w wq w':World} {d b j m:Nat} {o ao:Option (Nat×T)} {wr:Bool} {x:Int} {cs:List Ch} (h:SkO K n Kp w wq d b j m o ao wr x cs) (hb:Below wq.heap.size wq w'):SkO K n Kp w w' d b j m o ao wr x cs:=by
 obtain⟨D,h,r⟩:=h
 exact⟨D,⟨h.db.on (vV hb h.db.lies),h.well,h.failed,h.ver,h.root,h.aroot,h.last0,h.last1,h.store,h.new,h.kept.trans (vV hb (fun k hk=>jY (h.lies k hk) h.kept.size)),h.lies⟩,r⟩
theorem found_seen {fs:Fs} {root:Nat} {o:Option (Nat×T)} {cs:List Ch} (hro:Rooted fs root o) (hf:Flat2 o) (hr:Rise cs) (hc:∀ c∈cs,c.good) (key:ByteArray):foundC o cs key=(seenV o cs key).isSome:=by
 obtain⟨E,h1,h2⟩:∃ E:Ent,(fnd cs key=true→∀ c,cs[srch cs key]?=some c→E=(chE c).e)∧(fnd cs key=false→∀ x xs,ostored (keySp key) o=x :: xs→E=x.e):=by
  cases hfd:fnd cs key with
  | true =>
   obtain⟨h0,_⟩:=fnd_at hfd hr
   exact⟨(chE cs[srch cs key]).e,fun _ c hcc=>by rw [jQ h0] at hcc;cases hcc;rfl,fun h=>by cases h⟩
  | false =>
   cases hos:ostored (keySp key) o with
   | nil=>exact⟨⟨⟨#[]⟩,⟨#[]⟩,0,0⟩,(fun h=>by cases h),(fun _ x xs h=>by cases h)⟩
   | cons y ys=>exact⟨y.e,(fun h=>by cases h),(fun _ x xs h=>by cases h;rfl)⟩
 rcases find_seen hro hf hr hc h1 h2 with⟨a,b⟩|⟨X,_,_,a,b⟩
 ·rw [a,b];rfl
 ·rw [a,b];rfl
structure DeedSt (n:Nat) (Kp:Bl) (wq:World) (d b j m:Nat) (o ao:Option (Nat×T)) (x:Int) (cs:List Ch) (q:Nat) (th:List Bool) (vs:List ByteArray):Prop where
 st:SkO keyL n Kp wq wq d b j m o ao true x cs
 ok:CsOk keyL cs
 book:BookAt wq q th vs
 own:Kp q
 told:Told (overE (oents o) cs) th vs
theorem Told.blank {xs:List En} {th:List Bool} {vs:List ByteArray} (h:Told xs th vs) (k:Nat) (hk:k<12) (v:ByteArray) (hf:th[k]'(by have:=h.lt;omega)=false):Told xs (th.set k false) (vs.set k v):=by
 refine⟨by simpa using h.lt,by simpa using h.lv,h.rise,h.keys,fun j hj=>?_⟩
 have ht:=h.tells j hj
 by_cases hjk:j=k
 ·subst hjk
  rw [hf] at ht
  rw [ht]
  simp
 ·rw [ht]
  simp [List.getElem_set,Ne.symm hjk]
theorem DeedSt.rooted {n:Nat} {Kp:Bl} {wq:World} {d b j m:Nat} {o ao:Option (Nat×T)} {x:Int} {cs:List Ch} {q:Nat} {th:List Bool} {vs:List ByteArray} (h:DeedSt n Kp wq d b j m o ao x cs q th vs):∃ fs,Rooted fs (rootOf o) o∧Flat2 o:=by
 obtain⟨D,hD,_⟩:=h.st
 exact⟨D.fs,hD.store.sure.rooted,hD.store.sure.flat⟩
theorem DeedSt.found {n:Nat} {Kp:Bl} {wq:World} {d b j m:Nat} {o ao:Option (Nat×T)} {x:Int} {cs:List Ch} {q:Nat} {th:List Bool} {vs:List ByteArray} (h:DeedSt n Kp wq d b j m o ao x cs q th vs) (k:Nat) (hk:k<12):foundC o cs (keyL[k]'hk)=th[k]'(by have:=h.told.lt;omega):=by
 obtain⟨fs,h1,h2⟩:=h.rooted
 rw [found_seen h1 h2 h.ok.rise h.ok.good]
 unfold seenV
 rw [h.told.tells k hk]
 cases th[k]'(by have:=h.told.lt;omega)<;>rfl
theorem deed_any {n:Nat} {Kp:Bl} {wq:World} {d b j m:Nat} {o ao:Option (Nat×T)} {x:Int} {cs:List Ch} {q:Nat} {th:List Bool} {vs:List ByteArray} (h:DeedSt n Kp wq d b j m o ao x cs q th vs) (c:Int) (h0 : -9223372036854775808≤c) (h1:c≤9223372036854775807) (hl:cs.length<100) :
  Calls Tryz.prog 19 #[.pointer (some ⟨d,0,none⟩),.int .i64 x,.pointer (some ⟨q,0,none⟩),.int .i64 c] wq fun e w'=>e=.returned (.bool true)∧∃ cs' th' vs',DeedSt n Kp w' d b j m o ao x cs' q th' vs'∧cs'.length≤cs.length+1∧On (fun k=>Kp k∧k≠q) wq w':=by
 obtain⟨k,hk⟩:∃ k:Nat,pickV c 12=k:=⟨(pickV c 12).toNat,(Int.toNat_of_nonneg (pickV_range c 12 (by omega)).1).symm⟩
 have hk12:k<12:=by have:=(pickV_range c 12 (by omega)).2;omega
 have hki:(k:Int)<12:=by omega
 have hP1:Calls Tryz.prog 22 #[.int .i64 c,.int .i64 12] wq fun e w'=>e=.returned (.int .i64 k)∧w'=wq:=hk▸pick_val c 12 wq h0 h1 (by omega)
 obtain⟨g,hg⟩:∃ g,pickV (c.tdiv 12) 4=g:=⟨_,rfl⟩
 have hg0:0≤g:=hg▸(pickV_range (c.tdiv 12) 4 (by omega)).1
 have hP2:Calls Tryz.prog 22 #[.int .i64 (c.tdiv 12),.int .i64 4] wq fun e w'=>e=.returned (.int .i64 g)∧w'=wq:=hg▸pick_val (c.tdiv 12) 4 wq (tdiv_small c 12 (by omega) h0 h1).1 (tdiv_small c 12 (by omega) h0 h1).2 (by omega)
 have hVl:=kvalue_any (c.tdiv 48) wq (tdiv_small c 48 (by omega) h0 h1).1 (tdiv_small c 48 (by omega) h0 h1).2
 have HKey:Hid (∀ X,Calls Tryz.prog 24 #[.int .i64 (k:Nat)] X fun e w'=>e=.returned (.string (keyL[k]'hk12))∧Below X.heap.size X w'):=fun X=>key_any k hk12 X
 have H:Hid (DeedSt n Kp wq d b j m o ao x cs q th vs):=h
 have ks:=key_size _ (key_at k hk12)
 clear hk hg h
 have hql:q<wq.heap.size:=(jJ.1 H.out.book.box).1
 by_cases hgp:0<g
 ·go_enter Tryz.func19,Tryz.ntmps19
  go_wp2_with (first
   | (go_at_call 22;(with_reducible refine Calls.mono hP1 ?_);rintro e X ⟨rfl,hX⟩;subst X)
   | (go_at_call 22;(with_reducible refine Calls.mono hP2 ?_);rintro e X ⟨rfl,hX⟩;subst X)
   | (go_at_call 40;(with_reducible refine Calls.mono hVl ?_);rintro e X1 ⟨v,rfl,hv,hb1⟩;have hB1:BookAt X1 q th vs:=H.out.book.on (vV hb1 (Y:=Bl.one q) (fun i hi=>by simp only [Bl.one] at hi;omega)) rfl;have e1:=hB1.there k hk12;have e2:=hB1.free k;obtain⟨X2,hX2⟩:∃ X2,X1.setCell ⟨q,k,none⟩ (.bool true)=X2:=⟨_,rfl⟩;have hB2:BookAt X2 q (th.set k true) vs:=hX2▸hB1.setThere k hk12 true;have e3:=hB2.value k hk12;have e4:=hB2.free (12+k);obtain⟨X3,hX3⟩:∃ X3,X2.setCell ⟨q,12+k,none⟩ (.string v)=X3:=⟨_,rfl⟩;have hB3:BookAt X3 q (th.set k true) (vs.set k v):=hX3▸hB2.setValue k hk12 v;have hS3:SkO keyL n Kp X3 X3 d b j m o ao true x cs:=hX3▸(hX2▸(H.out.st.step hb1).poke ⟨q,k,none⟩ H.out.own _:SkO keyL n Kp X2 X2 d b j m o ao true x cs).poke ⟨q,12+k,none⟩ H.out.own _;have HO:Hid (On (fun k=>Kp k∧k≠q) wq X3):=(by obtain⟨D,hD,_⟩:=H.out.st;have o1:On (fun k=>Kp k∧k≠q) wq X1:=vV hb1 (fun i hi=>hD.lies i hi.1);rw [← hX3,← hX2];exact(o1.setCell (p:=⟨q,k,none⟩) (fun e=>e.2 rfl) _).setCell (p:=⟨q,12+k,none⟩) (fun e=>e.2 rfl) _);have hKy:=HKey.out X3)
   | (go_at_call 24;(with_reducible refine Calls.mono hKy ?_);rintro e X4 ⟨rfl,hb4⟩;have hPu:=put_k (hS3.step hb4) (keyL[k]'hk12) v H.out.ok.rise H.out.ok.len ks.1 ks.2 hv)
   | (go_at_call 23;(with_reducible refine Calls.mono hPu ?_);rintro e X5 ⟨rfl,hS5⟩))
  go_ret
  obtain⟨fs,hro,_⟩:=H.out.rooted
  have hgd:(⟨keyL[k]'hk12,v,false⟩:Ch).good:=put_good k hk12 v hv false
  obtain⟨w1,w2,w3⟩:=H.out.ok.with (by omega) ⟨keyL[k]'hk12,v,false⟩ hgd (key_at k hk12)
  refine⟨rfl,_,_,_,⟨hS5.now,w1,hB3.on hS5.kept H.out.own,H.out.own,H.out.told.change (oents_rise hro) H.out.ok.rise k hk12 v false⟩,w3,HO.out.trans (hS5.kept.mono (fun i hi=>hi.1))⟩
 ·have hgn:¬ (0<g):=hgp
  have hB0:=H.out.book
  have hKy:=HKey.out wq
  have hfo:=H.out.found k hk12
  obtain⟨fb,hfb⟩:∃ fb,th[k]'(by have:=H.out.told.lt;omega)=fb:=⟨_,rfl⟩
  rw [hfb] at hfo
  cases fb with
  | true =>
   go_enter Tryz.func19,Tryz.ntmps19
   go_wp2_with (first
    | (go_at_call 22;(with_reducible refine Calls.mono hP1 ?_);rintro e X ⟨rfl,hX⟩;subst X)
    | (go_at_call 22;(with_reducible refine Calls.mono hP2 ?_);rintro e X ⟨rfl,hX⟩;subst X)
    | (go_at_call 24;(with_reducible refine Calls.mono hKy ?_);rintro e X4 ⟨rfl,hb4⟩;have hDe:=del_k (H.out.st.step hb4) (keyL[k]'hk12) H.out.ok.rise H.out.ok.len ks.1 ks.2)
    | (go_at_call 25;(with_reducible refine Calls.mono hDe ?_);rintro e X5 ⟨z,cs',rfl,hS5,hor⟩;obtain⟨rfl,rfl⟩:z=0∧cs'=withC cs ⟨keyL[k]'hk12,⟨#[]⟩,true⟩:=(by rcases hor with⟨h1,h2,h3⟩|⟨h1,h2,h3⟩;exact⟨h2,h3⟩;(rw [hfo] at h1;cases h1));clear hor;have hB5:=H.out.book.on hS5.kept H.out.own;have e1:=hB5.there k hk12;rw [hfb] at e1;have e2:=hB5.free k;obtain⟨X6,hX6⟩:∃ X6,X5.setCell ⟨q,k,none⟩ (.bool false)=X6:=⟨_,rfl⟩;have hB6:BookAt X6 q (th.set k false) vs:=hX6▸hB5.setThere k hk12 false;have e3:=hB6.value k hk12;have e4:=hB6.free (12+k);obtain⟨X7,hX7⟩:∃ X7,X6.setCell ⟨q,12+k,none⟩ (.string ⟨#[]⟩)=X7:=⟨_,rfl⟩;have hB7:BookAt X7 q (th.set k false) (vs.set k ⟨#[]⟩):=hX7▸hB6.setValue k hk12 ⟨#[]⟩;have hS7:=(hX7▸(hX6▸hS5.poke ⟨q,k,none⟩ H.out.own _:SkO keyL n Kp X6 X6 d b j m o ao true x _).poke ⟨q,12+k,none⟩ H.out.own _:SkO keyL n Kp X7 X7 d b j m o ao true x _);have HO:Hid (On (fun k=>Kp k∧k≠q) wq X7):=(by have o1:On (fun k=>Kp k∧k≠q) wq X5:=hS5.kept.mono (fun i hi=>hi.1);rw [← hX7,← hX6];exact(o1.setCell (p:=⟨q,k,none⟩) (fun e=>e.2 rfl) _).setCell (p:=⟨q,12+k,none⟩) (fun e=>e.2 rfl) _)))
   go_ret
   obtain⟨fs,hro,_⟩:=H.out.rooted
   have hgd:(⟨keyL[k]'hk12,⟨#[]⟩,true⟩:Ch).good:=put_good k hk12 ⟨#[]⟩ (by decide) true
   obtain⟨w1,w2,w3⟩:=H.out.ok.with (by omega) ⟨keyL[k]'hk12,⟨#[]⟩,true⟩ hgd (key_at k hk12)
   exact⟨rfl,_,_,_,⟨hS7,w1,hB7,H.out.own,H.out.told.change (oents_rise hro) H.out.ok.rise k hk12 ⟨#[]⟩ true⟩,w3,HO.out⟩
  | false =>
   go_enter Tryz.func19,Tryz.ntmps19
   go_wp2_with (first
    | (go_at_call 22;(with_reducible refine Calls.mono hP1 ?_);rintro e X ⟨rfl,hX⟩;subst X)
    | (go_at_call 22;(with_reducible refine Calls.mono hP2 ?_);rintro e X ⟨rfl,hX⟩;subst X)
    | (go_at_call 24;(with_reducible refine Calls.mono hKy ?_);rintro e X4 ⟨rfl,hb4⟩;have hDe:=del_k (H.out.st.step hb4) (keyL[k]'hk12) H.out.ok.rise H.out.ok.len ks.1 ks.2)
    | (go_at_call 25;(with_reducible refine Calls.mono hDe ?_);rintro e X5 ⟨z,cs',rfl,hS5,hor⟩;obtain⟨rfl,rfl⟩:z=5∧cs'=cs:=(by rcases hor with⟨h1,h2,h3⟩|⟨h1,h2,h3⟩;(rw [hfo] at h1;cases h1);exact⟨h2,h3⟩);clear hor;have hB5:=H.out.book.on hS5.kept H.out.own;have e1:=hB5.there k hk12;rw [hfb] at e1;have e2:=hB5.free k;obtain⟨X6,hX6⟩:∃ X6,X5.setCell ⟨q,k,none⟩ (.bool false)=X6:=⟨_,rfl⟩;have hB6:BookAt X6 q (th.set k false) vs:=hX6▸hB5.setThere k hk12 false;have e3:=hB6.value k hk12;have e4:=hB6.free (12+k);obtain⟨X7,hX7⟩:∃ X7,X6.setCell ⟨q,12+k,none⟩ (.string ⟨#[]⟩)=X7:=⟨_,rfl⟩;have hB7:BookAt X7 q (th.set k false) (vs.set k ⟨#[]⟩):=hX7▸hB6.setValue k hk12 ⟨#[]⟩;have hS7:=(hX7▸(hX6▸hS5.poke ⟨q,k,none⟩ H.out.own _:SkO keyL n Kp X6 X6 d b j m o ao true x _).poke ⟨q,12+k,none⟩ H.out.own _:SkO keyL n Kp X7 X7 d b j m o ao true x _);have HO:Hid (On (fun k=>Kp k∧k≠q) wq X7):=(by have o1:On (fun k=>Kp k∧k≠q) wq X5:=hS5.kept.mono (fun i hi=>hi.1);rw [← hX7,← hX6];exact(o1.setCell (p:=⟨q,k,none⟩) (fun e=>e.2 rfl) _).setCell (p:=⟨q,12+k,none⟩) (fun e=>e.2 rfl) _)))
   go_ret
   exact⟨rfl,_,_,_,⟨hS7,H.out.ok,hB7,H.out.own,H.out.told.blank k hk12 ⟨#[]⟩ hfb⟩,by omega,HO.out⟩
theorem rising_eq:∀ {a b:List ByteArray},a.Pairwise (fun x y=>lt x y=true)→b.Pairwise (fun x y=>lt x y=true)→(∀ x,x∈a↔x∈b)→a=b
 | [],[],_,_,_=>rfl
 | [],y :: b,_,_,h=>by have:=(h y).2 (by simp);simp at this
 | x :: a,[],_,_,h=>by have:=(h x).1 (by simp);simp at this
 | x :: a,y :: b,ha,hb,h=>by
  obtain⟨ha1,ha2⟩:=List.pairwise_cons.1 ha
  obtain⟨hb1,hb2⟩:=List.pairwise_cons.1 hb
  have hxy:x=y:=by
   rcases List.mem_cons.1 ((h x).1 (by simp)) with e|hx
   ·exact e
   ·rcases List.mem_cons.1 ((h y).2 (by simp)) with e|hy
    ·exact e.symm
    ·have h1:=hb1 x hx
     have h2:=ha1 y hy
     rw [lt_asymm h1] at h2;cases h2
  subst hxy
  congr 1
  refine rising_eq ha2 hb2 fun z=>⟨fun hz=>?_,fun hz=>?_⟩
  ·rcases List.mem_cons.1 ((h z).1 (by simp [hz])) with e|hz'
   ·subst e;have:=ha1 z hz;rw [lt_irrefl] at this;cases this
   ·exact hz'
  ·rcases List.mem_cons.1 ((h z).2 (by simp [hz])) with e|hz'
   ·subst e;have:=hb1 z hz;rw [lt_irrefl] at this;cases this
   ·exact hz'
theorem keyL_rise:keyL.Pairwise (fun x y=>lt x y=true):=by decide +kernel
def onL (th:List Bool):List (ByteArray×Bool):=keyL.zip th
def cnt (th:List Bool) (k:Nat):Nat:=(((onL th).take k).filter (·.2)).length
theorem onL_len {th:List Bool} (h:th.length=12):(onL th).length=12:=by simp [onL,h,show keyL.length=12 from rfl]
theorem onL_at {th:List Bool} (h:th.length=12) (k:Nat) (hk:k<12):(onL th)[k]'(by rw [onL_len h];exact hk)=(keyL[k]'hk,th[k]'(by omega)):=by
 simp only [onL,List.getElem_zip]
 rfl
theorem cnt_zero (th:List Bool):cnt th 0=0:=by simp [cnt]
theorem cnt_succ {th:List Bool} (h:th.length=12) (k:Nat) (hk:k<12):cnt th (k+1)=cnt th k+(if th[k]'(by omega)=true then 1 else 0):=by
 unfold cnt
 rw [List.take_succ_eq_append_getElem (by rw [onL_len h];exact hk),List.filter_append,jK,onL_at h k hk]
 cases th[k]'(by omega)<;>rfl
theorem told_keys {xs:List En} {th:List Bool} {vs:List ByteArray} (h:Told xs th vs):xs.map (fun x=>x.e.key)=((onL th).filter (·.2)).map (·.1):=by
 have hl:=onL_len h.lt
 refine rising_eq (List.pairwise_map.2 h.rise) ?_ fun key=>⟨fun hx=>?_,fun hx=>?_⟩
 ·have:(((onL th).filter (·.2)).map (·.1)).Sublist keyL:=by
   have h1:(((onL th).filter (·.2)).map (·.1)).Sublist ((onL th).map (·.1)):=List.Sublist.map _ List.filter_sublist
   rw [show (onL th).map (·.1)=keyL from List.map_fst_zip (by rw [h.lt];decide)] at h1
   exact h1
  exact List.Pairwise.sublist this keyL_rise
 ·obtain⟨x,hx1,rfl⟩:=List.mem_map.1 hx
  obtain⟨k,hk,e⟩:=List.getElem_of_mem (h.keys x hx1)
  have ht:=h.tells k hk
  have hv:valOf xs (keyL[k]'hk)=some x.value:=(valOf_some h.rise).2 ⟨x,hx1,e.symm,rfl⟩
  rw [hv] at ht
  have hth:th[k]'(by have:=h.lt;have:k<12:=hk;omega)=true:=by
   cases hq:th[k]'(by have:=h.lt;have:k<12:=hk;omega) with
   | true=>rfl
   | false=>rw [hq] at ht;simp at ht
  refine List.mem_map.2 ⟨(keyL[k]'hk,true),List.mem_filter.2 ⟨?_,rfl⟩,e⟩
  rw [← hth,← onL_at h.lt k hk]
  exact List.getElem_mem _
 ·obtain⟨p,hp,rfl⟩:=List.mem_map.1 hx
  obtain⟨hp1,hp2⟩:=List.mem_filter.1 hp
  obtain⟨k,hk,e⟩:=List.getElem_of_mem hp1
  rw [hl] at hk
  rw [onL_at h.lt k hk] at e
  subst e
  have ht:=h.tells k hk
  rw [show th[k]'(by have:=h.lt;omega)=true from hp2] at ht
  obtain⟨x,hx1,e1,_⟩:=(valOf_some h.rise).1 (ht.trans (if_pos rfl))
  exact List.mem_map.2 ⟨x,hx1,e1⟩
theorem told_len {xs:List En} {th:List Bool} {vs:List ByteArray} (h:Told xs th vs):xs.length=cnt th 12:=by
 have:=congrArg List.length (told_keys h)
 rw [List.length_map,List.length_map] at this
 rw [this,cnt,List.take_of_length_le (by rw [onL_len h.lt];exact jU _)]
theorem told_at {xs:List En} {th:List Bool} {vs:List ByteArray} (h:Told xs th vs) (k:Nat) (hk:k<12) (ht:th[k]'(by have:=h.lt;omega)=true):∃ hc:cnt th k<xs.length,(xs[cnt th k]).e.key=keyL[k]'hk∧(xs[cnt th k]).value=(vs[k]'(by have:=h.lv;omega)).data.toList:=by
 have hl:=onL_len h.lt
 have hks:=told_keys h
 have hsplit:(onL th).filter (·.2)=((onL th).take k).filter (·.2)++(keyL[k]'hk,true) :: ((onL th).drop (k+1)).filter (·.2):=by
  conv=>lhs;rw [← List.take_append_drop k (onL th),List.filter_append,List.drop_eq_getElem_cons (by rw [hl];exact hk),onL_at h.lt k hk,ht,List.filter_cons,if_pos rfl]
 have hlen:=congrArg List.length hks
 rw [List.length_map,List.length_map,hsplit,jK,List.length_cons] at hlen
 have hc:cnt th k<xs.length:=by unfold cnt;omega
 have hkey:(xs[cnt th k]).e.key=keyL[k]'hk:=by
  have h1:(xs.map (fun x=>x.e.key))[cnt th k]?=some (xs[cnt th k]).e.key:=by rw [List.getElem?_map,jQ hc];rfl
  obtain⟨y,hy⟩:∃ y,(xs[cnt th k]).e.key=y:=⟨_,rfl⟩
  rw [hy] at h1 ⊢
  rw [hks,hsplit,List.getElem?_map] at h1
  unfold cnt at h1
  rw [List.getElem?_append_right (jU _),Nat.sub_self] at h1
  simpa using h1.symm
 refine⟨hc,hkey,?_⟩
 have hv:valOf xs (keyL[k]'hk)=some (xs[cnt th k]).value:=(valOf_some h.rise).2 ⟨_,List.getElem_mem hc,hkey,rfl⟩
 have htl:=h.tells k hk
 rw [hv,ht] at htl
 simpa using htl
theorem pcells_at:∀ {l:List En} {j:Nat} (hj:j<l.length),(pcells l)[j * 2]?=some (.string (l[j]).e.key)∧(pcells l)[j * 2+1]?=some (.string ⟨(l[j]).value.toArray⟩)
 | [],j,hj=>by simp at hj
 | x :: l,0,hj=>by simp [pcells]
 | x :: l,j+1,hj=>by
  have:=pcells_at (l:=l) (j:=j) (by simpa using hj)
  have e1:(j+1) * 2=j * 2+2:=by omega
  have e2:(j+1) * 2+1=j * 2+1+2:=by omega
  rw [e2,e1]
  simpa [pcells] using this
theorem cnt_le (th:List Bool) (h:th.length=12) (k:Nat):cnt th k≤12:=by
 unfold cnt
 refine vJ (List.length_filter_le _ _) ?_
 rw [List.length_take,onL_len h];omega
theorem bytes_back (v:ByteArray):(⟨v.data.toList.toArray⟩:ByteArray)=v:=by simp
structure SeeSt (wo:World) (n:Nat) (Kp:Bl) (w wq:World) (d b j m:Nat) (o ao:Option (Nat×T)) (wb:Bool) (x:Int) (cs:List Ch) (q:Nat) (th:List Bool) (vs:List ByteArray) (v:Value) (xs:List En):Prop where
 st:SkO keyL n Kp w wq d b j m o ao wb x cs
 book:BookAt wq q th vs
 row:wq.ownsRow 0 60 2 v xs.length (pcells xs)
 nq:q≠d
 nv:v.ownBlock≠some d
 fr:Fr (Bl.one d) wo wq
theorem SeeSt.step {wo:World} {n:Nat} {Kp:Bl} {w wq w':World} {d b j m:Nat} {o ao:Option (Nat×T)} {wb:Bool} {x:Int} {cs:List Ch} {q:Nat} {th:List Bool} {vs:List ByteArray} {v:Value} {xs:List En} (h:SeeSt wo n Kp w wq d b j m o ao wb x cs q th vs v xs) (hb:Below wq.heap.size wq w'):SeeSt wo n Kp w w' d b j m o ao wb x cs q th vs v xs:=by
 have hq:q<wq.heap.size:=(jJ.1 h.book.box).1
 exact⟨h.st.step hb,h.book.on (vV hb (Y:=Bl.one q) (fun i hi=>by simp only [Bl.one] at hi;omega)) rfl,own_on h.row (vV hb (Y:=fun k=>v.ownBlock=some k) (fun k hk=>own_lt h.row hk)) (fun k hk=>hk),h.nq,h.nv,h.fr.trans (Fr.of_below hb)⟩
theorem SeeSt.read {wo:World} {n:Nat} {Kp:Bl} {w wq w':World} {d b j m:Nat} {o ao:Option (Nat×T)} {wb:Bool} {x:Int} {cs:List Ch} {q:Nat} {th:List Bool} {vs:List ByteArray} {v:Value} {xs:List En} (h:SeeSt wo n Kp w wq d b j m o ao wb x cs q th vs v xs) (hs:SkO keyL n Kp w w' d b j m o ao wb x cs) (hF:Fr (Bl.one d) wq w'):SeeSt wo n Kp w w' d b j m o ao wb x cs q th vs v xs :=
 ⟨hs,⟨hF.heap h.book.box (fun e=>by simp only [Bl.one] at e;exact h.nq e),h.book.lt,h.book.lv⟩,own_keep h.row hF (fun k hk e=>by simp only [Bl.one] at e;subst e;exact h.nv hk),h.nq,h.nv,h.fr.trans hF⟩
theorem SkO.lies {K:List ByteArray} {n:Nat} {Kp:Bl} {w wq:World} {d b j m:Nat} {o ao:Option (Nat×T)} {wb:Bool} {x:Int} {cs:List Ch} (h:SkO K n Kp w wq d b j m o ao wb x cs):d<wq.heap.size:=by
 obtain⟨D,h,_,rfl,_⟩:=h
 exact(jJ.1 h.db.box).1
theorem SkO.rooted {K:List ByteArray} {n:Nat} {Kp:Bl} {w wq:World} {d b j m:Nat} {o ao:Option (Nat×T)} {wb:Bool} {x:Int} {cs:List Ch} (h:SkO K n Kp w wq d b j m o ao wb x cs):∃ fs,Rooted fs (rootOf o) o:=by
 obtain⟨D,hD,_⟩:=h
 exact⟨D.fs,hD.store.sure.rooted⟩
theorem sees_gen {n:Nat} {Kp:Bl} {w wq:World} {d b j m:Nat} {o ao:Option (Nat×T)} {wb:Bool} {x:Int} {cs:List Ch} (h:SkO keyL n Kp w wq d b j m o ao wb x cs) (hc:CsOk keyL cs) (th:List Bool) (vs:List ByteArray) (ht:Told (overE (oents o) cs) th vs) :
  Calls Tryz.prog 20 #[.pointer (some ⟨d,0,none⟩),.int .i64 x,.agg (bookC th vs)] wq fun e w'=>e=.returned (.bool true)∧SkO keyL n Kp w w' d b j m o ao wb x cs∧Fr (Bl.one d) wq w':=by
 obtain⟨W1,hW1⟩:∃ W1,wq.alloc (.cells (bookC th vs) 30)=W1:=⟨_,rfl⟩
 have b1:Below wq.heap.size wq W1:=hW1▸(Below.refl _ _).alloc (jU _) _
 have x1:BookAt W1 wq.heap.size th vs:=⟨hW1▸heap_new wq _,ht.lt,ht.lv⟩
 have z1:W1.heap.size=wq.heap.size+1:=by rw [← hW1];simp
 have hd:=h.lies
 obtain⟨fs,hro⟩:=h.rooted
 have hall:=seenE_all hro cs
 obtain⟨xs,hxs⟩:∃ xs,overE (oents o) cs=xs:=⟨_,rfl⟩
 rw [hxs] at ht hall
 have hlen:xs.length=cnt th 12:=told_len ht
 have hl12:xs.length≤12:=hlen▸cnt_le th ht.lt 12
 have hSc:=scan_k (h.step b1) hc whole 100 (by decide) (by decide) (by rw [hall];omega) (by decide)
 rw [hall] at hSc
 have HX:Hid (overE (oents o) cs=xs):=hxs
 have HL:Hid (xs.length=cnt th 12):=hlen
 have HC:Hid (CsOk keyL cs):=hc
 have HZ:Hid (W1.heap.size=wq.heap.size+1):=z1
 clear hxs hlen hc hall hro z1
 go_enter Tryz.func20,Tryz.ntmps20
 go_wp2_with (go_at_call 28;(with_reducible refine Calls.mono hSc ?_);rintro e X ⟨v,rfl,hSX,hFX,hrow,hli⟩;obtain⟨va,vc,rfl⟩:=own_shape hrow;have HS0:SeeSt wq n Kp w X d b j m o ao wb x cs wq.heap.size th vs (.slice va xs.length vc) xs:=⟨hSX,⟨hFX.heap x1.box (fun e=>by simp only [Bl.one] at e;omega),x1.lt,x1.lv⟩,hrow,by omega,fun e=>by have:=hli _ e;have:=HZ.out;omega,(Fr.of_below b1).trans hFX⟩)
 go_loopw [7,10] (fun nn kk wr=>∃ k:Nat,kk=.int .i64 k∧k≤12∧nn=.int .i64 (cnt th k:Nat)∧SeeSt wq n Kp w wr d b j m o ao wb x cs wq.heap.size th vs (.slice va xs.length vc) xs) (fun _ kk _=>12-(intOf kk).toNat)
 case atStart=>exact⟨0,rfl,by omega,by rw [cnt_zero];rfl,HS0⟩
 case round =>
  obtain⟨k,rfl,hk,rfl,HS⟩:=hrel
  by_cases hlt:k<12
  ·have hki:(k:Int)<12:=by omega
   have hKy:∀ X,Calls Tryz.prog 24 #[.int .i64 (k:Nat)] X fun e w'=>e=.returned (.string (keyL[k]'hlt))∧Below X.heap.size X w':=fun X=>key_any k hlt X
   have ks:=key_size _ (key_at k hlt)
   have htl:=ht.tells k hlt
   have hcs:=cnt_succ ht.lt k hlt
   have hta:=told_at ht k hlt
   obtain⟨kk,hkk⟩:∃ kk,keyL[k]'hlt=kk:=⟨_,rfl⟩
   simp only [hkk] at hKy ks htl hta
   have HKY:Hid (∀ X,Calls Tryz.prog 24 #[.int .i64 (k:Nat)] X fun e w'=>e=.returned (.string kk)∧Below X.heap.size X w'):=hKy
   have hK1:=hKy wr
   obtain⟨vv,hvv⟩:∃ vv,vs[k]'(by have:=ht.lv;omega)=vv:=⟨_,rfl⟩
   obtain⟨tt,htt⟩:∃ tt,th[k]'(by have:=ht.lt;omega)=tt:=⟨_,rfl⟩
   simp only [hvv,htt] at htl hta hcs
   have HSN:Hid (SeeSt wq n Kp w wr d b j m o ao wb x cs wq.heap.size th vs (.slice va xs.length vc) xs):=HS
   have hSV:seenV o cs kk=if tt=true then some vv.data.toList else none:=by unfold seenV;rw [HX.out];exact htl
   clear hKy htl HS hkk
   cases tt with
   | false =>
    have HCN:Hid (cnt th (k+1)=cnt th k):=by show _=_;rw [hcs];rfl
    clear hcs hta
    go_wp2_with (first
     | (go_at_call 24;(with_reducible refine Calls.mono hK1 ?_);rintro e X1 ⟨rfl,hb1⟩;have hG:=get_k (HSN.out.step hb1).st HC.out kk ks.1 ks.2)
     | (go_at_call 30;(with_reducible refine Calls.mono hG ?_);rintro e X2 ⟨v2,z,rfl,hS2,hF2,hor⟩;obtain rfl:z=5:=(by rcases hor with⟨_,h2,_⟩|⟨l,h1,_⟩;exact h2;(rw [hSV] at h1;simp at h1));clear hor;have hN2:=(HSN.out.step hb1).read hS2 hF2;have e1:=hN2.book.there k hlt;rw [htt] at e1))
    refine⟨⟨k+1,by go_num,by omega,by rw [HCN.out],hN2⟩,by simp [intOf];omega⟩
   | true =>
    have HCN:Hid (cnt th (k+1)=cnt th k+1):=by show _=_;rw [hcs];rfl
    obtain⟨hci,hck,hcv⟩:=hta rfl
    obtain⟨pc0,pc1⟩:=pcells_at hci
    rw [hck] at pc0
    rw [hcv,bytes_back] at pc1
    rw [if_pos rfl] at hSV
    obtain⟨c,hcn⟩:∃ c,cnt th k=c:=⟨_,rfl⟩
    have HCK:Hid (cnt th k=c):=hcn
    simp only [hcn] at pc0 pc1 hci ⊢
    clear hcs hta hck hcv hcn
    have hci':(c:Int)<(xs.length:Int):=by omega
    go_wp2_with (first
     | (go_at_call 24;(with_reducible refine Calls.mono hK1 ?_);rintro e X1 ⟨rfl,hb1⟩;have hG:=get_k (HSN.out.step hb1).st HC.out kk ks.1 ks.2)
     | (go_at_call 30;(with_reducible refine Calls.mono hG ?_);rintro e X2 ⟨v2,z,rfl,hS2,hF2,hor⟩;obtain⟨rfl,rfl⟩:z=0∧v2=vv:=(by rcases hor with⟨h1,_⟩|⟨l,h1,h2,h3⟩;(rw [hSV] at h1;cases h1);(rw [hSV] at h1;cases h1;exact⟨h2,h3.trans (bytes_back vv)⟩));clear hor;have hN2:=(HSN.out.step hb1).read hS2 hF2;have e1:=hN2.book.there k hlt;rw [htt] at e1;have e2:=hN2.book.value k hlt;rw [hvv] at e2;obtain⟨g,hg,hgl,hgc,e3⟩:=own_get hN2.row pc0;obtain⟨g',hg',_,_,e4⟩:=own_get hN2.row pc1;subst hg;obtain rfl:g=g':=(by simpa using hg');clear hg'))
    have hnge:decide ((xs.length:Int)≤(c:Int))=false:=by simp;omega
    have hnge2:¬ ((xs.length:Int)≤(c:Int)):=by omega
    clear hSV hvv htt pc0 pc1 hK1 hG hS2 hF2
    go_region_held3 (fun X=>X.cell? ⟨wq.heap.size,12+k,none⟩=some (.string v2)∧X.cell? ⟨g,c * 2,none⟩=some (.string kk)∧X.cell? ⟨g,c * 2+1,none⟩=some (.string v2))
     ((first|(with_reducible exact⟨f2,f3,f4⟩)|(with_reducible exact⟨e2,e3,e4⟩)|exact⟨e2,e3,e4⟩))
     ((go_at_call 24;(with_reducible refine Calls.mono (HKY.out _) ?_);rintro e X3 ⟨rfl,hb3⟩;have hb3':Below X2.heap.size X2 X3:=(Below.refl _ _).drew.trans hb3;have hN3:=hN2.step hb3';have hq2:wq.heap.size<X2.heap.size:=(jJ.1 hN2.book.box).1;have f2:=(World.cell?_of_block (w:=X2) (a:=⟨wq.heap.size,12+k,none⟩) (hb3'.block _ hq2)).trans e2;have f3:=(World.cell?_of_block (w:=X2) (a:=⟨g,c * 2,none⟩) (hb3'.block _ hgl)).trans e3;have f4:=(World.cell?_of_block (w:=X2) (a:=⟨g,c * 2+1,none⟩) (hb3'.block _ hgl)).trans e4))
    go_wp2
    refine⟨⟨k+1,by go_num,by omega,?_,hN3⟩,by simp [intOf];omega⟩
    rw [HCN.out,HCK.out]
    go_num
  ·obtain rfl:k=12:=by omega
   have hnl:cnt th 12=xs.length:=HL.out.symm
   rw [hnl]
   clear hnl
   go_wp2
   go_ret
   exact⟨rfl,HS.st,HS.fr⟩
theorem sees_any {n:Nat} {Kp:Bl} {w wq:World} {d b j m:Nat} {o ao:Option (Nat×T)} {wb:Bool} {x:Int} {cs:List Ch} (h:SkO keyL n Kp w wq d b j m o ao wb x cs) (hc:CsOk keyL cs) (th:List Bool) (vs:List ByteArray) (ht:Told (overE (oents o) cs) th vs) :
  Calls Tryz.prog 20 #[.pointer (some ⟨d,0,none⟩),.int .i64 x,.agg (bookC th vs)] wq fun e w'=>e=.returned (.bool true)∧SkO keyL n Kp w w' d b j m o ao wb x cs :=
 (sees_gen h hc th vs ht).mono fun _ _ ⟨h1,h2,_⟩=>⟨h1,h2⟩
theorem bookC_size {th:List Bool} {vs:List ByteArray} (h1:th.length=12) (h2:vs.length=12):(bookC th vs).size=24:=by simp [bookC,h1,h2]
theorem infoBook:(Tryz.prog.info? 30).map (·.size)=some 24:=by kernel_rfl
theorem bookRow:∃ d,Tryz.prog.underlying 30=some d∧d.isRow=true:=⟨_,Tryz.underlying30,rfl⟩
theorem BookAt.range {w:World} {q:Nat} {th:List Bool} {vs:List ByteArray} (h:BookAt w q th vs):w.rangeAt q 0 (bookC th vs).toList:=by
 intro j v hv
 simp [World.cell?,h.box,Array.getElem?_toList] at hv ⊢
 exact hv
theorem wp_book {ops:Array Oper} {rest:List Oper} {op:Oper} {a:Act} {w:World} {Q:Exit→Act→World→Prop} (hgd:op.guard=none) (x:Operand) (ho:op.op=.load 30 x) (q:Nat) (hx:a.eval x=.pointer (some ⟨q,0,none⟩)) {th:List Bool} {vs:List ByteArray} (hb:BookAt w q th vs)
  (h:wpList Tryz.prog ops Q rest (a.put op.dst (.agg (bookC th vs))) w):wpList Tryz.prog ops Q (op :: rest) a w:=by
 obtain⟨d,h1,h2⟩:=bookRow
 exact wpList_load_mid hgd _ x ho q 0 hx (bookC th vs).toList d hb.range h1 h2 (by rw [infoBook,Array.length_toList,bookC_size hb.lt hb.lv]) (by simpa using h)
theorem SkL.step {K:List ByteArray} {n:Nat} {Kp:Bl} {w wq w':World} {d b j m:Nat} {o ao:Option (Nat×T)} (h:SkL K n Kp w wq d b j m o ao) (hb:Below wq.heap.size wq w'):SkL K n Kp w w' d b j m o ao:=by
 obtain⟨D,h,r⟩:=h
 exact⟨D,⟨h.db.on (vV hb h.db.lies),h.well,h.failed,h.ver,h.root,h.aroot,h.last0,h.last1,h.store,h.new,h.kept.trans (vV hb (fun k hk=>jY (h.lies k hk) h.kept.size)),h.lies⟩,r⟩
theorem Sk.less {K:List ByteArray} {n:Nat} {Kp Kq:Bl} {w wq:World} {D:Db} {j m:Nat} {o ao:Option (Nat×T)} (h:Sk K n Kp w wq D j m o ao) (w0:World) (hs:∀ k,Kq k→Kp k) (ho:On Kq w0 w) (hl:∀ k,Kq k→k<w0.heap.size):Sk K n Kq w0 wq D j m o ao :=
 ⟨h.db,h.well,h.failed,h.ver,h.root,h.aroot,h.last0,h.last1,h.store,fun k hk hq=>h.new k hk (hs k hq),ho.trans (h.kept.mono hs),hl⟩
theorem SkL.make {K:List ByteArray} {n:Nat} {Kp:Bl} {w wq:World} {d b j m:Nat} {o ao:Option (Nat×T)} (h:SkL K n Kp w wq d b j m o ao) (ob:Obj):SkL K n (Bl.or Kp (Bl.one wq.heap.size)) (wq.alloc ob) (wq.alloc ob) d b j m o ao:=by
 obtain⟨D,h,r⟩:=h
 exact⟨D,h.make ob,r⟩
theorem SkL.less {K:List ByteArray} {n:Nat} {Kp Kq:Bl} {w wq:World} {d b j m:Nat} {o ao:Option (Nat×T)} (h:SkL K n Kp w wq d b j m o ao) (w0:World) (hs:∀ k,Kq k→Kp k) (ho:On Kq w0 w) (hl:∀ k,Kq k→k<w0.heap.size):SkL K n Kq w0 wq d b j m o ao:=by
 obtain⟨D,h,r⟩:=h
 exact⟨D,h.less w0 hs ho hl,r⟩
theorem SkL.kept {K:List ByteArray} {n:Nat} {Kp:Bl} {w wq:World} {d b j m:Nat} {o ao:Option (Nat×T)} (h:SkL K n Kp w wq d b j m o ao):On Kp w wq:=by
 obtain⟨D,h,_⟩:=h
 exact h.kept
theorem SkL.below {K:List ByteArray} {n:Nat} {Kp:Bl} {w wq:World} {d b j m:Nat} {o ao:Option (Nat×T)} (h:SkL K n Kp w wq d b j m o ao):∀ k,Kp k→k<w.heap.size:=by
 obtain⟨D,h,_⟩:=h
 exact h.lies
theorem SkL.now {K:List ByteArray} {n:Nat} {Kp:Bl} {w wq:World} {d b j m:Nat} {o ao:Option (Nat×T)} (h:SkL K n Kp w wq d b j m o ao):SkL K n Kp wq wq d b j m o ao:=by
 obtain⟨D,h,r⟩:=h
 exact⟨D,h.now,r⟩
theorem Fr.setCells {Y:Bl} (q:Nat) (hq:Y q):∀ (vs:List Value) (o:Nat) (w:World),Fr Y w (w.setCells q o vs)
 | [],_,w=>Fr.refl Y w
 | v :: vs,o,w=>((Fr.refl Y w).setCell (p:=⟨q,o,none⟩) (.inl hq) v).trans ((Fr.setCells q hq vs (o+1) _).mono (fun k hk=>.inl hk))
theorem heap_setCells {q:Nat} {t:TypeId}:∀ (vs:List Value) (o:Nat) (w:World) (pre old post:List Value),w.heap[q]?=some (.cells (pre++old++post).toArray t)→pre.length=o→old.length=vs.length→(w.setCells q o vs).heap[q]?=some (.cells (pre++vs++post).toArray t)
 | [],o,w,pre,old,post,h,_,hl=>by
  obtain rfl:old=[]:=List.eq_nil_of_length_eq_zero hl
  exact h
 | v :: vs,o,w,pre,[],post,h,_,hl=>by simp at hl
 | v :: vs,o,w,pre,u :: old,post,h,hp,hl=>by
  have h1:=set_of h o v
  have e:(pre++u :: old++post).toArray.setIfInBounds o v=((pre++[v])++old++post).toArray:=by
   simp only [jV,List.append_assoc,List.cons_append,List.nil_append]
   rw [List.set_append_right _ _ (by omega),show o-pre.length=0 by omega]
   rfl
  rw [e] at h1
  have:=heap_setCells vs (o+1) _ (pre++[v]) old post h1 (by simp [hp]) (by simpa using hl)
  rw [World.setCells]
  simpa using this
theorem bookC_one (th:List Bool) (vs:List ByteArray):(bookC th vs).all (·.oneCell')=true:=by
 unfold bookC
 refine all_oneCell_toArray fun v hv=>?_
 rcases List.mem_append.1 hv with h|h
 ·obtain⟨b,_,rfl⟩:=List.mem_map.1 h;rfl
 ·obtain⟨b,_,rfl⟩:=List.mem_map.1 h;rfl
theorem BookAt.all {w:World} {q:Nat} {th th':List Bool} {vs vs':List ByteArray} (h:BookAt w q th vs) (h1:th'.length=12) (h2:vs'.length=12):BookAt (w.setCells q 0 (bookC th' vs').toList) q th' vs':=by
 refine⟨?_,h1,h2⟩
 have hb:=h.box
 have:=heap_setCells (q:=q) (t:=30) (bookC th' vs').toList 0 w [] (bookC th vs).toList [] (by simpa using hb) rfl (by rw [Array.length_toList,Array.length_toList,bookC_size h.lt h.lv,bookC_size h1 h2])
 simpa using this
theorem wp_bookst {ops:Array Oper} {rest:List Oper} {op:Oper} {a:Act} {w:World} {Q:Exit→Act→World→Prop} (hgd:op.guard=none) (x y:Operand) (ho:op.op=.store 30 x y) (q:Nat) (hx:a.eval x=.pointer (some ⟨q,0,none⟩)) {th th':List Bool} {vs vs':List ByteArray} (hy:a.eval y=.agg (bookC th' vs')) (hb:BookAt w q th vs) (h1:th'.length=12) (h2:vs'.length=12)
  (h:∀ w',BookAt w' q th' vs'→Fr (Bl.one q) w w'→wpList Tryz.prog ops Q rest (a.put op.dst undef) w'):wpList Tryz.prog ops Q (op :: rest) a w:=by
 refine wpList_store_mid hgd _ x y ho q 0 (bookC th' vs') hx hy (fun j hj=>⟨?_,?_⟩) (by rw [infoBook,bookC_size h1 h2]) (bookC_one _ _) ?_
 ·rw [Nat.zero_add]
  have hz:=bookC_size hb.lt hb.lv
  rw [bookC_size h1 h2] at hj
  simp [World.cell?,hb.box,hz,hj]
 ·rw [Nat.zero_add];exact hb.free j
 ·exact h _ (hb.all h1 h2) (Fr.setCells (Y:=Bl.one q) q rfl _ _ _)
theorem Sk.touch {K:List ByteArray} {n:Nat} {Kp:Bl} {w wq w':World} {D:Db} {j m:Nat} {o ao:Option (Nat×T)} (h:Sk K n Kp w wq D j m o ao) {q:Nat} (hF:Fr (Bl.one q) wq w') (hq:Kp q):Sk K n Kp w' w' D j m o ao:=by
 have h':=h.now
 refine⟨h.db.on (hF.on (fun k hk=>⟨h.db.lies k hk,fun e=>by simp only [Bl.one] at e;subst e;exact h.new _ hk hq⟩)),h.well,h.failed,h.ver,h.root,h.aroot,h.last0,h.last1,h.store,h.new,On.refl _ _,fun k hk=>jY (h'.lies k hk) hF.size⟩
theorem SkO.make {K:List ByteArray} {n:Nat} {Kp:Bl} {w wq:World} {d b j m:Nat} {o ao:Option (Nat×T)} {wb:Bool} {x:Int} {cs:List Ch} (h:SkO K n Kp w wq d b j m o ao wb x cs) (ob:Obj):SkO K n (Bl.or Kp (Bl.one wq.heap.size)) (wq.alloc ob) (wq.alloc ob) d b j m o ao wb x cs:=by
 obtain⟨D,h,r⟩:=h
 exact⟨D,h.make ob,r⟩
theorem SkO.touch {K:List ByteArray} {n:Nat} {Kp:Bl} {w wq w':World} {d b j m:Nat} {o ao:Option (Nat×T)} {wb:Bool} {x:Int} {cs:List Ch} (h:SkO K n Kp w wq d b j m o ao wb x cs) {q:Nat} (hF:Fr (Bl.one q) wq w') (hq:Kp q):SkO K n Kp w' w' d b j m o ao wb x cs:=by
 obtain⟨D,h,r⟩:=h
 exact⟨D,h.touch hF hq,r⟩
theorem SkL.touch {K:List ByteArray} {n:Nat} {Kp:Bl} {w wq w':World} {d b j m:Nat} {o ao:Option (Nat×T)} (h:SkL K n Kp w wq d b j m o ao) {q:Nat} (hF:Fr (Bl.one q) wq w') (hq:Kp q):SkL K n Kp w' w' d b j m o ao:=by
 obtain⟨D,h,r⟩:=h
 exact⟨D,h.touch hF hq,r⟩
theorem ver_o {K:List ByteArray} {n:Nat} {Kp:Bl} {w wq:World} {d b j m:Nat} {o ao:Option (Nat×T)} {wb:Bool} {x:Int} {cs:List Ch} (h:SkO K n Kp w wq d b j m o ao wb x cs) :
  Calls Tryz.prog 17 #[.pointer (some ⟨d,0,none⟩)] wq fun e w'=>e=.returned (.int .i64 (j:Nat))∧SkO K n Kp w w' d b j m o ao wb x cs:=by
 obtain⟨D,h,r,rfl,r2⟩:=h
 refine(ver_k h).mono ?_
 rintro e w' ⟨rfl,h'⟩
 exact⟨rfl,D,h',r,rfl,r2⟩
theorem ver_i {K:List ByteArray} {n:Nat} {Kp:Bl} {w wq:World} {d b j m:Nat} {o ao:Option (Nat×T)} (h:SkL K n Kp w wq d b j m o ao) :
  Calls Tryz.prog 17 #[.pointer (some ⟨d,0,none⟩)] wq fun e w'=>e=.returned (.int .i64 (j:Nat))∧SkL K n Kp w w' d b j m o ao:=by
 obtain⟨D,h,r,rfl,r2⟩:=h
 refine(ver_k h).mono ?_
 rintro e w' ⟨rfl,h'⟩
 exact⟨rfl,D,h',r,rfl,r2⟩
theorem comm_k {n:Nat} (hK:KOk keyL n) {Kp:Bl} {w wq:World} {d b j m:Nat} {o ao:Option (Nat×T)} {wb:Bool} {x:Int} {cs:List Ch} (h:SkO keyL n Kp w wq d b j m o ao wb x cs) (hc:CsOk keyL cs) (hj:j≤1000000) {th:List Bool} {vs:List ByteArray} (ht:Told (overE (oents o) cs) th vs) :
  Calls Tryz.prog 26 #[.pointer (some ⟨d,0,none⟩),.int .i64 x] wq fun e w'=>e=.returned (.int .i64 0)∧∃ j' o' ao',SkL keyL n Kp w w' d b j' m o' ao'∧(j'=j∨j'=j+1)∧Told (oents o') th vs:=by
 obtain⟨fs,hro⟩:=h.rooted
 cases cs with
 | nil =>
  refine(com0_k h).mono ?_
  rintro e w' ⟨rfl,h'⟩
  rw [over_none (oents_rise hro)] at ht
  exact⟨rfl,j,o,ao,h',.inl rfl,ht⟩
 | cons c cs =>
  refine(com_k hK h hc (by simp) hj).mono ?_
  rintro e w' ⟨rfl,o1,h',hkv⟩
  obtain⟨fs1,hro1⟩:∃ fs,Rooted fs (rootOf o1) o1:=by obtain⟨D,hD,_⟩:=h';exact⟨D.fs,hD.store.sure.rooted⟩
  exact⟨rfl,j+1,o1,o,h',.inr rfl,ht.kv hkv (oents_rise hro1)⟩
theorem RowAt.onK {w w':World} {B:Nat} {a:Option Addr} {vs:List Value} {Y:Bl} (h:RowAt w B a vs) (ho:On Y w w') (hy:∀ k,k<B→Y k):RowAt w' B a vs:=by
 rcases h with h|⟨b,off,rfl,hb,hc⟩
 ·exact .inl h
 ·refine .inr ⟨b,off,rfl,hb,fun i u hu=>?_⟩
  have h1:=hc i u hu
  have hbl:b<w.heap.size:=by
   rcases Nat.lt_or_ge b w.heap.size with h|h
   ·exact h
   ·simp [World.cell?,Array.getElem?_eq_none h] at h1
  obtain⟨ob,hob⟩:∃ ob,w.heap[b]?=some ob:=⟨_,Array.getElem?_eq_getElem hbl⟩
  rw [World.cell?_of_block (w:=w) (a:=⟨b,off+i,none⟩) ((ho.heap hob (hy b hb)).trans hob.symm)]
  exact h1
abbrev zeroBook:Obj:=.cells #[.bool false,.bool false,.bool false,.bool false,.bool false,.bool false,.bool false,.bool false,.bool false,.bool false,.bool false,.bool false,.string ⟨#[]⟩,.string ⟨#[]⟩,.string ⟨#[]⟩,.string ⟨#[]⟩,.string ⟨#[]⟩,.string ⟨#[]⟩,.string ⟨#[]⟩,.string ⟨#[]⟩,.string ⟨#[]⟩,.string ⟨#[]⟩,.string ⟨#[]⟩,.string ⟨#[]⟩] 30
theorem book_zero (w:World):BookAt (w.alloc zeroBook) w.heap.size (List.replicate 12 false) (List.replicate 12 ⟨#[]⟩):=⟨heap_new w _,by simp,by simp⟩
structure BookSt (n:Nat) (Kp:Bl) (wq:World) (d b j m:Nat) (o ao:Option (Nat×T)) (q:Nat) (th:List Bool) (vs:List ByteArray):Prop where
 st:SkL keyL n Kp wq wq d b j m o ao
 book:BookAt wq q th vs
 own:Kp q
 told:Told (oents o) th vs
theorem commit_any {n:Nat} (hK:KOk keyL n) {Kp:Bl} {wq:World} {d b j m:Nat} {o ao:Option (Nat×T)} {q:Nat} {th:List Bool} {vs:List ByteArray} (h:BookSt n Kp wq d b j m o ao q th vs) (hm:m≤1000000) (hj:j≤1000000) (ra:Option Addr) (rc:Nat) (ns:List Int) (B:Nat) (hR:RowAt wq B ra (ns.map (.int .i64))) (hB:∀ k,k<B→Kp k∧k≠q) (hi64:∀ x∈ns,-9223372036854775808≤x∧x≤9223372036854775807) :
  Calls Tryz.prog 11 #[.pointer (some ⟨d,0,none⟩),.pointer (some ⟨q,0,none⟩),.slice ra ns.length rc] wq fun e w'=>e=.returned (.bool true)∧∃ j' o' ao' th' vs',BookSt n Kp w' d b j' (m+1) o' ao' q th' vs'∧j'≤j+1∧On (fun k=>Kp k∧k≠q) wq w':=by
 have hBg:=begin_k h.st true hm
 have H:Hid (BookSt n Kp wq d b j m o ao q th vs):=h
 clear h
 go_enter Tryz.func11,Tryz.ntmps11
 go_wp2_with (first
  | (go_at_call 18;(with_reducible refine Calls.mono hBg ?_);rintro e X2 ⟨x,rfl,hS2⟩;have x2:BookAt X2 q th vs:=H.out.book.on hS2.kept H.out.own;have xz:=book_zero X2)
  | (refine wp_book rfl (.tmp 24) rfl q rfl x2 ?_)
  | (refine wp_bookst rfl (.tmp 9) (.tmp 25) rfl X2.heap.size rfl rfl xz x2.lt x2.lv ?_;intro X3 hB3 hF3))
 have hz2:wq.heap.size≤X2.heap.size:=hS2.kept.size
 have hKl:∀ k,Kp k→k<wq.heap.size:=H.out.st.below
 have hbA:Below X2.heap.size X2 (X2.alloc zeroBook):=(Below.refl _ _).alloc (jU _) _
 have HO3:Hid (On Kp wq X3):=(hS2.kept.trans (vV hbA (fun k hk=>jY (hKl k hk) hz2))).trans (hF3.on (fun k hk=>⟨jY (hKl k hk) (vJ hz2 hbA.size),fun e=>by simp only [Bl.one] at e;have:=hKl k hk;omega⟩))
 have HD3:Hid (DeedSt n (Bl.or Kp (Bl.one X2.heap.size)) X3 d b j (m+1) o ao x [] X2.heap.size th vs):=⟨(hS2.make zeroBook).touch hF3 (.inr rfl),⟨.nil,by simp,by simp,by simp⟩,hB3,.inr rfl,by rw [over_none H.out.told.rise];exact H.out.told⟩
 have HX:Hid (BookAt X3 q th vs):=H.out.book.on HO3.out H.out.own
 obtain⟨nq,hnq⟩:∃ nq,X2.heap.size=nq:=⟨_,rfl⟩
 have HQ:Hid (wq.heap.size≤nq):=by show _≤_;omega
 have HKL:Hid (∀ k,Kp k→k<wq.heap.size):=hKl
 rw [hnq] at HD3 ⊢
 clear hS2 x2 xz hB3 hF3 hbA hz2 hnq hBg hKl
 go_loopw [10] (fun i wr=>∃ (k:Nat) (cs:List Ch) (th':List Bool) (vs':List ByteArray),i=.int .i64 k∧k≤8∧Hid (DeedSt n (Bl.or Kp (Bl.one nq)) wr d b j (m+1) o ao x cs nq th' vs')∧cs.length≤k∧Hid (On Kp wq wr)) (fun i _=>8-(intOf i).toNat)
 case atStart=>exact⟨0,[],th,vs,rfl,by omega,HD3,by simp,HO3⟩
 case round =>
  obtain⟨k,cs,th',vs',rfl,hk8,HD,hcl,HO⟩:=hrel
  by_cases hlt:k<ns.length∧k<8
  ·have hk1:(k:Int)<(ns.length:Int):=by omega
   have hk2:(k:Int)<8:=by omega
   obtain⟨y,hy⟩:∃ y,ns[k]'hlt.1=y:=⟨_,rfl⟩
   have hyr:=hi64 y (hy▸List.getElem_mem hlt.1)
   rcases RowAt.onK hR HO.out (fun k hk=>(hB k hk).1) with hR'|⟨rb,off,rfl,hrb,hRc⟩
   ·have h0:(ns.map (Value.int .i64)).length=0:=by rw [hR'];rfl
    rw [List.length_map] at h0
    omega
   have hcell:wr.cell? ⟨rb,off+k,none⟩=some (.int .i64 y):=hRc k _ (by rw [List.getElem?_map,jQ hlt.1,hy];rfl)
   have hDe:=deed_any HD.out y hyr.1 hyr.2 (by omega)
   clear hy hyr hRc
   go_wp2_with (go_at_call 19;(with_reducible refine Calls.mono hDe ?_);rintro e X4 ⟨rfl,cs2,th2,vs2,hD2,hl2,ho2⟩)
   exact⟨⟨k+1,cs2,th2,vs2,by go_num,by omega,hD2,by omega,HO.out.trans (ho2.mono (fun i hi=>⟨.inl hi,fun e=>by subst e;have:=HKL.out _ hi;have:=HQ.out;omega⟩))⟩,by simp [intOf];omega⟩
  ·have hSe:=sees_any HD.out.st HD.out.ok th' vs' HD.out.told
   have x4:=HD.out.book
   have hw:IntKind.i64.wrap ((j:Int)+1)=(j:Int)+1:=by rw [IntKind.wrap_i64];omega
   rcases (by omega:ns.length≤k∨(k<ns.length∧8≤k)) with hx|hx
   all_goals
    have hx1:(ns.length:Int)≤(k:Int)∨((k:Int)<(ns.length:Int)∧(8:Int)≤(k:Int)):=by omega
    go_wp2_with (first
     | (refine wp_book rfl (.tmp 9) rfl nq rfl x4 ?_)
     | (go_at_call 20;(with_reducible refine Calls.mono hSe ?_);rintro e X5 ⟨rfl,hS5⟩;have hV5:=ver_o hS5)
     | (go_at_call 17;(with_reducible refine Calls.mono hV5 ?_);rintro e X6 ⟨rfl,hS6⟩;have hC6:=comm_k hK hS6 HD.out.ok hj HD.out.told)
     | (go_at_call 26;(with_reducible refine Calls.mono hC6 ?_);rintro e X7 ⟨rfl,j',o',ao',hS7,hor,hT7⟩;have hV7:=ver_i hS7)
     | (go_at_call 17;(with_reducible refine Calls.mono hV7 ?_);rintro e X8 ⟨rfl,hS8⟩;have x8:=HD.out.book.on hS8.kept (.inr rfl);have y8:=(H.out.book.on HO.out H.out.own).on hS8.kept (.inl H.out.own))
     | (refine wp_book rfl (.tmp 9) rfl nq rfl x8 ?_)
     | (refine wp_bookst rfl (.tmp 58) (.tmp 57) rfl q rfl rfl y8 x8.lt x8.lv ?_;intro X9 hB9 hF9;rcases hor with rfl|rfl))
    all_goals
     go_ret
     have hL8:=hS8.less wr (fun i hi=>.inl hi) (On.refl _ _) (fun i hi=>jY (HKL.out i hi) HO.out.size)
     exact⟨rfl,_,_,_,_,_,⟨hL8.touch hF9 H.out.own,hB9,H.out.own,hT7⟩,by omega,(HO.out.mono (fun i hi=>hi.1)).trans ((hL8.kept.mono (fun i hi=>hi.1)).trans (hF9.on (fun i hi=>⟨jY (HKL.out i hi.1) (vJ HO.out.size hS8.kept.size),fun e=>by simp only [Bl.one] at e;exact hi.2 e⟩)))⟩
end Go.Proofs.YtfnhmpcpeahfkaaGreat.Tree
namespace Go.Proofs.YtfnhmpcpeahfkaaGreat.Tree
open Go.RowKit Go.Shelf Pages
attribute [local go_sem] Oper.semAt_some
theorem DbAt.still {w w':World} {st:Int} {D:Db} (h:DbAt w st D) (h':DbAt w' st D) (hF:Fr (Bl.one D.d) w w'):Below w.heap.size w w' :=
 ⟨hF.os,hF.tape,hF.output,hF.size,fun k hk=>by
  by_cases e:k=D.d
  ·subst e;rw [h.box,h'.box]
  ·exact hF.block k hk (fun h=>e h)⟩
theorem pc_at {xs:List En} {j:Nat} {x:En} (h:xs[j]?=some x):(pcells xs)[j * 2]?=some (.string x.e.key)∧(pcells xs)[j * 2+1]?=some (.string ⟨x.value.toArray⟩):=by
 unfold pcells
 induction xs generalizing j with
 | nil=>simp at h
 | cons y xs ih =>
  cases j with
  | zero=>simp at h;subst h;simp
  | succ j =>
   simp only [List.getElem?_cons_succ] at h
   obtain⟨h1,h2⟩:=ih h
   have e1:(j+1) * 2=j * 2+2:=by omega
   rw [e1]
   simp only [List.flatMap_cons]
   constructor
   ·rw [List.getElem?_append_right (by simp)];simpa using h1
   ·rw [List.getElem?_append_right (by simp)];simpa using h2
theorem each_iter (D:Db) (x:Int) (i:Nat) (t:Tx) (o:Option (Nat×T)) (q:Sp) (b0 b1 b2 b3:Nat) (Rd:Bl) (w:World) (h:DbAt w 0 D) (hal:(D.fs.life==0)=false) (hro:Rooted D.fs t.root o) (hfl:Flat2 o) (hn:D.ts.length≤1000) (hi:i<D.ts.length) (ht:D.ts[i]=t) (hx:idxT D.ts x=i) (hr:Rise t.cs) (hgd:∀ c∈t.cs,c.good) (hcs:t.cs.length≤1000) (hlo:q.lo.size≤24) (hhi:q.hi.size≤24) (hsm:(seenE o t.cs q).length≤1000000)
  (x0:w.heap[b0]?=some (.cells #[.pointer (some ⟨D.d,0,none⟩)] 23)) (x1:w.heap[b1]?=some (.cells #[.int .i64 x] 3)) (x2:w.heap[b2]?=some (.cells #[.string q.lo] 9)) (x3:w.heap[b3]?=some (.cells #[.string q.hi] 9)) (r0:Rd b0) (r1:Rd b1) (r2:Rd b2) (r3:Rd b3) (rD:∀ k,fpD D k→Rd k) :
  Iter Tryz.prog 55 #[.pointer (some ⟨b0,0,none⟩),.pointer (some ⟨b1,0,none⟩),.pointer (some ⟨b2,0,none⟩),.pointer (some ⟨b3,0,none⟩)] HasKV (seenE o t.cs q) Rd w:=by
 intro l J Jx Y W hon hRd sJ lJ sJx lJx hY h0
 refine callsIn_of_wp Tryz.func55 rfl trivial ?_ rfl
 simp only [Tryz.ntmps55,List.size_toArray,List.length_cons,List.length_nil,Nat.reduceAdd,Nat.reduceSub,Array.replicate_succ,Array.replicate_zero,List.push_toArray,List.append_toArray,List.nil_append,List.cons_append]
 have lY:=lJ [] Y W h0
 have hD:=h.on (hon.mono rD)
 have c0:=box1 (hon.heap x0 r0)
 have c1:=box1 (hon.heap x1 r1)
 have c2:=box1 (hon.heap x2 r2)
 have c3:=box1 (hon.heap x3 r3)
 have hSc:=scan_gen D x i t o q 9223372036854775807 W hD hal hro hfl hn hi ht hx hr hgd hcs hlo hhi hsm (jU _)
 rw [List.take_of_length_le (by omega)] at hSc
 obtain⟨xs,hxs⟩:∃ xs,seenE o t.cs q=xs:=⟨_,rfl⟩
 rw [hxs] at hSc hsm hY ⊢
 clear hxs hr hgd hcs hx ht hi hn hfl hro hal
 gi_wp2_with (refine⟨trivial,rfl,?_⟩;gi_at_call 28;refine(callsIn_wide.2 hSc).mono ?_;clear hSc;rintro e W1 ⟨v,rfl,hD1,hF1,hrow,hnew⟩;obtain⟨ra,rc,rfl⟩:=own_shape hrow)
 have B1:Below W.heap.size W W1:=hD.still hD1 hF1
 have HN:Hid (∀ k,(Value.slice ra xs.length rc).ownBlock=some k→W.heap.size≤k):=hnew
 have HB:Hid (Below W.heap.size W W1):=B1
 have HR1:Hid (W1.ownsRow 0 60 2 (.slice ra xs.length rc) xs.length (pcells xs)):=hrow
 clear hD hD1 hF1 hnew B1 hrow c0 c1 c2 c3
 gi_wp2
 gi_loopw [20] (fun i wr=>∃ (j:Nat) (Yr:Bl),j≤xs.length∧i=.int .i64 j∧J (xs.take j) Yr wr∧Fr Y W wr∧Grows W Y Yr∧wr.ownsRow 0 60 2 (.slice ra xs.length rc) xs.length (pcells xs)∧∀ k,(Value.slice ra xs.length rc).ownBlock=some k→¬ Yr k) (fun i _=>xs.length-(intOf i).toNat)
 case atStart =>
  exact⟨0,Y,Nat.zero_le _,rfl,by simpa using sJ _ _ _ _ h0 (vV HB.out lY),Fr.of_below HB.out,Grows.refl _ _,HR1.out,fun k hk hy=>by have:=HN.out k hk;have:=lY k hy;omega⟩
 case round =>
  obtain⟨j,Yr,hj,rfl,hJ,hF,hG,hrw,hno⟩:=hrel
  by_cases hlt:j<xs.length
  ·have hji:(j:Int)<(xs.length:Int):=by omega
   have pA:xs[j]?=some xs[j]:=jQ hlt
   obtain⟨y,hy0⟩:∃ y,xs[j]=y:=⟨_,rfl⟩
   rw [hy0] at pA
   obtain⟨q1,q2⟩:=pc_at pA
   obtain⟨g,hg,hglt,hgc,hgv⟩:=own_at hrw q1
   obtain⟨g',hg',_,_,hgv'⟩:=own_at hrw q2
   subst hg
   cases hg'
   obtain⟨w1,hw1⟩:∃ w1,wr.alloc (.cells #[.string y.e.key,.string ⟨y.value.toArray⟩] 60)=w1:=⟨_,rfl⟩
   have z1:w1.heap[wr.heap.size]?=some (.cells #[.string y.e.key,.string ⟨y.value.toArray⟩] 60):=hw1▸heap_new wr _
   have f1r:Fr Bl.none wr w1:=hw1▸(Fr.refl _ wr).alloc _
   have f1:Fr Y W w1:=hF.trans (f1r.mono (fun _ h=>h.elim))
   have lYr:=lJ _ _ _ hJ
   have o1:On Yr wr w1:=f1r.on (fun k hk=>⟨lYr k hk,fun h=>h⟩)
   obtain⟨fn,tmps,assign,body,hyy,hRy⟩:=hY _ y _ #[.string y.e.key,.string ⟨y.value.toArray⟩] Bl.none Yr w1 (split_at pA) (sJ _ _ _ _ hJ o1) rfl (fun _ h=>h.elim) f1 hG
   obtain⟨m0,m1⟩:=box2 z1
   have row1:w1.ownsRow 0 60 2 (.slice (some ⟨g,0,none⟩) xs.length rc) xs.length (pcells xs):=own_on hrw (f1r.on (Z:=fun k=>Value.ownBlock _=some k) (fun k hk=>⟨own_lt hrw hk,fun h=>h⟩)) (fun k hk=>hk)
   gi_wp2
   clear hyy
   refine⟨rfl,(roundIn_any hRy).mono ?_⟩
   have HT:Hid (xs.take (j+1)=xs.take j++[y]):=take_more1 pA
   clear pA q1 q2
   rintro e W3 (⟨rfl,Y3,hJ3,hF3,hG3⟩|⟨rfl,Y3,hJ3,hF3,hG3⟩)
   ·have F3:Fr Y W W3:=f1.grow hF3 hG
    have G3:Grows W Y Y3:=hG.trans f1.size hG3
    have row3:W3.ownsRow 0 60 2 (.slice (some ⟨g,0,none⟩) xs.length rc) xs.length (pcells xs):=own_on row1 (hF3.on (Z:=fun k=>Value.ownBlock _=some k) (fun k hk=>⟨own_lt row1 hk,hno k hk⟩)) (fun k hk=>hk)
    have n3:∀ k,(Value.slice (some ⟨g,0,none⟩) xs.length rc).ownBlock=some k→¬ Y3 k:=fun k hk hy=>by
     rcases hG3 k hy with h'|h'
     ·exact hno k hk h'
     ·have:=own_lt row1 hk;omega
    clear hJ hgv hgv' m0 m1 z1
    gi_wp2
    go_roundw
    case rel=>exact⟨j+1,Y3,by omega,by go_num,by rw [HT.out];exact hJ3,F3,G3,row3,n3⟩
    case measure=>simp [intOf];omega
   ·clear hJ hgv hgv' m0 m1 z1
    gi_wp2
    refine bodyPost_ret (results_none rfl _ _ _) rfl ?_
    refine⟨⟨_,rfl⟩,Y3,f1.grow hF3 hG,hG.trans f1.size hG3,.inr ⟨_,?_,?_,hJ3⟩⟩
    ·rw [← HT.out];exact List.take_prefix _ _
    ·simp
  ·obtain rfl:j=xs.length:=by omega
   have HJ:Hid (J xs Yr wr):=by rw [List.take_length] at hJ;exact hJ
   clear hJ
   gi_wp2
   go_end0
   exact⟨⟨_,rfl⟩,Yr,hF,hG,.inl HJ.out⟩
theorem each_call (d:Nat) (x:Int) (lo hi:ByteArray) (hlo:lo.size≤24) (hhi:hi.size≤24) (w:World) :
  Calls Tryz.prog 29 #[.pointer (some ⟨d,0,none⟩),.int .i64 x,.string lo,.string hi] w fun e w' =>
   e=.returned (.func (.func 55) #[] #[.pointer (some ⟨w.heap.size,0,none⟩),.pointer (some ⟨w.heap.size+1,0,none⟩),.pointer (some ⟨w.heap.size+1+1,0,none⟩),.pointer (some ⟨w.heap.size+1+1+1,0,none⟩)]) ∧
   w'.heap[w.heap.size]?=some (.cells #[.pointer (some ⟨d,0,none⟩)] 23)∧w'.heap[w.heap.size+1]?=some (.cells #[.int .i64 x] 3)∧w'.heap[w.heap.size+1+1]?=some (.cells #[.string lo] 9)∧w'.heap[w.heap.size+1+1+1]?=some (.cells #[.string hi] 9)∧Below w.heap.size w w':=by
 obtain⟨W1,hW1⟩:∃ W1,(((w.alloc (.cells #[.pointer (some ⟨d,0,none⟩)] 23)).alloc (.cells #[.int .i64 x] 3)).alloc (.cells #[.string lo] 9)).alloc (.cells #[.string hi] 9)=W1:=⟨_,rfl⟩
 have B1:Below w.heap.size w W1:=hW1▸((((Below.refl _ _).alloc (jU _) _).alloc (by simp) _).alloc (by simp;omega) _).alloc (by simp;omega) _
 have x0:W1.heap[w.heap.size]?=some (.cells #[.pointer (some ⟨d,0,none⟩)] 23):=hW1▸heap_keep _ (heap_keep _ (heap_keep _ (heap_new w _)))
 have x1:W1.heap[w.heap.size+1]?=some (.cells #[.int .i64 x] 3):=by
  rw [← hW1];refine heap_keep _ (heap_keep _ ?_);have:=heap_new (w.alloc (.cells #[.pointer (some ⟨d,0,none⟩)] 23)) (.cells #[.int .i64 x] 3);simpa using this
 have x2:W1.heap[w.heap.size+1+1]?=some (.cells #[.string lo] 9):=by
  rw [← hW1];refine heap_keep _ ?_;have:=heap_new ((w.alloc (.cells #[.pointer (some ⟨d,0,none⟩)] 23)).alloc (.cells #[.int .i64 x] 3)) (.cells #[.string lo] 9);simpa using this
 have x3:W1.heap[w.heap.size+1+1+1]?=some (.cells #[.string hi] 9):=by
  rw [← hW1];have:=heap_new (((w.alloc (.cells #[.pointer (some ⟨d,0,none⟩)] 23)).alloc (.cells #[.int .i64 x] 3)).alloc (.cells #[.string lo] 9)) (.cells #[.string hi] 9);simpa using this
 have HK:Hid (∀ X,Below W1.heap.size W1 X→X.cell? ⟨w.heap.size+1+1,0,none⟩=some (.string lo)∧X.cell? ⟨w.heap.size+1+1+1,0,none⟩=some (.string hi)∧X.setCell ⟨w.heap.size+1+1,0,none⟩ (.string lo)=X∧X.setCell ⟨w.heap.size+1+1+1,0,none⟩ (.string hi)=X∧(∀ k,X.frozen? ⟨w.heap.size+1+1,k,none⟩=false)∧∀ k,X.frozen? ⟨w.heap.size+1+1+1,k,none⟩=false):=fun X hX=>by
  have y2:=(hX.block _ (jJ.1 x2).1).trans x2
  have y3:=(hX.block _ (jJ.1 x3).1).trans x3
  exact⟨box1 y2,box1 y3,set_same y2 rfl,set_same y3 rfl,free_of y2,free_of y3⟩
 have HC:Hid (∀ (s:ByteArray) X,s.size≤24→Calls Tryz.prog 47 #[.string s] X fun e w'=>e=.returned (.string s)∧Below X.heap.size X w'):=fun s X hs=>sclone_any s (by omega) X
 have b0:Below W1.heap.size W1 W1.drew:=(Below.refl _ _).drew
 obtain⟨c2,c3,s2,s3,g2,g3⟩:=HK.out W1.drew b0
 have hA:=HC.out lo W1.drew hlo
 have hB:=HC.out hi W1.drew hhi
 have HF:Hid (∀ X,Below W1.heap.size W1 X→X.heap[w.heap.size]?=some (.cells #[.pointer (some ⟨d,0,none⟩)] 23)∧X.heap[w.heap.size+1]?=some (.cells #[.int .i64 x] 3)∧X.heap[w.heap.size+1+1]?=some (.cells #[.string lo] 9)∧X.heap[w.heap.size+1+1+1]?=some (.cells #[.string hi] 9)∧Below w.heap.size w X):=fun X hX =>
  ⟨(hX.block _ (jJ.1 x0).1).trans x0,(hX.block _ (jJ.1 x1).1).trans x1,(hX.block _ (jJ.1 x2).1).trans x2,(hX.block _ (jJ.1 x3).1).trans x3,B1.trans (hX.mono B1.size)⟩
 clear x0 x1 x2 x3 B1
 go_enter Tryz.func29,Tryz.ntmps29
 go_wp2
 go_region_held3 (fun X=>X.cell? ⟨w.heap.size+1+1,0,none⟩=some (.string lo)∧X.cell? ⟨w.heap.size+1+1+1,0,none⟩=some (.string hi))
  ((first|(with_reducible exact⟨c2,c3⟩)|(simp [c2,c3])))
  (first
   | (go_at_call 47;(with_reducible refine Calls.mono hA ?_);rintro e X1 ⟨rfl,hb1⟩;clear hA;have b1:=b0.trans hb1;clear b0;have b0:=b1;clear c2 c3 s2 s3 g2 g3;obtain⟨c2,c3,s2,s3,g2,g3⟩:=HK.out X1 b0;have hB:=HC.out hi X1 hhi;have hA:=HC.out lo X1 hlo)
   | (go_at_call 47;(with_reducible refine Calls.mono hB ?_);rintro e X2 ⟨rfl,hb2⟩;clear hB;have b2:=b0.trans (hb2.mono b0.size);clear b0;have b0:=b2;clear c2 c3 s2 s3 g2 g3;obtain⟨c2,c3,s2,s3,g2,g3⟩:=HK.out X2 b0;have hA:=HC.out lo X2 hlo))
 all_goals
  obtain⟨e0,e1,e2,e3,eB⟩:=HF.out _ b0
  clear HF HK HC c2 c3 s2 s3 g2 g3
  go_wp2
  go_ret
  exact⟨rfl,e0,e1,e2,e3,eB⟩
end Go.Proofs.YtfnhmpcpeahfkaaGreat.Tree
namespace Go.Proofs.YtfnhmpcpeahfkaaGreat.Tree
open Go.RowKit Pages
theorem seenE_eq {fs:Fs} {root:Nat} {o:Option (Nat×T)} (hro:Rooted fs root o) {cs:List Ch} (hr:Rise cs) (q:Sp):seenE o cs q=(overE (oents o) cs).filter (fun x=>q.has x.e.key):=by
 unfold seenE
 rw [ostored_eq hro,entries_eq (oents_rise hro) hr q]
theorem seen_val {fs:Fs} {root:Nat} {o:Option (Nat×T)} (hro:Rooted fs root o) {cs:List Ch} (hr:Rise cs) {q:Sp} {x:En} (hx:x∈seenE o cs q):q.has x.e.key=true∧seenV o cs x.e.key=some x.value:=by
 rw [seenE_eq hro hr,List.mem_filter] at hx
 refine⟨hx.2,?_⟩
 unfold seenV
 rw [valOf_some (by rw [overE_ovr];exact rise_ovr _ _ (oents_rise hro) hr)]
 exact⟨x,hx.1,rfl,rfl⟩
theorem has_cmp {lo hi k:ByteArray} (h:(⟨lo,hi⟩:Sp).has k=true):Op.bytesLess k.toList lo.toList=false∧(hi=⟨#[]⟩∨Op.bytesLess k.toList hi.toList=true):=by
 simp only [Sp.has,le,lt,Sp.below,Bool.and_eq_true,Bool.or_eq_true,Bool.not_eq_true'] at h
 exact⟨h.1,h.2.imp isNil_iff.1 id⟩
theorem scan_w {K:List ByteArray} {n:Nat} {Kp:Bl} {w wq:World} {d b j m:Nat} {o ao:Option (Nat×T)} {wr:Bool} {x:Int} {cs:List Ch} (h:SkO K n Kp w wq d b j m o ao wr x cs) (hc:CsOk K cs) (q:Sp) (most:Nat) (hlo:q.lo.size≤24) (hhi:q.hi.size≤24) (hsm:(seenE o cs q).length≤1000000) (hm:most≤9223372036854775807) :
  Calls Tryz.prog 28 #[.pointer (some ⟨d,0,none⟩),.int .i64 x,.string q.lo,.string q.hi,.int .i64 (most:Nat)] wq fun e w'=>∃ v,e=.returned (.tuple #[v,.int .i64 0])∧SkO K n Kp w w' d b j m o ao wr x cs∧Below wq.heap.size wq w'∧w'.ownsRow 0 60 2 v ((seenE o cs q).take most).length (pcells ((seenE o cs q).take most))∧∀ k,v.ownBlock=some k→wq.heap.size≤k:=by
 obtain⟨D,h,⟨t,hts,hx,hwr,htr,hcs,hks⟩,rfl,rfl⟩:=h
 subst hcs
 have hti:D.ts[0]'(by rw [hts];simp)=t:=by simp [hts]
 refine(scan_gen D x 0 t o q most wq h.db (Fs.well_alive h.well) (htr▸h.store.sure.rooted) h.store.sure.flat (by rw [hts];simp) (by rw [hts];simp) hti (by rw [hts];exact idxT_hit (j:=0) (by simp) (by simp [hx]) (fun m hm h=>by omega)) hc.rise hc.good hc.len hlo hhi hsm hm).mono ?_
 rintro e w' ⟨v,rfl,hD,hF,hrow,hli⟩
 exact⟨v,rfl,⟨D,⟨hD,h.well,h.failed,h.ver,h.root,h.aroot,h.last0,h.last1,h.store,h.new,h.on hF (fun k hk=>h.new k (.inl hk)),h.lies⟩,⟨t,hts,hx,hwr,htr,rfl,hks⟩,rfl,rfl⟩,h.db.still hD hF,hrow,hli⟩
theorem each_w {K:List ByteArray} {n:Nat} {Kp:Bl} {w wq:World} {d b j m:Nat} {o ao:Option (Nat×T)} {wr:Bool} {x:Int} {cs:List Ch} (h:SkO K n Kp w wq d b j m o ao wr x cs) (hc:CsOk K cs) (q:Sp) (hlo:q.lo.size≤24) (hhi:q.hi.size≤24) (hsm:(seenE o cs q).length≤1000000) (b0 b1 b2 b3:Nat)
  (x0:wq.heap[b0]?=some (.cells #[.pointer (some ⟨d,0,none⟩)] 23)) (x1:wq.heap[b1]?=some (.cells #[.int .i64 x] 3)) (x2:wq.heap[b2]?=some (.cells #[.string q.lo] 9)) (x3:wq.heap[b3]?=some (.cells #[.string q.hi] 9)) (Yn:Bl) (hY:∀ k,Yn k→Kp k) (n0:¬ Yn b0) (n1:¬ Yn b1) (n2:¬ Yn b2) (n3:¬ Yn b3) :
  Iter Tryz.prog 55 #[.pointer (some ⟨b0,0,none⟩),.pointer (some ⟨b1,0,none⟩),.pointer (some ⟨b2,0,none⟩),.pointer (some ⟨b3,0,none⟩)] HasKV (seenE o cs q) (fun k=>k<wq.heap.size∧¬ Yn k) wq:=by
 obtain⟨D,h,⟨t,hts,hx,hwr,htr,hcs,hks⟩,rfl,rfl⟩:=h
 subst hcs
 have hti:D.ts[0]'(by rw [hts];simp)=t:=by simp [hts]
 have lt:∀ {k:Nat} {ob:Obj},wq.heap[k]?=some ob→k<wq.heap.size:=fun h=>(jJ.1 h).1
 exact each_iter D x 0 t o q b0 b1 b2 b3 _ wq h.db (Fs.well_alive h.well) (htr▸h.store.sure.rooted) h.store.sure.flat (by rw [hts];simp) (by rw [hts];simp) hti (by rw [hts];exact idxT_hit (j:=0) (by simp) (by simp [hx]) (fun m hm h=>by omega)) hc.rise hc.good hc.len hlo hhi hsm x0 x1 x2 x3 ⟨lt x0,n0⟩ ⟨lt x1,n1⟩ ⟨lt x2,n2⟩ ⟨lt x3,n3⟩ (fun k hk=>⟨h.db.lies k hk,fun hy=>h.new k hk (hY k hy)⟩)
theorem SkO.within {K:List ByteArray} {n:Nat} {Kp:Bl} {w wq W:World} {d b j m:Nat} {o ao:Option (Nat×T)} {wr:Bool} {x:Int} {cs:List Ch} (h:SkO K n Kp w wq d b j m o ao wr x cs) {Yn:Bl} (hY:∀ k,Yn k→Kp k) (hF:Fr Yn wq W):SkO K n (fun _=>False) W W d b j m o ao wr x cs:=by
 obtain⟨D,h,r⟩:=h
 exact⟨D,⟨h.db.on (hF.on (fun k hk=>⟨h.db.lies k hk,fun hy=>h.new k hk (hY k hy)⟩)),h.well,h.failed,h.ver,h.root,h.aroot,h.last0,h.last1,h.store,fun _ _ h=>h,On.refl _ _,fun _ h=>h.elim⟩,r⟩
theorem get_w {K:List ByteArray} {n:Nat} {Kp:Bl} {w wq:World} {d b j m:Nat} {o ao:Option (Nat×T)} {wr:Bool} {x:Int} {cs:List Ch} (h:SkO K n Kp w wq d b j m o ao wr x cs) (hc:CsOk K cs) (key:ByteArray) (hk1:1≤key.size) (hk2:key.size≤24) (l:List UInt8) (hs:seenV o cs key=some l) :
  Calls Tryz.prog 30 #[.pointer (some ⟨d,0,none⟩),.int .i64 x,.string key] wq fun e w'=>e=.returned (.tuple #[.string ⟨l.toArray⟩,.int .i64 0])∧Below wq.heap.size wq w':=by
 obtain⟨D,h,⟨t,hts,hx,hwr,htr,hcs,hks⟩,rfl,rfl⟩:=h
 subst hcs
 have hti:D.ts[0]'(by rw [hts];simp)=t:=by simp [hts]
 refine(get_any D x 0 t o key wq h.db (Fs.well_alive h.well) (htr▸h.store.sure.rooted) h.store.sure.flat (by rw [hts];simp) (by rw [hts];simp) hti (by rw [hts];exact idxT_hit (j:=0) (by simp) (by simp [hx]) (fun m hm h=>by omega)) hc.rise hc.good hc.len hk1 hk2).mono ?_
 rintro e w' ⟨v,z,rfl,hD,hF,hR⟩
 rcases hR with⟨h1,_⟩|⟨l',h1,rfl,rfl⟩
 ·rw [hs] at h1;cases h1
 ·rw [hs] at h1;cases h1;exact⟨rfl,h.db.still hD hF⟩
end Go.Proofs.YtfnhmpcpeahfkaaGreat.Tree
