import Derived.Test.YtpifffkkgnbfpaaGreatT36
set_option linter.unusedSimpArgs false
set_option linter.unusedVariables false
set_option maxRecDepth 100000
set_option maxHeartbeats 8000000
namespace Go.Proofs.YtpifffkkgnbfpaaGreat.Tree
open Go.RowKit Pages
variable {D:Db} {K vs:List ByteArray} {Kp Y:Bl} {Q:Exit→Act→World→Prop} {a:Act} {ao o:Option (Nat×T)} {b d j m n q:Nat} {cs:List Ch} {op:Oper} {ops:Array Oper} {rest:List Oper} {th:List Bool} {w w' wq:World} {wb wr:Bool} {x:Int} {xs:List En}
def bookC (th:List Bool) (vs:List ByteArray):Array Value:=(th.map Value.bool++vs.map Value.string).toArray
structure bJ (w:World) (q:Nat) (th:List Bool) (vs:List ByteArray):Prop where
 box:w.heap[q]?=some (.cells (bookC th vs) 30)
 lt:th.length=12
 lv:vs.length=12
theorem bJ.on (h:bJ w q th vs) (ho:On Y w w') (hy:Y q):bJ w' q th vs:=⟨ho.heap h.box hy,h.lt,h.lv⟩
theorem bJ.there (h:bJ w q th vs) (k:Nat) (hk:k<12):w.cell? ⟨q,k,none⟩=some (.bool (th[k]'(by have:=h.lt;omega))):=by
 have h1:=h.lt
 simp [World.cell?,h.box,bookC,List.getElem?_append,h1,hk]
theorem bJ.value (h:bJ w q th vs) (k:Nat) (hk:k<12):w.cell? ⟨q,12+k,none⟩=some (.string (vs[k]'(by have:=h.lv;omega))):=by
 have h1:=h.lt
 have h2:=h.lv
 simp [World.cell?,h.box,bookC,List.getElem?_append,h1,h2,hk]
theorem bJ.free (h:bJ w q th vs) (i:Nat):w.frozen? ⟨q,i,none⟩=false:=aG h.box i
theorem bJ.setThere (h:bJ w q th vs) (k:Nat) (hk:k<12) (t:Bool):bJ (w.setCell ⟨q,k,none⟩ (.bool t)) q (th.set k t) vs:=by
 refine⟨?_,by simpa using h.lt,h.lv⟩
 rw [aF h.box k (.bool t)]
 have h1:=h.lt
 simp only [bookC,jV,List.map_set]
 rw [List.set_append_left _ _ (by simpa [h1] using hk)]
theorem bJ.setValue (h:bJ w q th vs) (k:Nat) (hk:k<12) (v:ByteArray):bJ (w.setCell ⟨q,12+k,none⟩ (.string v)) q th (vs.set k v):=by
 refine⟨?_,h.lt,by simpa using h.lv⟩
 rw [aF h.box (12+k) (.string v)]
 have h1:=h.lt
 simp only [bookC,jV,List.map_set]
 rw [List.set_append_right _ _ (by simp [h1])]
 simp [h1]
theorem Sk.now (h:Sk K n Kp w wq D j m o ao):Sk K n Kp wq wq D j m o ao :=
 ⟨h.db,h.well,h.failed,h.ver,h.root,h.aroot,h.last0,h.last1,h.store,h.new,On.refl _ _,fun k hk=>jY (h.lies k hk) h.kept.size⟩
theorem Sk.poke (h:Sk K n Kp w wq D j m o ao) (p:Addr) (hp:Kp p.block) (v:Value):Sk K n Kp (wq.setCell p v) (wq.setCell p v) D j m o ao:=by
 have h':=h.now
 refine⟨h.db.on ((On.refl (fpD D) wq).setCell (fun hk=>h.new _ hk hp) v),h.well,h.failed,h.ver,h.root,h.aroot,h.last0,h.last1,h.store,h.new,On.refl _ _,fun k hk=>by simpa using h'.lies k hk⟩
theorem SkO.now (h:SkO K n Kp w wq d b j m o ao wr x cs):SkO K n Kp wq wq d b j m o ao wr x cs:=by
 obtain⟨D,h,r⟩:=h
 exact⟨D,h.now,r⟩
theorem SkO.poke (h:SkO K n Kp w wq d b j m o ao wr x cs) (p:Addr) (hp:Kp p.block) (v:Value):SkO K n Kp (wq.setCell p v) (wq.setCell p v) d b j m o ao wr x cs:=by
 obtain⟨D,h,r⟩:=h
 exact⟨D,h.poke p hp v,r⟩
theorem SkO.kept (h:SkO K n Kp w wq d b j m o ao wr x cs):On Kp w wq:=by
 obtain⟨D,h,_⟩:=h
 exact h.kept
theorem SkO.step (h:SkO K n Kp w wq d b j m o ao wr x cs) (hb:Below wq.heap.size wq w'):SkO K n Kp w w' d b j m o ao wr x cs:=by
 obtain⟨D,h,r⟩:=h
 exact⟨D,⟨h.db.on (vV hb h.db.lies),h.well,h.failed,h.ver,h.root,h.aroot,h.last0,h.last1,h.store,h.new,h.kept.trans (vV hb (fun k hk=>jY (h.lies k hk) h.kept.size)),h.lies⟩,r⟩
theorem Rj {fs:Fs} {root:Nat}   (hro:aY fs root o) (hf:gQ o) (hr:cI cs) (hc:∀ c∈cs,c.good) (key:ByteArray):gX o cs key=(iN o cs key).isSome:=by
 obtain⟨E,h1,h2⟩:∃ E:Ent,(fnd cs key=true→∀ c,cs[cL cs key]?=some c→E=(chE c).e)∧(fnd cs key=false→∀ x xs,cK (mO key) o=x :: xs→E=x.e):=by
  cases hfd:fnd cs key with
  | true =>
   obtain⟨h0,_⟩:=tZ hfd hr
   exact⟨(chE cs[cL cs key]).e,fun _ c hcc=>by rw [jQ h0] at hcc;cases hcc;rfl,fun h=>by cases h⟩
  | false =>
   cases hos:cK (mO key) o with
   | nil=>exact⟨⟨⟨#[]⟩,⟨#[]⟩,0,0⟩,(fun h=>by cases h),(fun _ x xs h=>by cases h)⟩
   | cons y ys=>exact⟨y.e,(fun h=>by cases h),(fun _ x xs h=>by cases h;rfl)⟩
 rcases Hi hro hf hr hc h1 h2 with⟨a,b⟩|⟨X,_,_,a,b⟩
 ·rw [a,b];rfl
 ·rw [a,b];rfl
structure qC (n:Nat) (Kp:Bl) (wq:World) (d b j m:Nat) (o ao:Option (Nat×T)) (x:Int) (cs:List Ch) (q:Nat) (th:List Bool) (vs:List ByteArray):Prop where
 st:SkO bT n Kp wq wq d b j m o ao true x cs
 ok:Dq bT cs
 book:bJ wq q th vs
 own:Kp q
 told:Told (bI (eY o) cs) th vs
theorem Told.blank (h:Told xs th vs) (k:Nat) (hk:k<12) (hf:th[k]'(by have:=h.lt;omega)=false):Told xs (th.set k false) (vs.set k ⟨#[]⟩):=by
 refine⟨by simpa using h.lt,by simpa using h.lv,h.rise,h.keys,fun j hj=>?_,fun j hj hf'=>?_⟩
 rotate_left
 ·rw [List.getElem_set] at hf' ⊢
  split
  ·rfl
  ·rename_i e
   rw [if_neg e] at hf'
   exact h.neat j hj hf'
 have ht:=h.tells j hj
 by_cases hjk:j=k
 ·subst hjk
  rw [hf] at ht
  rw [ht]
  simp
 ·rw [ht]
  simp [List.getElem_set,Ne.symm hjk]
theorem qC.rooted (h:qC n Kp wq d b j m o ao x cs q th vs):∃ fs,aY fs (rootOf o) o∧gQ o:=by
 obtain⟨D,hD,_⟩:=h.st
 exact⟨D.fs,hD.store.sure.rooted,hD.store.sure.flat⟩
theorem qC.found (h:qC n Kp wq d b j m o ao x cs q th vs) (k:Nat) (hk:k<12):gX o cs (bT[k]'hk)=th[k]'(by have:=h.told.lt;omega):=by
 obtain⟨fs,h1,h2⟩:=h.rooted
 rw [Rj h1 h2 h.ok.rise h.ok.good]
 unfold iN
 rw [h.told.tells k hk]
 cases th[k]'(by have:=h.told.lt;omega)<;>rfl
theorem qBh (h:qC n Kp wq d b j m o ao x cs q th vs) (c:Int) (h0 : -9223372036854775808≤c) (h1:c≤9223372036854775807) (hl:cs.length<100) :
  Calls Tryz.prog 19 #[.pointer (some ⟨d,0,none⟩),.int .i64 x,.pointer (some ⟨q,0,none⟩),.int .i64 c] wq fun e w'=>e=.returned (.bool true)∧∃ cs' th' vs',qC n Kp w' d b j m o ao x cs' q th' vs'∧cs'.length≤cs.length+1∧On (fun k=>Kp k∧k≠q) wq w':=by
 obtain⟨k,hk⟩:∃ k:Nat,kR c 12=k:=⟨(kR c 12).toNat,(Int.toNat_of_nonneg (eA c 12 (by omega)).1).symm⟩
 have hk12:k<12:=by have:=(eA c 12 (by omega)).2;omega
 have hki:(k:Int)<12:=by omega
 have hP1:Calls Tryz.prog 22 #[.int .i64 c,.int .i64 12] wq fun e w'=>e=.returned (.int .i64 k)∧w'=wq:=hk▸oM c 12 wq h0 h1 (by omega)
 obtain⟨g,hg⟩:=nM (kR (c.tdiv 12) 4)
 have hg0:0≤g:=hg▸(eA (c.tdiv 12) 4 (by omega)).1
 have hP2:Calls Tryz.prog 22 #[.int .i64 (c.tdiv 12),.int .i64 4] wq fun e w'=>e=.returned (.int .i64 g)∧w'=wq:=hg▸oM (c.tdiv 12) 4 wq (kE c 12 (by omega) h0 h1).1 (kE c 12 (by omega) h0 h1).2 (by omega)
 have hVl:=Qk (c.tdiv 48) wq (kE c 48 (by omega) h0 h1).1 (kE c 48 (by omega) h0 h1).2
 have HKey:Hid (∀ X,Calls Tryz.prog 24 #[.int .i64 (k:Nat)] X fun e w'=>e=.returned (.string (bT[k]'hk12))∧Below X.heap.size X w'):=fun X=>Iz k hk12 X
 have H:Hid (qC n Kp wq d b j m o ao x cs q th vs):=h
 have ks:=rD _ (rE k hk12)
 clear hk hg h
 have hql:q<wq.heap.size:=(gL H.out.book.box)
 by_cases hgp:0<g
 ·go_enter Tryz.func19,Tryz.ntmps19
  go_wp2_with (first
   | (go_at_call 22;(with_reducible refine jC hP1 ?_);rintro e X ⟨rfl,hX⟩;subst X)
   | (go_at_call 22;(with_reducible refine jC hP2 ?_);rintro e X ⟨rfl,hX⟩;subst X)
   | (go_at_call 40;(with_reducible refine jC hVl ?_);rintro e X1 ⟨v,rfl,hv,hb1⟩;have hB1:bJ X1 q th vs:=H.out.book.on (vV hb1 (Y:=Bl.one q) (oK (by omega))) rfl;have e1:=hB1.there k hk12;have e2:=hB1.free k;obtain⟨X2,hX2⟩:=nM (X1.setCell ⟨q,k,none⟩ (.bool true));have hB2:bJ X2 q (th.set k true) vs:=hX2▸hB1.setThere k hk12 true;have e3:=hB2.value k hk12;have e4:=hB2.free (12+k);obtain⟨X3,hX3⟩:=nM (X2.setCell ⟨q,12+k,none⟩ (.string v));have hB3:bJ X3 q (th.set k true) (vs.set k v):=hX3▸hB2.setValue k hk12 v;have hS3:SkO bT n Kp X3 X3 d b j m o ao true x cs:=hX3▸(hX2▸(H.out.st.step hb1).poke ⟨q,k,none⟩ H.out.own _:SkO bT n Kp X2 X2 d b j m o ao true x cs).poke ⟨q,12+k,none⟩ H.out.own _;have HO:Hid (On (fun k=>Kp k∧k≠q) wq X3):=(by obtain⟨D,hD,_⟩:=H.out.st;have o1:On (fun k=>Kp k∧k≠q) wq X1:=vV hb1 (fun i hi=>hD.lies i hi.1);rw [← hX3,← hX2];exact(o1.setCell (p:=⟨q,k,none⟩) (fun e=>e.2 rfl) _).setCell (p:=⟨q,12+k,none⟩) (fun e=>e.2 rfl) _);have hKy:=HKey.out X3)
   | (go_at_call 24;(with_reducible refine jC hKy ?_);rintro e X4 ⟨rfl,hb4⟩;have hPu:=qFe (hS3.step hb4) (bT[k]'hk12) v H.out.ok.rise H.out.ok.len ks.1 ks.2 hv)
   | (go_at_call 23;(with_reducible refine jC hPu ?_);rintro e X5 ⟨rfl,hS5⟩))
  go_ret
  obtain⟨fs,hro,_⟩:=H.out.rooted
  have hgd:(⟨bT[k]'hk12,v,false⟩:Ch).good:=Lb k hk12 v hv false
  obtain⟨w1,w2,w3⟩:=H.out.ok.with (by omega) ⟨bT[k]'hk12,v,false⟩ hgd (rE k hk12)
  refine⟨rfl,_,_,_,⟨hS5.now,w1,hB3.on hS5.kept H.out.own,H.out.own,H.out.told.change (gO hro) H.out.ok.rise k hk12 v false (fun h=>by cases h)⟩,w3,HO.out.trans (hS5.kept.mono (fun i hi=>hi.1))⟩
 ·have hgn:¬ (0<g):=hgp
  have hB0:=H.out.book
  have hKy:=HKey.out wq
  have hfo:=H.out.found k hk12
  obtain⟨fb,hfb⟩:∃ fb,th[k]'(by have:=H.out.told.lt;omega)=fb:=⟨_,rfl⟩
  rw [hfb] at hfo
  cases fb with
  | true =>
   go_enter Tryz.func19,Tryz.ntmps19
   go_wp2_with (first
    | (go_at_call 22;(with_reducible refine jC hP1 ?_);rintro e X ⟨rfl,hX⟩;subst X)
    | (go_at_call 22;(with_reducible refine jC hP2 ?_);rintro e X ⟨rfl,hX⟩;subst X)
    | (go_at_call 24;(with_reducible refine jC hKy ?_);rintro e X4 ⟨rfl,hb4⟩;have hDe:=qDy (H.out.st.step hb4) (bT[k]'hk12) H.out.ok.rise H.out.ok.len ks.1 ks.2)
    | (go_at_call 25;(with_reducible refine jC hDe ?_);rintro e X5 ⟨z,cs',rfl,hS5,hor⟩;obtain⟨rfl,rfl⟩:z=0∧cs'=cY cs ⟨bT[k]'hk12,⟨#[]⟩,true⟩:=(by rcases hor with⟨h1,h2,h3⟩|⟨h1,h2,h3⟩;exact⟨h2,h3⟩;(rw [hfo] at h1;cases h1));clear hor;have hB5:=H.out.book.on hS5.kept H.out.own;have e1:=hB5.there k hk12;rw [hfb] at e1;have e2:=hB5.free k;obtain⟨X6,hX6⟩:=nM (X5.setCell ⟨q,k,none⟩ (.bool false));have hB6:bJ X6 q (th.set k false) vs:=hX6▸hB5.setThere k hk12 false;have e3:=hB6.value k hk12;have e4:=hB6.free (12+k);obtain⟨X7,hX7⟩:=nM (X6.setCell ⟨q,12+k,none⟩ (.string ⟨#[]⟩));have hB7:bJ X7 q (th.set k false) (vs.set k ⟨#[]⟩):=hX7▸hB6.setValue k hk12 ⟨#[]⟩;have hS7:=(hX7▸(hX6▸hS5.poke ⟨q,k,none⟩ H.out.own _:SkO bT n Kp X6 X6 d b j m o ao true x _).poke ⟨q,12+k,none⟩ H.out.own _:SkO bT n Kp X7 X7 d b j m o ao true x _);have HO:Hid (On (fun k=>Kp k∧k≠q) wq X7):=(by have o1:On (fun k=>Kp k∧k≠q) wq X5:=hS5.kept.mono (fun i hi=>hi.1);rw [← hX7,← hX6];exact(o1.setCell (p:=⟨q,k,none⟩) (fun e=>e.2 rfl) _).setCell (p:=⟨q,12+k,none⟩) (fun e=>e.2 rfl) _)))
   go_ret
   obtain⟨fs,hro,_⟩:=H.out.rooted
   have hgd:(⟨bT[k]'hk12,⟨#[]⟩,true⟩:Ch).good:=Lb k hk12 ⟨#[]⟩ (by decide) true
   obtain⟨w1,w2,w3⟩:=H.out.ok.with (by omega) ⟨bT[k]'hk12,⟨#[]⟩,true⟩ hgd (rE k hk12)
   exact⟨rfl,_,_,_,⟨hS7,w1,hB7,H.out.own,H.out.told.change (gO hro) H.out.ok.rise k hk12 ⟨#[]⟩ true (fun _=>rfl)⟩,w3,HO.out⟩
  | false =>
   go_enter Tryz.func19,Tryz.ntmps19
   go_wp2_with (first
    | (go_at_call 22;(with_reducible refine jC hP1 ?_);rintro e X ⟨rfl,hX⟩;subst X)
    | (go_at_call 22;(with_reducible refine jC hP2 ?_);rintro e X ⟨rfl,hX⟩;subst X)
    | (go_at_call 24;(with_reducible refine jC hKy ?_);rintro e X4 ⟨rfl,hb4⟩;have hDe:=qDy (H.out.st.step hb4) (bT[k]'hk12) H.out.ok.rise H.out.ok.len ks.1 ks.2)
    | (go_at_call 25;(with_reducible refine jC hDe ?_);rintro e X5 ⟨z,cs',rfl,hS5,hor⟩;obtain⟨rfl,rfl⟩:z=5∧cs'=cs:=(by rcases hor with⟨h1,h2,h3⟩|⟨h1,h2,h3⟩;(rw [hfo] at h1;cases h1);exact⟨h2,h3⟩);clear hor;have hB5:=H.out.book.on hS5.kept H.out.own;have e1:=hB5.there k hk12;rw [hfb] at e1;have e2:=hB5.free k;obtain⟨X6,hX6⟩:=nM (X5.setCell ⟨q,k,none⟩ (.bool false));have hB6:bJ X6 q (th.set k false) vs:=hX6▸hB5.setThere k hk12 false;have e3:=hB6.value k hk12;have e4:=hB6.free (12+k);obtain⟨X7,hX7⟩:=nM (X6.setCell ⟨q,12+k,none⟩ (.string ⟨#[]⟩));have hB7:bJ X7 q (th.set k false) (vs.set k ⟨#[]⟩):=hX7▸hB6.setValue k hk12 ⟨#[]⟩;have hS7:=(hX7▸(hX6▸hS5.poke ⟨q,k,none⟩ H.out.own _:SkO bT n Kp X6 X6 d b j m o ao true x _).poke ⟨q,12+k,none⟩ H.out.own _:SkO bT n Kp X7 X7 d b j m o ao true x _);have HO:Hid (On (fun k=>Kp k∧k≠q) wq X7):=(by have o1:On (fun k=>Kp k∧k≠q) wq X5:=hS5.kept.mono (fun i hi=>hi.1);rw [← hX7,← hX6];exact(o1.setCell (p:=⟨q,k,none⟩) (fun e=>e.2 rfl) _).setCell (p:=⟨q,12+k,none⟩) (fun e=>e.2 rfl) _)))
   go_ret
   exact⟨rfl,_,_,_,⟨hS7,H.out.ok,hB7,H.out.own,H.out.told.blank k hk12 hfb⟩,by omega,HO.out⟩
theorem Fj:∀ {a b:List ByteArray},a.Pairwise (fun x y=>lt x y=true)→b.Pairwise (fun x y=>lt x y=true)→(∀ x,x∈a↔x∈b)→a=b
 | [],[],_,_,_=>rfl
 | [],y :: b,_,_,h=>by have:=(h y).2 (by simp);simp at this
 | x :: a,[],_,_,h=>by have:=(h x).1 (by simp);simp at this
 | x :: a,y :: b,ha,hb,h=>by
  obtain⟨ha1,ha2⟩:=List.pairwise_cons.1 ha
  obtain⟨hb1,hb2⟩:=List.pairwise_cons.1 hb
  have hxy:x=y:=by
   rcases List.mem_cons.1 ((h x).1 (by simp)) with e|hx
   ·exact e
   ·rcases List.mem_cons.1 ((h y).2 (by simp)) with e|hy
    ·exact e.symm
    ·have h1:=hb1 x hx
     have h2:=ha1 y hy
     rw [vD h1] at h2;cases h2
  subst hxy
  congr 1
  refine Fj ha2 hb2 fun z=>⟨fun hz=>?_,fun hz=>?_⟩
  ·rcases List.mem_cons.1 ((h z).1 (by simp [hz])) with e|hz'
   ·subst e;have:=ha1 z hz;rw [bV] at this;cases this
   ·exact hz'
  ·rcases List.mem_cons.1 ((h z).2 (by simp [hz])) with e|hz'
   ·subst e;have:=hb1 z hz;rw [bV] at this;cases this
   ·exact hz'
theorem Wq:bT.Pairwise (fun x y=>lt x y=true):=by decide +kernel
def onL (th:List Bool):List (ByteArray×Bool):=bT.zip th
def cnt (th:List Bool) (k:Nat):Nat:=(((onL th).take k).filter (·.2)).length
theorem rZ (h:th.length=12):(onL th).length=12:=by simp [onL,h,show bT.length=12 from rfl]
theorem Iu (h:th.length=12) (k:Nat) (hk:k<12):(onL th)[k]'(by rw [rZ h];exact hk)=(bT[k]'hk,th[k]'(by omega)):=by
 simp only [onL,List.getElem_zip]
 rfl
theorem qBr (th:List Bool):cnt th 0=0:=by simp [cnt]
theorem qBs (h:th.length=12) (k:Nat) (hk:k<12):cnt th (k+1)=cnt th k+(if th[k]'(by omega)=true then 1 else 0):=by
 unfold cnt
 rw [List.take_succ_eq_append_getElem (by rw [rZ h];exact hk),List.filter_append,jK,Iu h k hk]
 cases th[k]'(by omega)<;>rfl
theorem Ey (h:Told xs th vs):xs.map (fun x=>x.e.key)=((onL th).filter (·.2)).map (·.1):=by
 have hl:=rZ h.lt
 refine Fj (List.pairwise_map.2 h.rise) ?_ fun key=>⟨fun hx=>?_,fun hx=>?_⟩
 ·have:(((onL th).filter (·.2)).map (·.1)).Sublist bT:=by
   have h1:(((onL th).filter (·.2)).map (·.1)).Sublist ((onL th).map (·.1)):=List.Sublist.map _ List.filter_sublist
   rw [show (onL th).map (·.1)=bT from List.map_fst_zip (by rw [h.lt];decide)] at h1
   exact h1
  exact List.Pairwise.sublist this Wq
 ·obtain⟨x,hx1,rfl⟩:=List.mem_map.1 hx
  obtain⟨k,hk,e⟩:=List.getElem_of_mem (h.keys x hx1)
  have ht:=h.tells k hk
  have hv:valOf xs (bT[k]'hk)=some x.value:=(fR h.rise).2 ⟨x,hx1,e.symm,rfl⟩
  rw [hv] at ht
  have hth:th[k]'(by have:=h.lt;have:k<12:=hk;omega)=true:=by
   cases hq:th[k]'(by have:=h.lt;have:k<12:=hk;omega) with
   | true=>rfl
   | false=>rw [hq] at ht;simp at ht
  refine List.mem_map.2 ⟨(bT[k]'hk,true),List.mem_filter.2 ⟨?_,rfl⟩,e⟩
  rw [← hth,← Iu h.lt k hk]
  exact List.getElem_mem _
 ·obtain⟨p,hp,rfl⟩:=List.mem_map.1 hx
  obtain⟨hp1,hp2⟩:=List.mem_filter.1 hp
  obtain⟨k,hk,e⟩:=List.getElem_of_mem hp1
  rw [hl] at hk
  rw [Iu h.lt k hk] at e
  subst e
  have ht:=h.tells k hk
  rw [show th[k]'(by have:=h.lt;omega)=true from hp2] at ht
  obtain⟨x,hx1,e1,_⟩:=(fR h.rise).1 (ht.trans (if_pos rfl))
  exact List.mem_map.2 ⟨x,hx1,e1⟩
theorem Yk (h:Told xs th vs):xs.length=cnt th 12:=by
 have:=congrArg List.length (Ey h)
 rw [List.length_map,List.length_map] at this
 rw [this,cnt,List.take_of_length_le (by rw [rZ h.lt];exact jU _)]
theorem qCi (h:Told xs th vs) (k:Nat) (hk:k<12) (ht:th[k]'(by have:=h.lt;omega)=true):∃ hc:cnt th k<xs.length,(xs[cnt th k]).e.key=bT[k]'hk∧(xs[cnt th k]).value=(vs[k]'(by have:=h.lv;omega)).data.toList:=by
 have hl:=rZ h.lt
 have hks:=Ey h
 have hsplit:(onL th).filter (·.2)=((onL th).take k).filter (·.2)++(bT[k]'hk,true) :: ((onL th).drop (k+1)).filter (·.2):=by
  conv=>lhs;rw [← List.take_append_drop k (onL th),List.filter_append,List.drop_eq_getElem_cons (by rw [hl];exact hk),Iu h.lt k hk,ht,List.filter_cons,if_pos rfl]
 have hlen:=congrArg List.length hks
 rw [List.length_map,List.length_map,hsplit,jK,jB] at hlen
 have hc:cnt th k<xs.length:=by unfold cnt;omega
 have hkey:(xs[cnt th k]).e.key=bT[k]'hk:=by
  have h1:(xs.map (fun x=>x.e.key))[cnt th k]?=some (xs[cnt th k]).e.key:=by rw [List.getElem?_map,jQ hc];rfl
  obtain⟨y,hy⟩:=nM ((xs[cnt th k]).e.key)
  rw [hy] at h1 ⊢
  rw [hks,hsplit,List.getElem?_map] at h1
  unfold cnt at h1
  rw [List.getElem?_append_right (jU _),Nat.sub_self] at h1
  simpa using h1.symm
 refine⟨hc,hkey,?_⟩
 have hv:valOf xs (bT[k]'hk)=some (xs[cnt th k]).value:=(fR h.rise).2 ⟨_,List.getElem_mem hc,hkey,rfl⟩
 have htl:=h.tells k hk
 rw [hv,ht] at htl
 simpa using htl
theorem Fq:∀ {l:List En} {j:Nat} (hj:j<l.length),(fJ l)[j * 2]?=some (.string (l[j]).e.key)∧(fJ l)[j * 2+1]?=some (.string ⟨(l[j]).value.toArray⟩)
 | [],j,hj=>by simp at hj
 | x :: l,0,hj=>by simp [fJ]
 | x :: l,j+1,hj=>by
  have:=Fq (l:=l) (j:=j) (by simpa using hj)
  have e1:(j+1) * 2=j * 2+2:=by omega
  have e2:(j+1) * 2+1=j * 2+1+2:=by omega
  rw [e2,e1]
  simpa [fJ] using this
theorem qEv (th:List Bool) (h:th.length=12) (k:Nat):cnt th k≤12:=by
 unfold cnt
 refine vJ (List.length_filter_le _ _) ?_
 rw [List.length_take,rZ h];omega
theorem uG (v:ByteArray):(⟨v.data.toList.toArray⟩:ByteArray)=v:=by simp
structure wD (wo:World) (n:Nat) (Kp:Bl) (w wq:World) (d b j m:Nat) (o ao:Option (Nat×T)) (wb:Bool) (x:Int) (cs:List Ch) (q:Nat) (th:List Bool) (vs:List ByteArray) (v:Value) (xs:List En):Prop where
 st:SkO bT n Kp w wq d b j m o ao wb x cs
 book:bJ wq q th vs
 row:wq.ownsRow 0 60 2 v xs.length (fJ xs)
 nq:q≠d
 nv:v.ownBlock≠some d
 fr:Fr (Bl.one d) wo wq
theorem wD.step {wo:World}            {v:Value}  (h:wD wo n Kp w wq d b j m o ao wb x cs q th vs v xs) (hb:Below wq.heap.size wq w'):wD wo n Kp w w' d b j m o ao wb x cs q th vs v xs:=by
 have hq:q<wq.heap.size:=(gL h.book.box)
 exact⟨h.st.step hb,h.book.on (vV hb (Y:=Bl.one q) (oK (by omega))) rfl,bK h.row (vV hb (Y:=fun k=>v.ownBlock=some k) (fun k hk=>aZ h.row hk)) (fun k hk=>hk),h.nq,h.nv,h.fr.trans (Fr.of_below hb)⟩
theorem wD.read {wo:World}            {v:Value}  (h:wD wo n Kp w wq d b j m o ao wb x cs q th vs v xs) (hs:SkO bT n Kp w w' d b j m o ao wb x cs) (hF:Fr (Bl.one d) wq w'):wD wo n Kp w w' d b j m o ao wb x cs q th vs v xs :=
 ⟨hs,⟨hF.heap h.book.box (fun e=>by simp only [Bl.one] at e;exact h.nq e),h.book.lt,h.book.lv⟩,eB h.row hF (fun k hk e=>by simp only [Bl.one] at e;subst e;exact h.nv hk),h.nq,h.nv,h.fr.trans hF⟩
theorem SkO.lies (h:SkO K n Kp w wq d b j m o ao wb x cs):d<wq.heap.size:=by
 obtain⟨D,h,_,rfl,_⟩:=h
 exact(gL h.db.box)
theorem SkO.rooted (h:SkO K n Kp w wq d b j m o ao wb x cs):∃ fs,aY fs (rootOf o) o:=by
 obtain⟨D,hD,_⟩:=h
 exact⟨D.fs,hD.store.sure.rooted⟩
theorem Yw (h:SkO bT n Kp w wq d b j m o ao wb x cs) (hc:Dq bT cs) (th:List Bool) (vs:List ByteArray) (ht:Told (bI (eY o) cs) th vs) :
  Calls Tryz.prog 20 #[.pointer (some ⟨d,0,none⟩),.int .i64 x,.agg (bookC th vs)] wq fun e w'=>e=.returned (.bool true)∧SkO bT n Kp w w' d b j m o ao wb x cs∧Fr (Bl.one d) wq w':=by
 obtain⟨W1,hW1⟩:=nM (wq.alloc (.cells (bookC th vs) 30))
 have b1:Below wq.heap.size wq W1:=hW1▸(bA _ _)
 have x1:bJ W1 wq.heap.size th vs:=⟨hW1▸aA wq _,ht.lt,ht.lv⟩
 have z1:W1.heap.size=wq.heap.size+1:=by rw [← hW1];simp
 have hd:=h.lies
 obtain⟨fs,hro⟩:=h.rooted
 have hall:=Uv hro cs
 obtain⟨xs,hxs⟩:=nM (bI (eY o) cs)
 rw [hxs] at ht hall
 have hlen:xs.length=cnt th 12:=Yk ht
 have hl12:xs.length≤12:=hlen▸qEv th ht.lt 12
 have hSc:=qEk (h.step b1) hc whole 100 (by decide) (by decide) (by rw [hall];omega) (by decide)
 rw [hall] at hSc
 have HX:Hid (bI (eY o) cs=xs):=hxs
 have HL:Hid (xs.length=cnt th 12):=hlen
 have HC:Hid (Dq bT cs):=hc
 have HZ:Hid (W1.heap.size=wq.heap.size+1):=z1
 clear hxs hlen hc hall hro z1
 go_enter Tryz.func20,Tryz.ntmps20
 go_wp2_with (go_at_call 28;(with_reducible refine jC hSc ?_);rintro e X ⟨v,rfl,hSX,hFX,hrow,hli⟩;obtain⟨va,vc,rfl⟩:=aP hrow;have HS0:wD wq n Kp w X d b j m o ao wb x cs wq.heap.size th vs (.slice va xs.length vc) xs:=⟨hSX,⟨hFX.heap x1.box (oN (by omega)),x1.lt,x1.lv⟩,hrow,by omega,fun e=>by have:=hli _ e;have:=HZ.out;omega,(Fr.of_below b1).trans hFX⟩)
 go_loopw [7,10] (fun nn kk wr=>∃ k:Nat,kk=.int .i64 k∧k≤12∧nn=.int .i64 (cnt th k:Nat)∧wD wq n Kp w wr d b j m o ao wb x cs wq.heap.size th vs (.slice va xs.length vc) xs) (fun _ kk _=>12-(intOf kk).toNat)
 case atStart=>exact⟨0,rfl,by omega,by rw [qBr];rfl,HS0⟩
 case round =>
  obtain⟨k,rfl,hk,rfl,HS⟩:=hrel
  by_cases hlt:k<12
  ·have hki:(k:Int)<12:=by omega
   have hKy:∀ X,Calls Tryz.prog 24 #[.int .i64 (k:Nat)] X fun e w'=>e=.returned (.string (bT[k]'hlt))∧Below X.heap.size X w':=fun X=>Iz k hlt X
   have ks:=rD _ (rE k hlt)
   have htl:=ht.tells k hlt
   have hcs:=qBs ht.lt k hlt
   have hta:=qCi ht k hlt
   obtain⟨kk,hkk⟩:=nM (bT[k]'hlt)
   simp only [hkk] at hKy ks htl hta
   have HKY:Hid (∀ X,Calls Tryz.prog 24 #[.int .i64 (k:Nat)] X fun e w'=>e=.returned (.string kk)∧Below X.heap.size X w'):=hKy
   have hK1:=hKy wr
   obtain⟨vv,hvv⟩:∃ vv,vs[k]'(by have:=ht.lv;omega)=vv:=⟨_,rfl⟩
   obtain⟨tt,htt⟩:∃ tt,th[k]'(by have:=ht.lt;omega)=tt:=⟨_,rfl⟩
   simp only [hvv,htt] at htl hta hcs
   have HSN:Hid (wD wq n Kp w wr d b j m o ao wb x cs wq.heap.size th vs (.slice va xs.length vc) xs):=HS
   have hSV:iN o cs kk=if tt=true then some vv.data.toList else none:=by unfold iN;rw [HX.out];exact htl
   clear hKy htl HS hkk
   cases tt with
   | false =>
    have HCN:Hid (cnt th (k+1)=cnt th k):=by show _=_;rw [hcs];rfl
    clear hcs hta
    go_wp2_with (first
     | (go_at_call 24;(with_reducible refine jC hK1 ?_);rintro e X1 ⟨rfl,hb1⟩;have hG:=Ts (HSN.out.step hb1).st HC.out kk ks.1 ks.2)
     | (go_at_call 30;(with_reducible refine jC hG ?_);rintro e X2 ⟨v2,z,rfl,hS2,hF2,hor⟩;obtain rfl:z=5:=(by rcases hor with⟨_,h2,_⟩|⟨l,h1,_⟩;exact h2;(rw [hSV] at h1;simp at h1));clear hor;have hN2:=(HSN.out.step hb1).read hS2 hF2;have e1:=hN2.book.there k hlt;rw [htt] at e1))
    refine⟨⟨k+1,by go_num,by omega,by rw [HCN.out],hN2⟩,by simp [intOf];omega⟩
   | true =>
    have HCN:Hid (cnt th (k+1)=cnt th k+1):=by show _=_;rw [hcs];rfl
    obtain⟨hci,hck,hcv⟩:=hta rfl
    obtain⟨pc0,pc1⟩:=Fq hci
    rw [hck] at pc0
    rw [hcv,uG] at pc1
    rw [if_pos rfl] at hSV
    obtain⟨c,hcn⟩:=nM (cnt th k)
    have HCK:Hid (cnt th k=c):=hcn
    simp only [hcn] at pc0 pc1 hci ⊢
    clear hcs hta hck hcv hcn
    have hci':(c:Int)<(xs.length:Int):=by omega
    go_wp2_with (first
     | (go_at_call 24;(with_reducible refine jC hK1 ?_);rintro e X1 ⟨rfl,hb1⟩;have hG:=Ts (HSN.out.step hb1).st HC.out kk ks.1 ks.2)
     | (go_at_call 30;(with_reducible refine jC hG ?_);rintro e X2 ⟨v2,z,rfl,hS2,hF2,hor⟩;obtain⟨rfl,rfl⟩:z=0∧v2=vv:=(by rcases hor with⟨h1,_⟩|⟨l,h1,h2,h3⟩;(rw [hSV] at h1;cases h1);(rw [hSV] at h1;cases h1;exact⟨h2,h3.trans (uG vv)⟩));clear hor;have hN2:=(HSN.out.step hb1).read hS2 hF2;have e1:=hN2.book.there k hlt;rw [htt] at e1;have e2:=hN2.book.value k hlt;rw [hvv] at e2;obtain⟨g,hg,hgl,hgc,e3⟩:=rX hN2.row pc0;obtain⟨g',hg',_,_,e4⟩:=rX hN2.row pc1;subst hg;obtain rfl:g=g':=(by simpa using hg');clear hg'))
    have hnge:decide ((xs.length:Int)≤(c:Int))=false:=by simp;omega
    have hnge2:¬ ((xs.length:Int)≤(c:Int)):=by omega
    clear hSV hvv htt pc0 pc1 hK1 hG hS2 hF2
    go_region_held3 (fun X=>X.cell? ⟨wq.heap.size,12+k,none⟩=some (.string v2)∧X.cell? ⟨g,c * 2,none⟩=some (.string kk)∧X.cell? ⟨g,c * 2+1,none⟩=some (.string v2))
     ((first|(with_reducible exact⟨f2,f3,f4⟩)|(with_reducible exact⟨e2,e3,e4⟩)|exact⟨e2,e3,e4⟩))
     ((go_at_call 24;(with_reducible refine jC (HKY.out _) ?_);rintro e X3 ⟨rfl,hb3⟩;have hb3':Below X2.heap.size X2 X3:=(Below.refl _ _).drew.trans hb3;have hN3:=hN2.step hb3';have hq2:wq.heap.size<X2.heap.size:=(gL hN2.book.box);have f2:=(World.cell?_of_block (w:=X2) (a:=⟨wq.heap.size,12+k,none⟩) (hb3'.block _ hq2)).trans e2;have f3:=(World.cell?_of_block (w:=X2) (a:=⟨g,c * 2,none⟩) (hb3'.block _ hgl)).trans e3;have f4:=(World.cell?_of_block (w:=X2) (a:=⟨g,c * 2+1,none⟩) (hb3'.block _ hgl)).trans e4))
    go_wp2
    refine⟨⟨k+1,by go_num,by omega,?_,hN3⟩,by simp [intOf];omega⟩
    rw [HCN.out,HCK.out]
    go_num
  ·obtain rfl:k=12:=by omega
   have hnl:cnt th 12=xs.length:=HL.out.symm
   rw [hnl]
   clear hnl
   go_wp2
   go_ret
   exact⟨rfl,HS.st,HS.fr⟩
theorem Yx (h:SkO bT n Kp w wq d b j m o ao wb x cs) (hc:Dq bT cs) (th:List Bool) (vs:List ByteArray) (ht:Told (bI (eY o) cs) th vs) :
  Calls Tryz.prog 20 #[.pointer (some ⟨d,0,none⟩),.int .i64 x,.agg (bookC th vs)] wq fun e w'=>e=.returned (.bool true)∧SkO bT n Kp w w' d b j m o ao wb x cs :=
 (Yw h hc th vs ht).mono fun _ _ ⟨h1,h2,_⟩=>⟨h1,h2⟩
theorem iM (h1:th.length=12) (h2:vs.length=12):(bookC th vs).size=24:=by simp [bookC,h1,h2]
theorem Cs:(Tryz.prog.info? 30).map (·.size)=some 24:=by kernel_rfl
theorem Ub:∃ d,Tryz.prog.underlying 30=some d∧d.isRow=true:=⟨_,Tryz.underlying30,rfl⟩
theorem bJ.range (h:bJ w q th vs):w.rangeAt q 0 (bookC th vs).toList:=by
 intro j v hv
 simp [World.cell?,h.box,Array.getElem?_toList] at hv ⊢
 exact hv
theorem pK (hgd:op.guard=none) (x:Operand) (ho:op.op=.load 30 x) (q:Nat) (hx:a.eval x=.pointer (some ⟨q,0,none⟩))   (hb:bJ w q th vs)
  (h:wpList Tryz.prog ops Q rest (a.put op.dst (.agg (bookC th vs))) w):wpList Tryz.prog ops Q (op :: rest) a w:=by
 obtain⟨d,h1,h2⟩:=Ub
 exact wpList_load_mid hgd _ x ho q 0 hx (bookC th vs).toList d hb.range h1 h2 (by rw [Cs,Array.length_toList,iM hb.lt hb.lv]) (by simpa using h)
theorem Er (hw:Region.wanted op (yielded ops a.tmps)=true) (x:Operand) (ho:op.op=.load 30 x) (q:Nat) (hx:a.eval x=.pointer (some ⟨q,0,none⟩))   (hb:bJ w q th vs)
  (h:wpList Tryz.prog ops Q rest (a.put op.dst (.agg (bookC th vs))) w):wpList Tryz.prog ops Q (op :: rest) a w:=by
 obtain⟨d,h1,h2⟩:=Ub
 simp only [wpList,hw,if_true]
 exact .inl (wp_load_mid _ x ho q 0 hx (bookC th vs).toList d hb.range h1 h2 (by rw [Cs,Array.length_toList,iM hb.lt hb.lv]) (by simpa using h))
theorem Sk.less {Kp Kq:Bl}     (h:Sk K n Kp w wq D j m o ao) (w0:World) (hs:∀ k,Kq k→Kp k) (ho:On Kq w0 w) (hl:∀ k,Kq k→k<w0.heap.size):Sk K n Kq w0 wq D j m o ao :=
 ⟨h.db,h.well,h.failed,h.ver,h.root,h.aroot,h.last0,h.last1,h.store,fun k hk hq=>h.new k hk (hs k hq),ho.trans (h.kept.mono hs),hl⟩
theorem SkL.make (h:SkL K n Kp w wq d b j m o ao) (ob:Obj):SkL K n (Bl.or Kp (Bl.one wq.heap.size)) (wq.alloc ob) (wq.alloc ob) d b j m o ao:=by
 obtain⟨D,h,r⟩:=h
 exact⟨D,h.make ob,r⟩
theorem SkL.less {Kp Kq:Bl}    (h:SkL K n Kp w wq d b j m o ao) (w0:World) (hs:∀ k,Kq k→Kp k) (ho:On Kq w0 w) (hl:∀ k,Kq k→k<w0.heap.size):SkL K n Kq w0 wq d b j m o ao:=by
 obtain⟨D,h,r⟩:=h
 exact⟨D,h.less w0 hs ho hl,r⟩
theorem SkL.kept (h:SkL K n Kp w wq d b j m o ao):On Kp w wq:=by
 obtain⟨D,h,_⟩:=h
 exact h.kept
theorem SkL.below (h:SkL K n Kp w wq d b j m o ao):∀ k,Kp k→k<w.heap.size:=by
 obtain⟨D,h,_⟩:=h
 exact h.lies
theorem SkL.now (h:SkL K n Kp w wq d b j m o ao):SkL K n Kp wq wq d b j m o ao:=by
 obtain⟨D,h,r⟩:=h
 exact⟨D,h.now,r⟩
theorem Fr.setCells (q:Nat) (hq:Y q):∀ (vs:List Value) (o:Nat) (w:World),Fr Y w (w.setCells q o vs)
 | [],_,w=>Fr.refl Y w
 | v :: vs,o,w=>((Fr.refl Y w).setCell (p:=⟨q,o,none⟩) (.inl hq) v).trans ((Fr.setCells q hq vs (o+1) _).mono (fun k hk=>.inl hk))
theorem sV {t:TypeId}:∀ (vs:List Value) (o:Nat) (w:World) (pre old post:List Value),w.heap[q]?=some (.cells (pre++old++post).toArray t)→pre.length=o→old.length=vs.length→(w.setCells q o vs).heap[q]?=some (.cells (pre++vs++post).toArray t)
 | [],o,w,pre,old,post,h,_,hl=>by
  obtain rfl:old=[]:=List.eq_nil_of_length_eq_zero hl
  exact h
 | v :: vs,o,w,pre,[],post,h,_,hl=>by simp at hl
 | v :: vs,o,w,pre,u :: old,post,h,hp,hl=>by
  have h1:=aF h o v
  have e:(pre++u :: old++post).toArray.setIfInBounds o v=((pre++[v])++old++post).toArray:=by
   simp only [jV,List.append_assoc,jF,jE]
   rw [List.set_append_right _ _ (by omega),show o-pre.length=0 by omega]
   rfl
  rw [e] at h1
  have:=sV vs (o+1) _ (pre++[v]) old post h1 (by simp [hp]) (by simpa using hl)
  rw [World.setCells]
  simpa using this
theorem Xy (th:List Bool) (vs:List ByteArray):(bookC th vs).all (·.oneCell')=true:=by
 unfold bookC
 refine all_oneCell_toArray fun v hv=>?_
 rcases List.mem_append.1 hv with h|h
 ·obtain⟨b,_,rfl⟩:=List.mem_map.1 h;rfl
 ·obtain⟨b,_,rfl⟩:=List.mem_map.1 h;rfl
theorem bJ.all {th th':List Bool} {vs vs':List ByteArray} (h:bJ w q th vs) (h1:th'.length=12) (h2:vs'.length=12):bJ (w.setCells q 0 (bookC th' vs').toList) q th' vs':=by
 refine⟨?_,h1,h2⟩
 have hb:=h.box
 have:=sV (q:=q) (t:=30) (bookC th' vs').toList 0 w [] (bookC th vs).toList [] (by simpa using hb) rfl (by rw [Array.length_toList,Array.length_toList,iM h.lt h.lv,iM h1 h2])
 simpa using this
theorem rN (hgd:op.guard=none) (x y:Operand) (ho:op.op=.store 30 x y) (q:Nat) (hx:a.eval x=.pointer (some ⟨q,0,none⟩)) {th th':List Bool} {vs vs':List ByteArray} (hy:a.eval y=.agg (bookC th' vs')) (hb:bJ w q th vs) (h1:th'.length=12) (h2:vs'.length=12)
  (h:∀ w',bJ w' q th' vs'→Fr (Bl.one q) w w'→wpList Tryz.prog ops Q rest (a.put op.dst undef) w'):wpList Tryz.prog ops Q (op :: rest) a w:=by
 refine wpList_store_mid hgd _ x y ho q 0 (bookC th' vs') hx hy (fun j hj=>⟨?_,?_⟩) (by rw [Cs,iM h1 h2]) (Xy _ _) ?_
 ·rw [Nat.zero_add]
  have hz:=iM hb.lt hb.lv
  rw [iM h1 h2] at hj
  simp [World.cell?,hb.box,hz,hj]
 ·rw [Nat.zero_add];exact hb.free j
 ·exact h _ (hb.all h1 h2) (Fr.setCells (Y:=Bl.one q) q rfl _ _ _)
theorem Sk.touch (h:Sk K n Kp w wq D j m o ao)  (hF:Fr (Bl.one q) wq w') (hq:Kp q):Sk K n Kp w' w' D j m o ao:=by
 have h':=h.now
 refine⟨h.db.on (hF.on (fun k hk=>⟨h.db.lies k hk,fun e=>by simp only [Bl.one] at e;subst e;exact h.new _ hk hq⟩)),h.well,h.failed,h.ver,h.root,h.aroot,h.last0,h.last1,h.store,h.new,On.refl _ _,fun k hk=>jY (h'.lies k hk) hF.size⟩
theorem SkO.make (h:SkO K n Kp w wq d b j m o ao wb x cs) (ob:Obj):SkO K n (Bl.or Kp (Bl.one wq.heap.size)) (wq.alloc ob) (wq.alloc ob) d b j m o ao wb x cs:=by
 obtain⟨D,h,r⟩:=h
 exact⟨D,h.make ob,r⟩
theorem SkO.touch (h:SkO K n Kp w wq d b j m o ao wb x cs)  (hF:Fr (Bl.one q) wq w') (hq:Kp q):SkO K n Kp w' w' d b j m o ao wb x cs:=by
 obtain⟨D,h,r⟩:=h
 exact⟨D,h.touch hF hq,r⟩
theorem SkL.touch (h:SkL K n Kp w wq d b j m o ao)  (hF:Fr (Bl.one q) wq w') (hq:Kp q):SkL K n Kp w' w' d b j m o ao:=by
 obtain⟨D,h,r⟩:=h
 exact⟨D,h.touch hF hq,r⟩
theorem qFb (h:SkO K n Kp w wq d b j m o ao wb x cs) :
  Calls Tryz.prog 17 #[.pointer (some ⟨d,0,none⟩)] wq fun e w'=>e=.returned (.int .i64 (j:Nat))∧SkO K n Kp w w' d b j m o ao wb x cs:=by
 obtain⟨D,h,r,rfl,r2⟩:=h
 refine(qDw h).mono ?_
 rintro e w' ⟨rfl,h'⟩
 exact⟨rfl,D,h',r,rfl,r2⟩
theorem xS (h:SkL K n Kp w wq d b j m o ao) :
  Calls Tryz.prog 17 #[.pointer (some ⟨d,0,none⟩)] wq fun e w'=>e=.returned (.int .i64 (j:Nat))∧SkL K n Kp w w' d b j m o ao:=by
 obtain⟨D,h,r,rfl,r2⟩:=h
 refine(qDw h).mono ?_
 rintro e w' ⟨rfl,h'⟩
 exact⟨rfl,D,h',r,rfl,r2⟩
theorem qBp (hK:KOk bT n)        (h:SkO bT n Kp w wq d b j m o ao wb x cs) (hc:Dq bT cs) (hj:j≤1000000)   (ht:Told (bI (eY o) cs) th vs) :
  Calls Tryz.prog 26 #[.pointer (some ⟨d,0,none⟩),.int .i64 x] wq fun e w'=>e=.returned (.int .i64 0)∧∃ j' o' ao',SkL bT n Kp w w' d b j' m o' ao'∧((j'=j∧o'=o∧ao'=ao)∨(j'=j+1∧ao'=o))∧Told (eY o') th vs:=by
 obtain⟨fs,hro⟩:=h.rooted
 cases cs with
 | nil =>
  refine(qEu h).mono ?_
  rintro e w' ⟨rfl,h'⟩
  rw [rY (gO hro)] at ht
  exact⟨rfl,j,o,ao,h',.inl ⟨rfl,rfl,rfl⟩,ht⟩
 | cons c cs =>
  refine(qFl hK h hc (by simp) hj).mono ?_
  rintro e w' ⟨rfl,o1,h',hkv⟩
  obtain⟨fs1,hro1⟩:∃ fs,aY fs (rootOf o1) o1:=by obtain⟨D,hD,_⟩:=h';exact⟨D.fs,hD.store.sure.rooted⟩
  exact⟨rfl,j+1,o1,o,h',.inr ⟨rfl,rfl⟩,ht.kv hkv (gO hro1)⟩
theorem cW.onK {B:Nat} {a:Option Addr} {vs:List Value}  (h:cW w B a vs) (ho:On Y w w') (hy:∀ k,k<B→Y k):cW w' B a vs:=by
 rcases h with h|⟨b,off,rfl,hb,hc⟩
 ·exact .inl h
 ·refine .inr ⟨b,off,rfl,hb,fun i u hu=>?_⟩
  have h1:=hc i u hu
  have hbl:b<w.heap.size:=by
   rcases Nat.lt_or_ge b w.heap.size with h|h
   ·exact h
   ·simp [World.cell?,Array.getElem?_eq_none h] at h1
  obtain⟨ob,hob⟩:∃ ob,w.heap[b]?=some ob:=⟨_,Array.getElem?_eq_getElem hbl⟩
  rw [World.cell?_of_block (w:=w) (a:=⟨b,off+i,none⟩) ((ho.heap hob (hy b hb)).trans hob.symm)]
  exact h1
abbrev gA:Obj:=.cells #[.bool false,.bool false,.bool false,.bool false,.bool false,.bool false,.bool false,.bool false,.bool false,.bool false,.bool false,.bool false,.string ⟨#[]⟩,.string ⟨#[]⟩,.string ⟨#[]⟩,.string ⟨#[]⟩,.string ⟨#[]⟩,.string ⟨#[]⟩,.string ⟨#[]⟩,.string ⟨#[]⟩,.string ⟨#[]⟩,.string ⟨#[]⟩,.string ⟨#[]⟩,.string ⟨#[]⟩] 30
theorem sN (w:World):bJ (w.alloc gA) w.heap.size (List.replicate 12 false) (List.replicate 12 ⟨#[]⟩):=⟨aA w _,by simp,by simp⟩
structure uJ (n:Nat) (Kp:Bl) (wq:World) (d b j m:Nat) (o ao:Option (Nat×T)) (q:Nat) (th:List Bool) (vs:List ByteArray):Prop where
 st:SkL bT n Kp wq wq d b j m o ao
 book:bJ wq q th vs
 own:Kp q
 told:Told (eY o) th vs
theorem Rx (hK:KOk bT n)        (h:uJ n Kp wq d b j m o ao q th vs) (hm:m≤1000000) (hj:j≤1000000) (ra:Option Addr) (rc:Nat) (ns:List Int) (B:Nat) (hR:cW wq B ra (ns.map (.int .i64))) (hB:∀ k,k<B→Kp k∧k≠q) (hi64:∀ x∈ns,-9223372036854775808≤x∧x≤9223372036854775807) :
  Calls Tryz.prog 11 #[.pointer (some ⟨d,0,none⟩),.pointer (some ⟨q,0,none⟩),.slice ra ns.length rc] wq fun e w'=>e=.returned (.bool true)∧∃ j' o' ao' th' vs',uJ n Kp w' d b j' (m+1) o' ao' q th' vs'∧((j'=j∧o'=o∧ao'=ao)∨(j'=j+1∧ao'=o))∧On (fun k=>Kp k∧k≠q) wq w':=by
 have hBg:=Ue h.st true hm
 have H:Hid (uJ n Kp wq d b j m o ao q th vs):=h
 clear h
 go_enter Tryz.func11,Tryz.ntmps11
 go_wp2_with (first
  | (go_at_call 18;(with_reducible refine jC hBg ?_);rintro e X2 ⟨x,rfl,hS2⟩;have x2:bJ X2 q th vs:=H.out.book.on hS2.kept H.out.own;have xz:=sN X2)
  | (refine pK rfl (.tmp 24) rfl q rfl x2 ?_)
  | (refine rN rfl (.tmp 9) (.tmp 25) rfl X2.heap.size rfl rfl xz x2.lt x2.lv ?_;intro X3 hB3 hF3))
 have hz2:wq.heap.size≤X2.heap.size:=hS2.kept.size
 have hKl:∀ k,Kp k→k<wq.heap.size:=H.out.st.below
 have hbA:Below X2.heap.size X2 (X2.alloc gA):=bA _ _
 have HO3:Hid (On Kp wq X3):=(hS2.kept.trans (vV hbA (fun k hk=>jY (hKl k hk) hz2))).trans (hF3.on (fun k hk=>⟨jY (hKl k hk) (vJ hz2 hbA.size),fun e=>by simp only [Bl.one] at e;have:=hKl k hk;omega⟩))
 have HD3:Hid (qC n (Bl.or Kp (Bl.one X2.heap.size)) X3 d b j (m+1) o ao x [] X2.heap.size th vs):=⟨(hS2.make gA).touch hF3 (.inr rfl),⟨.nil,by simp,by simp,by simp⟩,hB3,.inr rfl,by rw [rY H.out.told.rise];exact H.out.told⟩
 have HX:Hid (bJ X3 q th vs):=H.out.book.on HO3.out H.out.own
 obtain⟨nq,hnq⟩:=nM (X2.heap.size)
 have HQ:Hid (wq.heap.size≤nq):=by show _≤_;omega
 have HKL:Hid (∀ k,Kp k→k<wq.heap.size):=hKl
 rw [hnq] at HD3 ⊢
 clear hS2 x2 xz hB3 hF3 hbA hz2 hnq hBg hKl
 go_loopw [10] (fun i wr=>∃ (k:Nat) (cs:List Ch) (th':List Bool) (vs':List ByteArray),i=.int .i64 k∧k≤8∧Hid (qC n (Bl.or Kp (Bl.one nq)) wr d b j (m+1) o ao x cs nq th' vs')∧cs.length≤k∧Hid (On Kp wq wr)) (fun i _=>8-(intOf i).toNat)
 case atStart=>exact⟨0,[],th,vs,rfl,by omega,HD3,by simp,HO3⟩
 case round =>
  obtain⟨k,cs,th',vs',rfl,hk8,HD,hcl,HO⟩:=hrel
  by_cases hlt:k<ns.length∧k<8
  ·have hk1:(k:Int)<(ns.length:Int):=by omega
   have hk2:(k:Int)<8:=by omega
   obtain⟨y,hy⟩:=nM (ns[k]'hlt.1)
   have hyr:=hi64 y (hy▸List.getElem_mem hlt.1)
   rcases cW.onK hR HO.out (fun k hk=>(hB k hk).1) with hR'|⟨rb,off,rfl,hrb,hRc⟩
   ·have h0:(ns.map (Value.int .i64)).length=0:=by rw [hR'];rfl
    rw [List.length_map] at h0
    omega
   have hcell:wr.cell? ⟨rb,off+k,none⟩=some (.int .i64 y):=hRc k _ (by rw [List.getElem?_map,jQ hlt.1,hy];rfl)
   have hDe:=qBh HD.out y hyr.1 hyr.2 (by omega)
   clear hy hyr hRc
   go_wp2_with (go_at_call 19;(with_reducible refine jC hDe ?_);rintro e X4 ⟨rfl,cs2,th2,vs2,hD2,hl2,ho2⟩)
   exact⟨⟨k+1,cs2,th2,vs2,by go_num,by omega,hD2,by omega,HO.out.trans (ho2.mono (fun i hi=>⟨.inl hi,fun e=>by subst e;have:=HKL.out _ hi;have:=HQ.out;omega⟩))⟩,by simp [intOf];omega⟩
  ·have hSe:=Yx HD.out.st HD.out.ok th' vs' HD.out.told
   have x4:=HD.out.book
   have hw:IntKind.i64.wrap ((j:Int)+1)=(j:Int)+1:=by rw [IntKind.wrap_i64];omega
   rcases (by omega:ns.length≤k∨(k<ns.length∧8≤k)) with hx|hx
   all_goals
    have hx1:(ns.length:Int)≤(k:Int)∨((k:Int)<(ns.length:Int)∧(8:Int)≤(k:Int)):=by omega
    go_wp2_with (first
     | (refine pK rfl (.tmp 9) rfl nq rfl x4 ?_)
     | (go_at_call 20;(with_reducible refine jC hSe ?_);rintro e X5 ⟨rfl,hS5⟩;have hV5:=qFb hS5)
     | (go_at_call 17;(with_reducible refine jC hV5 ?_);rintro e X6 ⟨rfl,hS6⟩;have hC6:=qBp hK hS6 HD.out.ok hj HD.out.told)
     | (go_at_call 26;(with_reducible refine jC hC6 ?_);rintro e X7 ⟨rfl,j',o',ao',hS7,hor,hT7⟩;have hV7:=xS hS7)
     | (go_at_call 17;(with_reducible refine jC hV7 ?_);rintro e X8 ⟨rfl,hS8⟩;have x8:=HD.out.book.on hS8.kept (.inr rfl);have y8:=(H.out.book.on HO.out H.out.own).on hS8.kept (.inl H.out.own))
     | (refine pK rfl (.tmp 9) rfl nq rfl x8 ?_)
     | (refine rN rfl (.tmp 58) (.tmp 57) rfl q rfl rfl y8 x8.lt x8.lv ?_;intro X9 hB9 hF9;rcases hor with⟨rfl,rfl,rfl⟩|⟨rfl,rfl⟩))
    all_goals
     go_ret
     have hL8:=hS8.less wr (fun i hi=>.inl hi) (On.refl _ _) (fun i hi=>jY (HKL.out i hi) HO.out.size)
     exact⟨rfl,_,_,_,_,_,⟨hL8.touch hF9 H.out.own,hB9,H.out.own,hT7⟩,by simp,(HO.out.mono (fun i hi=>hi.1)).trans ((hL8.kept.mono (fun i hi=>hi.1)).trans (hF9.on (fun i hi=>⟨jY (HKL.out i hi.1) (vJ HO.out.size hS8.kept.size),fun e=>by simp only [Bl.one] at e;exact hi.2 e⟩)))⟩
theorem uN (h:SkL bT n Kp w wq d b j m o ao) (th:List Bool) (vs:List ByteArray) (ht:Told (eY o) th vs) (hm:m≤1000000) :
  Calls Tryz.prog 32 #[.pointer (some ⟨d,0,none⟩),.agg (bookC th vs)] wq fun e w'=>e=.returned (.bool true)∧On Kp w w':=by
 have hlt12:=ht.lt
 have hlv12:=ht.lv
 obtain⟨W1,hW1⟩:=nM (wq.alloc (.cells (bookC th vs) 30))
 have x1:bJ W1 wq.heap.size th vs:=⟨hW1▸aA wq _,ht.lt,ht.lv⟩
 have hM:=h.make (.cells (bookC th vs) 30)
 rw [hW1] at hM
 have hBg:=Ue hM false hm
 obtain⟨fs,hro⟩:∃ fs,aY fs (rootOf o) o:=by obtain⟨D,hD,_⟩:=h;exact⟨D.fs,hD.store.sure.rooted⟩
 have HV:Hid (∀ k (hk:k<12),iN o [] (bT[k]'hk)=if th[k]'(by omega) then some (vs[k]'(by omega)).data.toList else none):=fun k hk=>by
  unfold iN
  rw [rY (gO hro)]
  exact ht.tells k hk
 have HK0:Hid (On Kp w W1):=h.kept.trans (hW1▸(On.refl _ _).alloc (fun k hk=>jY (h.below k hk) h.kept.size) _)
 have HX:Hid (bJ W1 wq.heap.size th vs):=x1
 have HT:Hid (Told (eY o) th vs):=ht
 clear hro hM h ht x1
 go_enter Tryz.func32,Tryz.ntmps32
 go_wp2_with (go_at_call 18;(with_reducible refine jC hBg ?_);rintro e X ⟨x,rfl,hS0⟩)
 clear hBg
 go_loopw [7] (fun i wr=>∃ k:Nat,i=.int .i64 k∧k≤12∧Hid (SkO bT n (Bl.or Kp (Bl.one wq.heap.size)) W1 wr d b j (m+1) o ao false x [])) (fun i _=>12-(intOf i).toNat)
 case atStart=>exact⟨0,rfl,by omega,hS0⟩
 case round =>
  obtain⟨k,rfl,hk,HS⟩:=hrel
  clear hS0
  by_cases hlt:k<12
  ·have hki:(k:Int)<12:=by omega
   have hK1:=Iz k hlt wr
   have ks:=rD _ (rE k hlt)
   have htl:=HV.out k hlt
   have hne:=HT.out.neat k hlt
   obtain⟨kk,hkk⟩:=nM (bT[k]'hlt)
   obtain⟨vv,hvv⟩:=nM (vs[k]'(by omega))
   obtain⟨tt,htt⟩:=nM (th[k]'(by omega))
   simp only [hkk] at hK1 ks htl
   simp only [hvv,htt] at htl hne
   cases tt with
   | false =>
    have hv0:=hne rfl
    subst hv0
    have hsv:iN o [] kk=none:=by simpa using htl
    clear htl hne
    go_wp2_with (first
     | (go_at_call 24;(with_reducible refine jC hK1 ?_);rintro e X1 ⟨rfl,hb1⟩;have hG:=Ts (HS.out.step hb1) ⟨.nil,by simp,by simp,by simp⟩ kk ks.1 ks.2)
     | (go_at_call 30;(with_reducible refine jC hG ?_);rintro e X2 ⟨v2,z,rfl,hS2,hF2,hor⟩;obtain⟨rfl,rfl⟩:z=5∧v2=⟨#[]⟩:=(by rcases hor with⟨_,h2,h3⟩|⟨l,h1,_⟩;exact⟨h2,h3⟩;(rw [hsv] at h1;cases h1));clear hor;have hN2:=HX.out.on hS2.kept (.inr rfl);have e1:=hN2.there k hlt;rw [htt] at e1;have e2:=hN2.value k hlt;rw [hvv] at e2))
    exact⟨⟨k+1,by go_num,by omega,hS2⟩,by simp [intOf];omega⟩
   | true =>
    have hsv:iN o [] kk=some vv.data.toList:=by simpa using htl
    clear htl hne
    go_wp2_with (first
     | (go_at_call 24;(with_reducible refine jC hK1 ?_);rintro e X1 ⟨rfl,hb1⟩;have hG:=Ts (HS.out.step hb1) ⟨.nil,by simp,by simp,by simp⟩ kk ks.1 ks.2)
     | (go_at_call 30;(with_reducible refine jC hG ?_);rintro e X2 ⟨v2,z,rfl,hS2,hF2,hor⟩;obtain⟨rfl,rfl⟩:z=0∧v2=vv:=(by rcases hor with⟨h1,_⟩|⟨l,h1,h2,h3⟩;(rw [hsv] at h1;cases h1);(rw [hsv] at h1;cases h1;exact⟨h2,h3.trans (uG vv)⟩));clear hor;have hN2:=HX.out.on hS2.kept (.inr rfl);have e1:=hN2.there k hlt;rw [htt] at e1;have e2:=hN2.value k hlt;rw [hvv] at e2))
    exact⟨⟨k+1,by go_num,by omega,hS2⟩,by simp [intOf];omega⟩
  ·obtain rfl:k=12:=by omega
   go_wp2
   go_ret
   exact⟨rfl,HK0.out.trans (HS.out.kept.mono (fun i hi=>.inl hi))⟩
