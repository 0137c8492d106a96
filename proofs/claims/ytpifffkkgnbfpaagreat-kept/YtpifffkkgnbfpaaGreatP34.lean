import Derived.Test.YtpifffkkgnbfpaaGreatP33
set_option linter.unusedSimpArgs false
set_option linter.unusedVariables false
set_option maxRecDepth 100000
set_option maxHeartbeats 8000000
namespace Go.Proofs.YtpifffkkgnbfpaaGreat.Tree
open Go.RowKit Pages
variable {D:Db} {K:List ByteArray} {ao o:Option (Nat×T)} {b d j n:Nat} {cs:List Ch} {fs:Fs} {w w' wq:World} {x:Int}
def qDz (D:Db) (i:Nat) (t:Tx) (o:Option (Nat×T)) (key:ByteArray) (z:Int) (D':Db):Prop :=
  (dZ o t.cs key=true∧z=0∧∃ ca' cc',D' = { D with ts:=D.ts.set i { t with cs:=bM t.cs ⟨key,⟨#[]⟩,true⟩,ca:=ca',cc:=cc' } })∨(dZ o t.cs key=false∧z=5∧D'=D)
theorem qBh (D:Db) (x:Int) (i:Nat) (t:Tx) (o:Option (Nat×T)) (key:ByteArray) (b0 b1 b2:Nat) (w:World) (h:aN w 1 D) (hal:(D.fs.life==0)=false) (hro:bJ D.fs t.root o) (hn:D.ts.length≤1000) (hi:i<D.ts.length) (ht:D.ts[i]=t) (hx:mU D.ts x=i) (hw:t.wr=true) (hr:cI t.cs) (hcs:t.cs.length≤1000) (hk1:1≤key.size) (hk2:key.size≤24)
    (x0:w.heap[b0]?=some (.cells #[.pointer (some ⟨D.d,0,none⟩)] 23)) (x1:w.heap[b1]?=some (.cells #[.int .i64 x] 3)) (x2:w.heap[b2]?=some (.cells #[.string key] 9)) :
    Calls Tryz.prog 48 #[.pointer (some ⟨b0,0,none⟩),.pointer (some ⟨b1,0,none⟩),.pointer (some ⟨b2,0,none⟩)] w fun e w'=>∃ z D',e=.returned (.int .i64 z)∧aN w' 1 D'∧D'.d=D.d∧Fr (fpD D) w w'∧aJ w (fpD D) (fpD D')∧qDz D i t o key z D':=by
  have hWr:=Av D 1 x i t w h (by omega) hi ht hx hw
  have hm:t∈D.ts:=ht▸List.getElem_mem hi
  have HK:Hid (∀ X,Below w.heap.size w X→aN X 1 D∧X.cell? ⟨b0,0,none⟩=some (.pointer (some ⟨D.d,0,none⟩))∧X.cell? ⟨b1,0,none⟩=some (.int .i64 x)∧X.heap[b2]?=some (.cells #[.string key] 9)∧X.cell? ⟨t.b,2,none⟩=some (.pointer (some ⟨D.β,0,none⟩))∧X.cell? ⟨t.b,3,none⟩=some (.int .i64 t.root)∧X.cell? ⟨t.b,4,none⟩=some (.slice t.ca t.cs.length t.cc)):=by
    intro X hX
    have hD:=h.on (vV hX h.lies)
    obtain⟨q0,q1,q2,q3,q4,q5⟩:=rU (hD.each t hm).box
    exact⟨hD,dG ((hX.block _ (gL x0)).trans x0),dG ((hX.block _ (gL x1)).trans x1),(hX.block _ (gL x2)).trans x2,q2,q3,q4⟩
  obtain⟨_,c0,c1,y2,q2,q3,q4⟩:=HK.out w (Below.refl _ _)
  have c2:=dG y2
  have hKy:∀ X,Calls Tryz.prog 45 #[.string key] X fun e w'=>e=.returned (.bool true)∧w'=X:=fun X=>by
    have:=xO key X
    rw [decide_eq_true (And.intro hk1 hk2)] at this
    exact this
  obtain⟨fb,hfb⟩:=nM (dZ o t.cs key)
  have HFi:Hid (∀ X,aN X 1 D→Calls Tryz.prog 49 #[.agg #[.pointer (some ⟨D.β,0,none⟩),.int .i64 t.root,.slice t.ca t.cs.length t.cc],.string key] X fun e w'=>∃ E:Ent,e=.returned (.tuple #[.agg #[.string E.key,.string E.val,.int .i64 E.size,.int .i64 E.over],.bool fb])∧Below X.heap.size X w'):=fun X hX=>by
    obtain⟨a0,cc0,he,hcc,hrow⟩:=cO (hX.each t hm).row
    simp only [Tx.cv,Value.slice.injEq,true_and] at he
    obtain⟨e1,e2⟩:=he
    subst e1 e2
    refine(Ns D.β D.sv D.lv D.fs hal t.root t.ca t.cc t.cs key o hro (fun k=>t.cv.ownBlock=some k) X hX.file hrow (fun k hk=>aX (hX.each t hm).row hk) hr hcs hcc (by omega)).mono ?_
    rintro e w' ⟨E,rfl,_,_,hb⟩
    exact⟨E,by rw [hfb],hb⟩
  have HCk:Hid (∀ X,Calls Tryz.prog 47 #[.string key] X fun e w'=>e=.returned (.string key)∧Below X.heap.size X w'):=fun X=>tL key (by omega) X
  have HCh:Hid (∀ X,aN X 1 D→Calls Tryz.prog 46 #[.pointer (some ⟨t.b,0,none⟩),.agg #[.string key,.string ⟨#[]⟩,.bool true]] X fun e w'=>e=.returned (.tuple #[])∧∃ ca' cc',eF w' D.β { t with cs:=bM t.cs ⟨key,⟨#[]⟩,true⟩,ca:=ca',cc:=cc' }∧Fr (fpT t) X w'∧∀ k,fpT { t with cs:=bM t.cs ⟨key,⟨#[]⟩,true⟩,ca:=ca',cc:=cc' } k→fpT t k∨X.heap.size≤k):=fun X hX=>Ea t D.β ⟨key,⟨#[]⟩,true⟩ X (hX.each t hm) hr hcs
  have HHI:Hid (i<D.ts.length):=hi
  have HTI:Hid (D.ts[i]=t):=ht
  have HFB:Hid (dZ o t.cs key=fb):=hfb
  clear x0 x1 x2 h ht hx hr hfb
  go_enter Tryz.func48,Tryz.ntmps48
  go_wp2_with (first
    | (go_at_call 44;(with_reducible refine jC hWr ?_);rintro e X1 ⟨rfl,hX1⟩;obtain⟨hD1,c0,c1,y2,q2,q3,q4⟩:=HK.out X1 hX1;have c2:=dG y2;have hKy1:=hKy X1)
    | (go_at_call 45;(with_reducible refine jC hKy1 ?_);rintro e X1' ⟨rfl,hX1'⟩;subst X1'))
  have HS:Hid (∀ X,Below w.heap.size w X→X.cell? ⟨b2,0,none⟩=some (.string key)∧X.cell? ⟨t.b,2,none⟩=some (.pointer (some ⟨D.β,0,none⟩))∧X.cell? ⟨t.b,3,none⟩=some (.int .i64 t.root)∧X.cell? ⟨t.b,4,none⟩=some (.slice t.ca t.cs.length t.cc)):=fun X hX=>by
    obtain⟨_,_,_,y2,q2,q3,q4⟩:=HK.out X hX
    exact⟨dG y2,q2,q3,q4⟩
  have zX1:=hX1.size
  go_region_held3 (fun X=>X.cell? ⟨b2,0,none⟩=some (.string key)∧X.cell? ⟨t.b,2,none⟩=some (.pointer (some ⟨D.β,0,none⟩))∧X.cell? ⟨t.b,3,none⟩=some (.int .i64 t.root)∧X.cell? ⟨t.b,4,none⟩=some (.slice t.ca t.cs.length t.cc))
    ((refine HS.out _ ?_;(repeat (first|exact hX1|exact B2|(refine Below.drew ?_)|(refine Below.alloc ?_ (by first|omega|(simp;omega)) _)|(refine Below.setCell ?_ (by first|omega|(simp;omega)|(show w.heap.size≤X2.heap.size;omega)|(show w.heap.size≤X1.heap.size;omega)) _)))))
    (first
      | (go_at_call 49;(with_reducible refine jC (HFi.out _ (HK.out _ ?_).1) ?_);(first|exact hX1.drew|exact hX1|exact(hX1.alloc zX1 _).drew|exact hX1.drew.alloc zX1 _);rintro e X2 ⟨E,rfl,hX2⟩;have B2:Below w.heap.size w X2:=(by first|exact hX1.drew.trans (hX2.mono zX1)|exact(hX1.alloc zX1 _).drew.trans (hX2.mono (by simp;omega)));have zX2:=B2.size;have xE:=aA X2 nJ;obtain⟨g0,g1,g2,g3⟩:=zU xE;have gfr:=aF xE;try (have xF:X2.heap[X1.heap.size]?=some nJ:=(hX2.block _ (by simp)).trans (by first|exact aA X1 nJ|exact aA X1.drew nJ);clear g0 g1 g2 g3 gfr;obtain⟨g0,g1,g2,g3⟩:=zU xF;have gfr:=aF xF)))
  all_goals
    clear hKy1 hWr
    first
      | (obtain⟨X3,hX3⟩:=nM (X2.alloc (.cells #[.string E.key,.string E.val,.int .i64 E.size,.int .i64 E.over] 108))
         rw [hX3]
         have B3:Below w.heap.size w X3:=hX3▸B2.alloc zX2 _
         clear hX3)
      | (obtain⟨X3,hX3⟩:=nM ((((X2.setCell ⟨X1.heap.size,0,none⟩ (.string E.key)).setCell ⟨X1.heap.size,1,none⟩ (.string E.val)).setCell ⟨X1.heap.size,2,none⟩ (.int .i64 E.size)).setCell ⟨X1.heap.size,3,none⟩ (.int .i64 E.over))
         rw [hX3]
         have B3:Below w.heap.size w X3:=hX3▸((((B2.setCell (p:=⟨X1.heap.size,0,none⟩) zX1 _).setCell (p:=⟨X1.heap.size,1,none⟩) zX1 _).setCell (p:=⟨X1.heap.size,2,none⟩) zX1 _).setCell (p:=⟨X1.heap.size,3,none⟩) zX1 _)
         clear hX3)
    clear g0 g1 g2 g3 gfr xE
    obtain⟨hD3,c0,c1,y2,q2,q3,q4⟩:=HK.out X3 B3
    have c2:=dG y2
    have hCl:=HCk.out X3
    cases fb with
    | false =>
      go_wp2
      go_ret
      exact⟨5,D,rfl,hD3,rfl,Fr.of_below B3,aJ.refl _ _,.inr ⟨HFB.out,rfl,rfl⟩⟩
    | true =>
      go_wp2_with (first
        | (go_at_call 47;(with_reducible refine jC hCl ?_);rintro e X4 ⟨rfl,hX4⟩;have B4:Below w.heap.size w X4:=B3.trans (hX4.mono B3.size);obtain⟨hD4,c0,c1,y2,q2,q3,q4⟩:=HK.out X4 B4;have hCg:=HCh.out X4 hD4)
        | (go_at_call 46;(with_reducible refine jC hCg ?_);rintro e X5 ⟨rfl,ca',cc',hT5,hF5,hG5⟩))
      go_ret
      refine⟨0,_,rfl,hD4.retx HHI.out HTI.out hT5 rfl hF5 hG5,rfl,(Fr.of_below B4).trans (hF5.mono (fun k hk=>.inl (.inr (.inr (.inr ⟨t,hm,hk⟩))))),fun k hk=>?_,.inl ⟨HFB.out,rfl,ca',cc',rfl⟩⟩
      have:=Dk (w:=X4) HHI.out HTI.out hG5 k hk
      exact this.imp id (fun h=>vJ B4.size h)
theorem uE (D:Db) (x:Int) (i:Nat) (t:Tx) (o:Option (Nat×T)) (key:ByteArray) (w:World) (h:aN w 0 D) (hal:(D.fs.life==0)=false) (hro:bJ D.fs t.root o) (hn:D.ts.length≤1000) (hi:i<D.ts.length) (ht:D.ts[i]=t) (hx:mU D.ts x=i) (hw:t.wr=true) (hr:cI t.cs) (hcs:t.cs.length≤1000) (hk1:1≤key.size) (hk2:key.size≤24) :
    Calls Tryz.prog 25 #[.pointer (some ⟨D.d,0,none⟩),.int .i64 x,.string key] w fun e w'=>∃ z D',e=.returned (.int .i64 z)∧aN w' 0 D'∧D'.d=D.d∧Fr (fpD D) w w'∧aJ w (fpD D) (fpD D')∧qDz D i t o key z D':=by
  obtain⟨W1,hW1⟩:=nM (((w.alloc (.cells #[.pointer (some ⟨D.d,0,none⟩)] 23)).alloc (.cells #[.int .i64 x] 3)).alloc (.cells #[.string key] 9))
  have B1:Below w.heap.size w W1:=hW1▸((bA _ _).alloc (by simp) _).alloc (by simp;omega) _
  have x0:W1.heap[w.heap.size]?=some (.cells #[.pointer (some ⟨D.d,0,none⟩)] 23):=hW1▸aB _ (aB _ (aA w _))
  have x1:W1.heap[w.heap.size+1]?=some (.cells #[.int .i64 x] 3):=by
    rw [← hW1];refine aB _ ?_;have:=aA (w.alloc (.cells #[.pointer (some ⟨D.d,0,none⟩)] 23)) (.cells #[.int .i64 x] 3);simpa using this
  have x2:W1.heap[w.heap.size+1+1]?=some (.cells #[.string key] 9):=by
    rw [← hW1];have:=aA ((w.alloc (.cells #[.pointer (some ⟨D.d,0,none⟩)] 23)).alloc (.cells #[.int .i64 x] 3)) (.cells #[.string key] 9);simpa using this
  have h1:aN W1 0 D:=h.on (vV B1 h.lies)
  have dlt:=(gL h.box)
  have c0:=dG x0
  have hFc:=Ka D 48 #[] #[.pointer (some ⟨w.heap.size,0,none⟩),.pointer (some ⟨w.heap.size+1,0,none⟩),.pointer (some ⟨w.heap.size+1+1,0,none⟩)] (enters_of Tryz.func48 (by kernel_rfl) rfl) W1 h1 (qDz D i t o key) (by
    intro W0 hD0 hF0 hs0
    have nd:∀ k,w.heap.size≤k→¬ Bl.one D.d k:=fun k hk e=>by simp only [Bl.one] at e;omega
    exact qBh D x i t o key _ _ _ W0 hD0 hal hro hn hi ht hx hw hr hcs hk1 hk2 (hF0.heap x0 (nd _ (by omega))) (hF0.heap x1 (nd _ (by omega))) (hF0.heap x2 (nd _ (by omega))))
  clear x0 x1 x2
  go_enter Tryz.func25,Tryz.ntmps25
  go_wp2_with (go_at_call 35;(with_reducible refine jC hFc ?_);rintro e X ⟨z,D',rfl,hD',hd',hF',hG',hR⟩)
  go_ret
  exact⟨z,D',rfl,hD',hd',(Fr.of_below B1).trans hF',fun k hk=>(hG' k hk).imp id (fun h=>vJ B1.size h),hR⟩
structure Eo (K:List ByteArray) (n:Nat) (w wq:World) (D:Db) (j:Nat) (o ao:Option (Nat×T)):Prop where
 db:aN wq 0 D
 well:D.fs.well
 failed:D.failed=false
 ver:D.ver=j
 root:D.root=rootOf o
 aroot:D.aroot=rootOf ao
 last0:0≤D.last
 last1:D.last≤j
 store:dV K n D.fs j o ao
 new:∀ k,fpD D k→w.heap.size≤k
 below:Below w.heap.size w wq
def Idle (D:Db):Prop:=D.ts=[]
def qGo (D:Db) (x:Int) (o:Option (Nat×T)) (cs:List Ch):Prop:=∃ t,D.ts=[t]∧t.num=x∧t.wr=true∧t.root=rootOf o∧t.cs=cs∧t.ks=[]
structure OpenSt (K:List ByteArray) (n:Nat) (w wq:World) (D:Db) (j:Nat) (o ao:Option (Nat×T)) (x:Int) (cs:List Ch):Prop where
 db:aN wq 0 D
 well:D.fs.well
 failed:D.failed=false
 ver:D.ver=j
 root:D.root=rootOf o
 aroot:D.aroot=rootOf ao
 last0:0≤D.last
 last1:D.last≤j+1
 store:dV K n D.fs j o ao
 new:∀ k,fpD D k→w.heap.size≤k
 below:Below w.heap.size w wq
 busy:qGo D x o cs
theorem mV {Y:Bl} (hb:Below w.heap.size w wq) (f:Fr Y wq w') (h:∀ k,Y k→w.heap.size≤k):Below w.heap.size w w':=hb.trans (f.below hb.size h)
theorem vQ {Y Y':Bl} (hb:Below w.heap.size w wq) (h:∀ k,Y k→w.heap.size≤k) (g:aJ wq Y Y'):∀ k,Y' k→w.heap.size≤k:=fun k hk=>(g k hk).elim (h k) (fun h'=>vJ hb.size h')
theorem qCb (h:Eo K n w wq D j o ao) (hi:Idle D) (hj:j≤1000000) :
  Calls Tryz.prog 18 #[.pointer (some ⟨D.d,0,none⟩),.bool true] wq fun e w'=>e=.returned (.tuple #[.int .i64 (D.last+1),.int .i64 0])∧∃ D1,OpenSt K n w w' D1 j o ao (D.last+1) []∧D1.d=D.d∧D1.β=D.β:=by
 have h1:=h.last0
 have h2:=h.last1
 refine(xT D true wq h.db (by rw [hi];simp) h1 (by omega)).mono ?_
 rintro e w' ⟨rfl,b,ov',hD,hF,hb,hov⟩
 rw [show D.ts=[] from hi,jE] at hD
 refine⟨rfl,_,⟨hD,h.well,h.failed,h.ver,h.root,h.aroot,by show 0≤D.last+1;omega,by show D.last+1≤(j:Int)+1;omega,h.store,?_,mV h.below hF h.new,⟨_,rfl,rfl,rfl,h.root,rfl,rfl⟩⟩,rfl,rfl⟩
 have hs:=h.below.size
 rintro k (hk|hk|hk|⟨y,hy,hk⟩)
 ·exact h.new k (.inl hk)
 ·exact h.new k (.inr (.inl hk))
 ·rcases hov k hk with h'|h'
  ·exact h.new k (.inr (.inr (.inl h')))
  ·omega
 ·rw [List.mem_singleton] at hy
  subst hy
  have:=rG hk
  omega
theorem qEt (h:OpenSt K n w wq D j o ao x cs) (key val:ByteArray) (hr:cI cs) (hn:cs.length≤1000) (hk1:1≤key.size) (hk2:key.size≤24) (hv:val.size≤400) :
  Calls Tryz.prog 23 #[.pointer (some ⟨D.d,0,none⟩),.int .i64 x,.string key,.string val] wq fun e w'=>e=.returned (.int .i64 0)∧∃ D1,OpenSt K n w w' D1 j o ao x (bM cs ⟨key,val,false⟩)∧D1.d=D.d∧D1.β=D.β:=by
 obtain⟨t,hts,hx,hwr,htr,hcs,hks⟩:=h.busy
 subst hcs
 have hti:D.ts[0]'(by rw [hts];simp)=t:=by simp [hts]
 refine(Jj D x 0 t key val wq h.db (by rw [hts];simp) (by rw [hts];simp) hti (by rw [hts];exact kL (j:=0) (by simp) (by simp [hx]) (fun m hm h=>by omega)) hwr hr hn hk1 hk2 hv).mono ?_
 rintro e w' ⟨rfl,ca',cc',hD,hF,hG⟩
 refine⟨rfl,_,⟨hD,h.well,h.failed,h.ver,h.root,h.aroot,h.last0,h.last1,h.store,vQ h.below h.new hG,mV h.below hF h.new,⟨{ t with cs:=bM t.cs ⟨key,val,false⟩,ca:=ca',cc:=cc' },?_,hx,hwr,htr,rfl,hks⟩⟩,rfl,rfl⟩
 show D.ts.set 0 _=[_]
 rw [hts];rfl
theorem qFf (h:OpenSt K n w wq D j o ao x cs) (key:ByteArray) (hr:cI cs) (hn:cs.length≤1000) (hk1:1≤key.size) (hk2:key.size≤24) :
  Calls Tryz.prog 25 #[.pointer (some ⟨D.d,0,none⟩),.int .i64 x,.string key] wq fun e w'=>∃ z D1 cs',e=.returned (.int .i64 z)∧OpenSt K n w w' D1 j o ao x cs'∧D1.d=D.d∧D1.β=D.β∧((dZ o cs key=true∧z=0∧cs'=bM cs ⟨key,⟨#[]⟩,true⟩)∨(dZ o cs key=false∧z=5∧cs'=cs)):=by
 obtain⟨t,hts,hx,hwr,htr,hcs,hks⟩:=h.busy
 subst hcs
 have hti:D.ts[0]'(by rw [hts];simp)=t:=by simp [hts]
 refine(uE D x 0 t o key wq h.db (Fs.well_alive h.well) (htr▸h.store.sure.rooted) (by rw [hts];simp) (by rw [hts];simp) hti (by rw [hts];exact kL (j:=0) (by simp) (by simp [hx]) (fun m hm h=>by omega)) hwr hr hn hk1 hk2).mono ?_
 rintro e w' ⟨z,D',rfl,hD,hd,hF,hG,hR⟩
 rcases hR with⟨h1,h2,ca',cc',rfl⟩|⟨h1,h2,rfl⟩
 ·refine⟨z,_,_,rfl,⟨hD,h.well,h.failed,h.ver,h.root,h.aroot,h.last0,h.last1,h.store,vQ h.below h.new hG,mV h.below hF h.new,⟨{ t with cs:=bM t.cs ⟨key,⟨#[]⟩,true⟩,ca:=ca',cc:=cc' },?_,hx,hwr,htr,rfl,hks⟩⟩,rfl,rfl,.inl ⟨h1,h2,rfl⟩⟩
  show D.ts.set 0 _=[_]
  rw [hts];rfl
 ·exact⟨z,_,_,rfl,⟨hD,h.well,h.failed,h.ver,h.root,h.aroot,h.last0,h.last1,h.store,h.new,mV h.below hF h.new,⟨t,hts,hx,hwr,htr,rfl,hks⟩⟩,rfl,rfl,.inr ⟨h1,h2,rfl⟩⟩
structure lT (K:List ByteArray) (cs:List Ch):Prop where
 rise:cI cs
 good:∀ c∈cs,c.good
 keys:∀ c∈cs,c.key∈K
 len:cs.length≤1000
theorem lT.with (h:lT K cs) (hl:cs.length<1000) (c:Ch) (hg:c.good) (hk:c.key∈K):lT K (bM cs c)∧0<(bM cs c).length∧(bM cs c).length≤cs.length+1:=by
 have hlen:(bM cs c).length≤cs.length+1∧0<(bM cs c).length:=by
  rw [tI h.rise,jK,jB,List.length_take,List.length_drop]
  have:=pT cs c.key
  constructor
  ·split<;>omega
  ·omega
 refine⟨⟨Fz h.rise c,fun x hx=>?_,fun x hx=>?_,by omega⟩,hlen.2,hlen.1⟩
 ·rcases (fJ h.rise c x).1 hx with rfl|⟨h1,_⟩
  ·exact hg
  ·exact h.good x h1
 ·rcases (fJ h.rise c x).1 hx with rfl|⟨h1,_⟩
  ·exact hk
  ·exact h.keys x h1
structure KOk (K:List ByteArray) (n:Nat):Prop where
 k24:∀ k∈K,k.size≤24
 ksum:3+tot (fun k:ByteArray=>k.size+3) K≤250
 n40:40≤n
 small:n≤4096
 room:3 * (1+3 * K.length)+2≤n
theorem qFj (hK:KOk K n)       (h:OpenSt K n w wq D j o ao x cs) (hc:lT K cs) (hne:0<cs.length) (hj:j≤1000000) :
  Calls Tryz.prog 26 #[.pointer (some ⟨D.d,0,none⟩),.int .i64 x] wq fun e w'=>e=.returned (.int .i64 0)∧∃ D1 o1,Eo K n w w' D1 (j+1) o1 o∧Idle D1∧D1.d=D.d∧D1.β=D.β∧(cQ o1).map En.kv=(bD (cQ o) cs).map En.kv:=by
 obtain⟨t,hts,hx,hwr,htr,hcs,hks⟩:=h.busy
 subst hcs
 obtain⟨hP,_⟩:=Ai (K:=K) (n:=n) (fs:=D.fs) (o:=o) (cs:=t.cs) (os:=[o,ao]) h.store.len hK.small (fun o' ho'=>by
  rcases List.mem_cons.1 ho' with rfl|ho'
  ·exact h.store.sure
  ·rw [List.mem_singleton] at ho';subst ho';exact h.store.ahead) (by simp) hc.rise hc.good hc.keys hK.k24 hK.ksum (by simp only [jB,jN];exact hK.room)
 have hlen:=h.store.len
 have hn40:=hK.n40
 rw [← hlen] at hP
 have hP':nK K n D.fs o t.cs (eJ D.fs.safe.length (dF [o,ao])):=by rw [hlen] at hP ⊢;exact hP
 obtain⟨c1,c2,c3,c4,c5⟩:=gM h.store hP' (by omega) (by omega)
 refine(Uj D x j o ao t wq h.db hts hx hne hks hc.len h.well h.failed h.ver (by omega) h.store (by omega) h.root h.aroot hP').mono ?_
 rintro e w' ⟨z,D',rfl,hD,hd,hF,hG,rfl,g,c,lv',hov,rfl⟩
 have hl1:=h.last1
 exact⟨rfl,_,_,⟨hD,h.well,h.failed,rfl,rfl,h.root,h.last0,by show D.last≤((j+1:Nat):Int);omega,c1,vQ h.below h.new hG,mV h.below hF h.new⟩,rfl,rfl,rfl,c4⟩
theorem qEo (h:Eo K n w wq D j o ao) :
  Calls Tryz.prog 17 #[.pointer (some ⟨D.d,0,none⟩)] wq fun e w'=>e=.returned (.int .i64 (j:Nat))∧Eo K n w w' D j o ao:=by
 refine(qO D wq h.db).mono ?_
 rintro e w' ⟨rfl,hD,hF⟩
 exact⟨by rw [h.ver],hD,h.well,h.failed,h.ver,h.root,h.aroot,h.last0,h.last1,h.store,h.new,mV h.below hF (fun k hk=>hk.elim)⟩
structure Sv (w wq:World) (β:Nat) (sv lv:Value) (fs:Fs):Prop where
 file:aG wq β sv lv fs
 new:∀ k,fpF β sv lv k→w.heap.size≤k
 below:Below w.heap.size w wq
theorem Ui {β:Nat} {sv lv:Value}  (hf:aG wq β sv lv fs) (hb:Below w.heap.size w wq) :
  Calls Tryz.prog 14 #[.pointer (some ⟨β,0,none⟩)] wq fun e w'=>∃ β' sv' lv',e=.returned (.pointer (some ⟨β',0,none⟩))∧Sv w w' β' sv' lv' fs:=by
 refine(Oi β sv lv fs wq hf).mono ?_
 rintro e w' ⟨β',sv',lv',rfl,hf',hb',hn⟩
 exact⟨β',sv',lv',rfl,hf',fun k hk=>vJ hb.size (hn k hk),hb.trans (hb'.mono hb.size)⟩
theorem Jo {β:Nat} {sv lv:Value}    (h:Sv w wq β sv lv fs) (S:dV K n fs j o ao) (hw:fs.well) (hn:40≤n) :
  Calls Tryz.prog 16 #[.pointer (some ⟨β,0,none⟩)] wq fun e w'=>∃ D,e=.returned (.tuple #[.pointer (some ⟨D.d,0,none⟩),.int .i64 0])∧Eo K n w w' D j o ao∧Idle D∧D.β=β:=by
 refine(Mb S hn hw β sv lv wq h.file).mono ?_
 rintro e w' ⟨D,rfl,hD,h1,h2,h3,h4,h5,h6,h7,h8,h9,hF,hG⟩
 exact⟨D,rfl,⟨hD,h3▸hw,h7,h4,h5,h6,by rw [h8];exact Int.le_refl _,by rw [h8];exact Int.natCast_nonneg _,h3▸S,vQ h.below h.new hG,mV h.below hF h.new⟩,h9,h1⟩
theorem Nj (hn:40≤n) (hn2:n≤4096) (w:World) :
  Calls Tryz.prog 10 #[.int .i64 (n:Nat)] w fun e w'=>∃ D,e=.returned (.tuple #[.pointer (some ⟨D.d,0,none⟩),.pointer (some ⟨D.β,0,none⟩)])∧Eo K n w w' D 0 none none∧Idle D:=by
 have hS:dV K n (Fs.new n) 0 none none:=Vf K n (by omega)
 have hw:(Fs.new n).well:=⟨rfl,rfl⟩
 have hNw:=qCv n w hn2
 go_enter Tryz.func10,Tryz.ntmps10
 go_wp2_with (first
  | (go_at_call 33;(with_reducible refine jC hNw ?_);rintro e X1 ⟨β,sv,lv,rfl,hf1,hb1,hn1⟩;have hO1:=Jo (K:=K) (w:=w) ⟨hf1,hn1,hb1⟩ hS hw hn)
  | (go_at_call 16;(with_reducible refine jC hO1 ?_);rintro e X2 ⟨D0,rfl,hL0,hi0,hβ0⟩;subst hβ0;have HL0:Hid _:=hL0;have hC:=Ui (w:=w) hL0.db.file hL0.below;clear hL0)
  | (go_at_call 14;(with_reducible refine jC hC ?_);rintro e X3 ⟨β',sv',lv',rfl,hf3⟩;have hO2:=Jo (K:=K) hf3 HL0.out.store HL0.out.well hn)
  | (go_at_call 16;(with_reducible refine jC hO2 ?_);rintro e X4 ⟨D,rfl,hL,hi,hβ⟩;subst hβ))
 go_ret2
 exact⟨D,rfl,hL,hi⟩
theorem Xb (key k:ByteArray):(mT key).has k=true↔k=key:=by
 have happ:(key++(⟨#[0]⟩:ByteArray)).toList=key.toList++[0]:=by
  rw [ByteArray.toList_eq,ByteArray.toList_eq];simp
 have hne:(key++(⟨#[0]⟩:ByteArray))≠⟨#[]⟩:=fun e=>by
  have:=congrArg ByteArray.toList e
  rw [happ] at this
  have h2:(⟨#[]⟩:ByteArray).toList=[]:=by rw [ByteArray.toList_eq]
  rw [h2] at this
  simp at this
 constructor
 ·intro h
  simp only [mT,Sp.has,Bool.and_eq_true,fH] at h
  rcases h.2 with h2|h2
  ·exact absurd h2 hne
  ·unfold lt at h2
   rw [happ] at h2
   rcases Up _ _ h2 with h3|h3
   ·have:=Ci.2 h.1
    rw [show lt k key=true from h3] at this;cases this
   ·exact pR h3
 ·rintro rfl
  simp only [mT,Sp.has,Bool.and_eq_true,fH]
  refine⟨bF _,.inr ?_⟩
  unfold lt
  rw [happ]
  exact Uo _
theorem Cg {root:Nat}  (hro:bJ fs root o) (hf:gS o):∀ x∈cQ o,x.good fs:=fun x hx=>by
 obtain⟨h1,h2⟩:=mR (cs:=[]) hro hf .nil (by simp)
 exact h1.good x (by rw [h2];exact(dJ (dB hro) .nil x).2 (.inr ⟨hx,by simp⟩))
theorem An {x:En} (h:x.good fs):x.ok fs∧(x.e.over≠0→x.e.size≠0):=by
 obtain⟨_,_,⟨h1,h2,h3,h4⟩|⟨_,_,size,over,h1,h2,h3,h4,h5⟩⟩:=h
 ·exact⟨⟨x.e.val.size,0,h3,h1,h4,.inl ⟨rfl,h2⟩⟩,fun h=>absurd h1 h⟩
 ·refine⟨⟨size,over,h1,h2,h4,?_⟩,fun _=>by rw [h1];omega⟩
  rcases Nat.eq_zero_or_pos over with rfl|h
  ·rename_i hp
   rw [h2] at hp
   simp [aS] at hp
  ·exact .inr ⟨h,h5⟩
def kW (o:Option (Nat×T)) (cs:List Ch) (key:ByteArray):Option (List UInt8):=valOf (bD (cQ o) cs) key
theorem Ig {root:Nat}   {key:ByteArray} {E:Ent} (hro:bJ fs root o) (hf:gS o) (hr:cI cs) (hc:∀ c∈cs,c.good) (h1:fnd cs key=true→∀ c,cs[cS cs key]?=some c→E=(chE c).e) (h2:fnd cs key=false→∀ x xs,cP (mT key) o=x :: xs→E=x.e) :
  (dZ o cs key=false∧kW o cs key=none)∨∃ X:En,X.good fs∧E=X.e∧dZ o cs key=true∧kW o cs key=some X.value:=by
 have hre:=dB hro
 unfold kW
 rw [Cd hre hr]
 cases hfd:fnd cs key with
 | true =>
  obtain⟨h0,hk⟩:=uB hfd hr
  have hg:=hc _ (List.getElem_mem h0)
  have hE:=h1 hfd _ (jQ h0)
  have hfi:cs.find? (fun c=>decide (c.key=key))=some (cs[cS cs key]):=by
   cases hq:cs.find? (fun c=>decide (c.key=key)) with
   | none=>have:=List.find?_eq_none.1 hq _ (List.getElem_mem h0);simp [hk] at this
   | some c =>
    have a1:=List.mem_of_find?_eq_some hq
    have a2:c.key=key:=by simpa using List.find?_some hq
    obtain⟨i,hi,rfl⟩:=List.getElem_of_mem a1
    rcases Nat.lt_trichotomy i (cS cs key) with h|h|h
    ·have:=List.pairwise_iff_getElem.1 hr i _ hi h0 h
     rw [a2,hk,bU] at this;cases this
    ·subst h;rfl
    ·have:=List.pairwise_iff_getElem.1 hr _ i h0 hi h
     rw [a2,hk,bU] at this;cases this
  rw [hfi]
  simp only
  unfold dZ
  rw [if_pos hfd,jQ h0]
  cases hgo:(cs[cS cs key]).gone with
  | true=>left;exact⟨by simp [hgo],by simp⟩
  | false=>right;exact⟨chE _,Ow hg,hE,by simp [hgo],by simp [En.value,chE]⟩
 | false =>
  have hno:cs.find? (fun c=>decide (c.key=key))=none:=by
   refine List.find?_eq_none.2 fun c hcm=>?_
   simp only [decide_eq_true_eq]
   intro e
   have:=(Ao hr key).2 ⟨c,hcm,e⟩
   rw [hfd] at this;cases this
  rw [hno]
  simp only
  unfold dZ
  rw [if_neg (by rw [hfd];simp)]
  have hst:=tO hro (mT key)
  have hfil:(cQ o).filter (fun x=>(mT key).has x.e.key)=(cQ o).filter (fun x=>decide (x.e.key=key)):=List.filter_congr (fun x _=>by
   rw [Bool.eq_iff_iff,Xb];simp)
  rw [hfil] at hst
  unfold valOf
  cases hl:cP (mT key) o with
  | nil =>
   left
   refine⟨rfl,?_⟩
   rw [hl] at hst
   have:(cQ o).find? (fun x=>decide (x.e.key=key))=none:=List.find?_eq_none.2 fun x hx=>by
    have:=List.filter_eq_nil_iff.1 hst.symm x hx
    exact this
   rw [this];rfl
  | cons x xs =>
   right
   have hh:(cQ o).find? (fun x=>decide (x.e.key=key))=some x:=by
    rw [← List.head?_filter,← hst,hl];rfl
   exact⟨x,Cg hro hf x (List.mem_of_find?_eq_some hh),h2 hfd x xs hl,rfl,by rw [hh];rfl⟩
def aQ:List ByteArray:=[⟨#[0]⟩,⟨#[97]⟩,⟨#[97,97]⟩,⟨#[97,98]⟩,⟨#[98]⟩,⟨#[107,107,107,107,107,107,107,107,107,107,107,107,107,107,107,107,107,107,107,107,107,107,107,97]⟩,⟨#[107,107,107,107,107,107,107,107,107,107,107,107,107,107,107,107,107,107,107,107,107,107,107,98]⟩,⟨#[107,107,107,107,107,107,107,107,107,107,107,107,107,107,107,107,107,107,107,107,107,107,107,99]⟩,⟨#[109]⟩,⟨#[110]⟩,⟨#[122]⟩,⟨#[255]⟩]
theorem bV:∀ k∈aQ,1≤k.size∧k.size≤24:=by decide
theorem qFb:∀ k∈aQ,lt ⟨#[]⟩ k=true:=by decide +kernel
theorem kOk (h1:120≤n) (h2:n≤4096):KOk aQ n:=⟨fun k hk=>(bV k hk).2,by decide,by omega,h2,by show 3 * (1+3 * 12)+2≤n;omega⟩
theorem sL (k:Nat) (hk:k<12) (w:World) :
  Calls Tryz.prog 24 #[.int .i64 (k:Nat)] w fun e w'=>e=.returned (.string (aQ[k]'hk))∧Below w.heap.size w w':=by
 obtain⟨kk,hkk⟩:=nM (aQ[k]'hk)
 have hx:=aA w (.cells (aQ.map Value.string).toArray 9)
 have hc:(w.alloc (.cells (aQ.map Value.string).toArray 9)).cell? ⟨w.heap.size,k,none⟩=some (.string kk):=by
  have hq:aQ[k]?=some kk:=List.getElem?_eq_some_iff.2 ⟨hk,hkk⟩
  unfold World.cell?
  dsimp only
  rw [hx]
  simp [hq]
 have HB:Hid (Below w.heap.size w (w.alloc (.cells (aQ.map Value.string).toArray 9))):=bA _ _
 have hki:(k:Int)<12:=by omega
 rw [hkk]
 clear hx hkk
 simp only [aQ,List.map_cons,List.map_nil] at hc HB
 go_enter Tryz.func24,Tryz.ntmps24
 go_wp2
 go_ret
 exact⟨rfl,HB.out⟩
theorem cL (k:Nat) (hk:k<12):aQ[k]'hk∈aQ:=List.getElem_mem _
abbrev iB:ByteArray:=⟨#[115,111,109,101,32,118,97,108,117,101,32,116,104,97,116,32,115,116,97,110,100,115,32,105,110,32,97,32,108,101,97,102]⟩
theorem oV (k:Nat) (hk:k<12) (v:ByteArray) (hv:v.size≤400) (g:Bool):(⟨aQ[k]'hk,v,g⟩:Ch).good:=⟨qFb _ (cL k hk),(bV _ (cL k hk)).2,hv⟩
theorem qBl (K:List ByteArray):lT K []:=⟨.nil,by simp,by simp,by simp⟩
theorem OpenSt.step (h:OpenSt K n w wq D j o ao x cs) (hb:Below wq.heap.size wq w'):OpenSt K n w w' D j o ao x cs :=
 ⟨h.db.on (vV hb h.db.lies),h.well,h.failed,h.ver,h.root,h.aroot,h.last0,h.last1,h.store,h.new,h.below.trans (hb.mono h.below.size),h.busy⟩
theorem rD (k:Nat) (hk:k<12):lT aQ (bM [] ⟨aQ[k]'hk,iB,false⟩)∧0<(bM [] ⟨aQ[k]'hk,iB,false⟩).length∧(bM [] ⟨aQ[k]'hk,iB,false⟩).length≤1:=(qBl aQ).with (by simp) _ (oV k hk _ (by decide) _) (cL k hk)
theorem Jc {cs cs':List Ch} (k:Nat) (hk:k<12) {z:Int}  (h:lT aQ cs∧0<cs.length∧cs.length≤1) (h':(dZ o cs (aQ[k]'hk)=true∧z=0∧cs'=bM cs ⟨aQ[k]'hk,⟨#[]⟩,true⟩)∨(dZ o cs (aQ[k]'hk)=false∧z=5∧cs'=cs)):lT aQ cs'∧0<cs'.length:=by
 rcases h' with⟨_,_,rfl⟩|⟨_,_,rfl⟩
 ·have:=h.1.with (by omega) ⟨aQ[k]'hk,⟨#[]⟩,true⟩ (oV k hk _ (by decide) _) (cL k hk)
  exact⟨this.1,this.2.1⟩
 ·exact⟨h.1,h.2.1⟩
def kB (c n:Int):Int:=if c<0 then (-(c+1)) % n else c % n
theorem dI (c n:Int) (hn:0<n):0≤kB c n∧kB c n<n:=by
 unfold kB
 split
 ·exact⟨Int.emod_nonneg _ (by omega),Int.emod_lt_of_pos _ hn⟩
 ·exact⟨Int.emod_nonneg _ (by omega),Int.emod_lt_of_pos _ hn⟩
theorem mL (c n:Int) (w:World) (h0 : -9223372036854775808≤c) (h1:c≤9223372036854775807) (hn:0<n) :
  Calls Tryz.prog 22 #[.int .i64 c,.int .i64 n] w fun e w'=>e=.returned (.int .i64 (kB c n))∧w'=w:=by
 have hn0:n≠0:=by omega
 by_cases hc:c<0
 ·go_enter Tryz.func22,Tryz.ntmps22
  go_wp2
  go_ret
  have e : -((c+1).tmod n)=(-(c+1)) % n:=by rw [← Int.neg_tmod,Int.tmod_eq_emod_of_nonneg (by omega)]
  exact⟨by rw [e,kB,if_pos hc];rfl,rfl⟩
 ·go_enter Tryz.func22,Tryz.ntmps22
  go_wp2
  go_ret
  exact⟨by rw [kB,if_neg (by omega)];rfl,rfl⟩
def LSt (K:List ByteArray) (n:Nat) (w wq:World) (d b j:Nat) (o ao:Option (Nat×T)):Prop:=∃ D,Eo K n w wq D j o ao∧Idle D∧D.d=d∧D.β=b
def OSt (K:List ByteArray) (n:Nat) (w wq:World) (d b j:Nat) (o ao:Option (Nat×T)) (x:Int) (cs:List Ch):Prop:=∃ D,OpenSt K n w wq D j o ao x cs∧D.d=d∧D.β=b
theorem OSt.step (h:OSt K n w wq d b j o ao x cs) (hb:Below wq.heap.size wq w'):OSt K n w w' d b j o ao x cs:=by
 obtain⟨D,h,h1,h2⟩:=h
 exact⟨D,h.step hb,h1,h2⟩
theorem qDv (h:LSt K n w wq d b j o ao) (hj:j≤1000000) :
  Calls Tryz.prog 18 #[.pointer (some ⟨d,0,none⟩),.bool true] wq fun e w'=>∃ x,e=.returned (.tuple #[.int .i64 x,.int .i64 0])∧OSt K n w w' d b j o ao x []:=by
 obtain⟨D,h,hi,rfl,rfl⟩:=h
 refine(qCb h hi hj).mono ?_
 rintro e w' ⟨rfl,D1,h1,h2,h3⟩
 exact⟨_,rfl,D1,h1,h2,h3⟩
theorem yJ (h:OSt K n w wq d b j o ao x cs) (key val:ByteArray) (hr:cI cs) (hn:cs.length≤1000) (hk1:1≤key.size) (hk2:key.size≤24) (hv:val.size≤400) :
  Calls Tryz.prog 23 #[.pointer (some ⟨d,0,none⟩),.int .i64 x,.string key,.string val] wq fun e w'=>e=.returned (.int .i64 0)∧OSt K n w w' d b j o ao x (bM cs ⟨key,val,false⟩):=by
 obtain⟨D,h,rfl,rfl⟩:=h
 refine(qEt h key val hr hn hk1 hk2 hv).mono ?_
 rintro e w' ⟨rfl,D1,h1,h2,h3⟩
 exact⟨rfl,D1,h1,h2,h3⟩
theorem Ue (h:OSt K n w wq d b j o ao x cs) (key:ByteArray) (hr:cI cs) (hn:cs.length≤1000) (hk1:1≤key.size) (hk2:key.size≤24) :
  Calls Tryz.prog 25 #[.pointer (some ⟨d,0,none⟩),.int .i64 x,.string key] wq fun e w'=>∃ z cs',e=.returned (.int .i64 z)∧OSt K n w w' d b j o ao x cs'∧((dZ o cs key=true∧z=0∧cs'=bM cs ⟨key,⟨#[]⟩,true⟩)∨(dZ o cs key=false∧z=5∧cs'=cs)):=by
 obtain⟨D,h,rfl,rfl⟩:=h
 refine(qFf h key hr hn hk1 hk2).mono ?_
 rintro e w' ⟨z,D1,cs',rfl,h1,h2,h3,h4⟩
 exact⟨z,cs',rfl,⟨D1,h1,h2,h3⟩,h4⟩
theorem zM (hK:KOk K n)      (h:OSt K n w wq d b j o ao x cs) (hc:lT K cs) (hne:0<cs.length) (hj:j≤1000000) :
  Calls Tryz.prog 26 #[.pointer (some ⟨d,0,none⟩),.int .i64 x] wq fun e w'=>e=.returned (.int .i64 0)∧∃ o1,LSt K n w w' d b (j+1) o1 o∧(cQ o1).map En.kv=(bD (cQ o) cs).map En.kv:=by
 obtain⟨D,h,rfl,rfl⟩:=h
 refine(qFj hK h hc hne hj).mono ?_
 rintro e w' ⟨rfl,D1,o1,h1,h2,h3,h4,h5⟩
 exact⟨rfl,o1,⟨D1,h1,h2,h3,h4⟩,h5⟩
theorem yC (h:LSt K n w wq d b j o ao) :
  Calls Tryz.prog 17 #[.pointer (some ⟨d,0,none⟩)] wq fun e w'=>e=.returned (.int .i64 (j:Nat))∧LSt K n w w' d b j o ao:=by
 obtain⟨D,h,hi,rfl,rfl⟩:=h
 refine(qEo h).mono ?_
 rintro e w' ⟨rfl,h1⟩
 exact⟨rfl,D,h1,hi,rfl,rfl⟩
def FSt (K:List ByteArray) (n:Nat) (w wq:World) (b j:Nat) (o ao:Option (Nat×T)):Prop:=∃ sv lv fs,Sv w wq b sv lv fs∧dV K n fs j o ao∧fs.well
theorem Kh (h:LSt K n w wq d b j o ao) :
  Calls Tryz.prog 14 #[.pointer (some ⟨b,0,none⟩)] wq fun e w'=>∃ b',e=.returned (.pointer (some ⟨b',0,none⟩))∧FSt K n w w' b' j o ao:=by
 obtain⟨D,h,hi,rfl,rfl⟩:=h
 refine(Ui h.db.file h.below).mono ?_
 rintro e w' ⟨b',sv,lv,rfl,hf⟩
 exact⟨b',rfl,sv,lv,_,hf,h.store,h.well⟩
theorem Jp (h:FSt K n w wq b j o ao) (hn:40≤n) :
  Calls Tryz.prog 16 #[.pointer (some ⟨b,0,none⟩)] wq fun e w'=>∃ d,e=.returned (.tuple #[.pointer (some ⟨d,0,none⟩),.int .i64 0])∧LSt K n w w' d b j o ao:=by
 obtain⟨sv,lv,fs,hf,hS,hw⟩:=h
 refine(Jo hf hS hw hn).mono ?_
 rintro e w' ⟨D,rfl,h1,h2,h3⟩
 exact⟨_,rfl,D,h1,h2,rfl,h3⟩
theorem Jw (ra:Option Addr) (rc:Nat) (raw:List Int) (w:World) (hR:cT w w.heap.size ra (raw.map (.int .i64))) (hi64:∀ x∈raw,-9223372036854775808≤x∧x≤9223372036854775807) (hn:raw.length≤9223372036854775807) :
  Calls Tryz.prog 6 #[.slice ra raw.length rc] w fun e w'=>e=.returned (.bool true)∧Below w.heap.size w w':=by
 have hFr:=Nj (K:=aQ) (n:=120) (by omega) (by omega) w
 go_enter Tryz.func6,Tryz.ntmps6
 go_wp2_with (go_at_call 10;(with_reducible refine jC hFr ?_);rintro e X0 ⟨D0,rfl,hL0,hI0⟩)
 clear hFr
 go_loopw [3,4,5,6] (fun p f nn i wq=>∃ (j d b:Nat) (o ao:Option (Nat×T)),p=.pointer (some ⟨d,0,none⟩)∧f=.pointer (some ⟨b,0,none⟩)∧nn=.int .i64 (j:Nat)∧i=.int .i64 (j:Nat)∧j≤80∧Hid (LSt aQ 120 w wq d b j o ao)) (fun _ _ _ i _=>80-(intOf i).toNat)
 case atStart=>exact⟨0,D0.d,D0.β,none,none,rfl,rfl,rfl,rfl,by omega,D0,hL0,hI0,rfl,rfl⟩
 case round =>
  clear hL0 hI0
  rename World=>wr
  obtain⟨j,d,b,o,ao,rfl,rfl,rfl,rfl,hj,HL⟩:=hrel
  by_cases hlt:j<80
  ·have hlti:(j:Int)<80:=by omega
   have hBe:=qDv HL.out (by omega)
   have HK1:Hid (∀ (c:Nat) X,Calls Tryz.prog 24 #[.int .i64 ((c:Int) % 12)] X fun e w'=>e=.returned (.string (aQ[c % 12]'(Nat.mod_lt _ (by decide))))∧Below X.heap.size X w'):=fun c X=>by
    have:=sL (c % 12) (Nat.mod_lt _ (by decide)) X
    rw [show ((c % 12:Nat):Int)=(c:Int) % 12 by simp] at this
    exact this
   have HK2:Hid (∀ (c:Nat) X,Calls Tryz.prog 24 #[.int .i64 ((c:Int) / 12 % 12)] X fun e w'=>e=.returned (.string (aQ[c / 12 % 12]'(Nat.mod_lt _ (by decide))))∧Below X.heap.size X w'):=fun c X=>by
    have:=sL (c / 12 % 12) (Nat.mod_lt _ (by decide)) X
    rw [show ((c / 12 % 12:Nat):Int)=(c:Int) / 12 % 12 by simp] at this
    exact this
   by_cases hr:j<raw.length
   ·have hri:(j:Int)<(raw.length:Int):=by omega
    obtain⟨y,hy⟩:=nM (raw[j]'hr)
    have hyr:=hi64 y (hy▸List.getElem_mem hr)
    obtain⟨c,hc⟩:∃ c:Nat,kB y 1099511627776=c:=⟨(kB y 1099511627776).toNat,(Int.toNat_of_nonneg (dI y 1099511627776 (by omega)).1).symm⟩
    have hc1:(c:Int)≤9223372036854775807:=by have:=(dI y 1099511627776 (by omega)).2;omega
    have HPk:Hid (Calls Tryz.prog 22 #[.int .i64 y,.int .i64 1099511627776] wr fun e w'=>e=.returned (.int .i64 c)∧w'=wr):=hc▸mL y 1099511627776 wr hyr.1 hyr.2 (by omega)
    rcases hR with hR|⟨rb,off,rfl,hrb,hRc⟩
    ·have h0:(raw.map (Value.int .i64)).length=0:=by rw [hR];rfl
     rw [List.length_map] at h0
     omega
    have hcell:wr.cell? ⟨rb,off+j,none⟩=some (.int .i64 y):=by
     rw [(HL.out.choose_spec.1.below).cell (p:=⟨rb,off+j,none⟩) hrb]
     exact hRc j _ (by rw [List.getElem?_map,jQ hr,hy];rfl)
    clear hy hyr hc hRc hi64 hr
    by_cases h3:c % 3=0
    ·have h3i:((c:Int) % 3=0):=by omega
     by_cases h17:c % 17=0
     ·have h17i:((c:Int) % 17=0):=by omega
      clear h17 h3
      go_wp2_with (first
       | (go_at_call 22;(with_reducible refine jC HPk.out ?_);rintro e X0 ⟨rfl,rfl⟩)
       | (go_at_call 18;(with_reducible refine jC hBe ?_);rintro e X1 ⟨x,rfl,hO1⟩;have hKa:=HK1.out c X1)
       | (go_at_call 24;(with_reducible refine jC hKa ?_);rintro e X2 ⟨rfl,hX2⟩;have hPu:=yJ (hO1.step hX2) (aQ[c % 12]'(Nat.mod_lt _ (by decide))) iB .nil (by simp) (bV _ (cL _ _)).1 (bV _ (cL _ _)).2 (by decide);clear hKa hBe hO1 hX2)
       | (go_at_call 23;(with_reducible refine jC hPu ?_);rintro e X3 ⟨rfl,hO3⟩;have hKb:=HK2.out c X3;clear hPu)
       | (go_at_call 24;(with_reducible refine jC hKb ?_);rintro e X4 ⟨rfl,hX4⟩;have hone:=rD (c % 12) (Nat.mod_lt _ (by decide));have hDe:=Ue (hO3.step hX4) (aQ[c / 12 % 12]'(Nat.mod_lt _ (by decide))) hone.1.rise hone.1.len (bV _ (cL _ _)).1 (bV _ (cL _ _)).2;clear hKb hO3 hX4)
       | (go_at_call 25;(with_reducible refine jC hDe ?_);rintro e X5 ⟨z,cs',rfl,hO5,hor⟩;have htwo:=Jc (c / 12 % 12) (Nat.mod_lt _ (by decide)) hone hor;have hCm:=zM (kOk (n:=120) (by omega) (by omega)) hO5 htwo.1 htwo.2 (by omega);clear hDe hO5 hor htwo)
       | (go_at_call 26;(with_reducible refine jC hCm ?_);rintro e X6 ⟨rfl,o1,hL4,_⟩;have hCp:=Kh hL4;clear hCm hL4 hone)
       | (go_at_call 14;(with_reducible refine jC hCp ?_);rintro e X7 ⟨b1,rfl,hf7⟩;have hOp:=Jp hf7 (by omega);clear hCp hf7)
       | (go_at_call 16;(with_reducible refine jC hOp ?_);rintro e X8 ⟨d1,rfl,hL5⟩;have hVe:=yC hL5;clear hOp hL5)
       | (go_at_call 17;(with_reducible refine jC hVe ?_);rintro e X9 ⟨rfl,hL9⟩;clear hVe;have HL9:Hid _:=hL9;clear hL9))
      go_roundw
      case rel=>exact⟨j+1,d1,b1,o1,o,rfl,rfl,by simp,by simp,by omega,HL9⟩
      case measure=>simp only [intOf];omega
     ·have h17i:¬ ((c:Int) % 17=0):=by omega
      clear h17 h3
      go_wp2_with (first
       | (go_at_call 22;(with_reducible refine jC HPk.out ?_);rintro e X0 ⟨rfl,rfl⟩)
       | (go_at_call 18;(with_reducible refine jC hBe ?_);rintro e X1 ⟨x,rfl,hO1⟩;have hKa:=HK1.out c X1)
       | (go_at_call 24;(with_reducible refine jC hKa ?_);rintro e X2 ⟨rfl,hX2⟩;have hPu:=yJ (hO1.step hX2) (aQ[c % 12]'(Nat.mod_lt _ (by decide))) iB .nil (by simp) (bV _ (cL _ _)).1 (bV _ (cL _ _)).2 (by decide);clear hKa hBe hO1 hX2)
       | (go_at_call 23;(with_reducible refine jC hPu ?_);rintro e X3 ⟨rfl,hO3⟩;have hKb:=HK2.out c X3;clear hPu)
       | (go_at_call 24;(with_reducible refine jC hKb ?_);rintro e X4 ⟨rfl,hX4⟩;have hone:=rD (c % 12) (Nat.mod_lt _ (by decide));have hDe:=Ue (hO3.step hX4) (aQ[c / 12 % 12]'(Nat.mod_lt _ (by decide))) hone.1.rise hone.1.len (bV _ (cL _ _)).1 (bV _ (cL _ _)).2;clear hKb hO3 hX4)
       | (go_at_call 25;(with_reducible refine jC hDe ?_);rintro e X5 ⟨z,cs',rfl,hO5,hor⟩;have htwo:=Jc (c / 12 % 12) (Nat.mod_lt _ (by decide)) hone hor;have hCm:=zM (kOk (n:=120) (by omega) (by omega)) hO5 htwo.1 htwo.2 (by omega);clear hDe hO5 hor htwo)
       | (go_at_call 26;(with_reducible refine jC hCm ?_);rintro e X6 ⟨rfl,o1,hL4,_⟩;have hVe:=yC hL4;clear hCm hL4 hone)
       | (go_at_call 17;(with_reducible refine jC hVe ?_);rintro e X9 ⟨rfl,hL9⟩;clear hVe;have HL9:Hid _:=hL9;clear hL9))
      go_roundw
      case rel=>exact⟨j+1,d,b,o1,o,rfl,rfl,by simp,by simp,by omega,HL9⟩
      case measure=>simp only [intOf];omega
    ·have h3i:¬ ((c:Int) % 3=0):=by omega
     by_cases h17:c % 17=0
     ·have h17i:((c:Int) % 17=0):=by omega
      clear h17 h3
      go_wp2_with (first
       | (go_at_call 22;(with_reducible refine jC HPk.out ?_);rintro e X0 ⟨rfl,rfl⟩)
       | (go_at_call 18;(with_reducible refine jC hBe ?_);rintro e X1 ⟨x,rfl,hO1⟩;have hKa:=HK1.out c X1)
       | (go_at_call 24;(with_reducible refine jC hKa ?_);rintro e X2 ⟨rfl,hX2⟩;have hPu:=yJ (hO1.step hX2) (aQ[c % 12]'(Nat.mod_lt _ (by decide))) iB .nil (by simp) (bV _ (cL _ _)).1 (bV _ (cL _ _)).2 (by decide);clear hKa hBe hO1 hX2)
       | (go_at_call 23;(with_reducible refine jC hPu ?_);rintro e X3 ⟨rfl,hO3⟩;have hone:=rD (c % 12) (Nat.mod_lt _ (by decide));have hCm:=zM (kOk (n:=120) (by omega) (by omega)) hO3 hone.1 hone.2.1 (by omega);clear hPu hO3)
       | (go_at_call 26;(with_reducible refine jC hCm ?_);rintro e X6 ⟨rfl,o1,hL4,_⟩;have hCp:=Kh hL4;clear hCm hL4 hone)
       | (go_at_call 14;(with_reducible refine jC hCp ?_);rintro e X7 ⟨b1,rfl,hf7⟩;have hOp:=Jp hf7 (by omega);clear hCp hf7)
       | (go_at_call 16;(with_reducible refine jC hOp ?_);rintro e X8 ⟨d1,rfl,hL5⟩;have hVe:=yC hL5;clear hOp hL5)
       | (go_at_call 17;(with_reducible refine jC hVe ?_);rintro e X9 ⟨rfl,hL9⟩;clear hVe;have HL9:Hid _:=hL9;clear hL9))
      go_roundw
      case rel=>exact⟨j+1,d1,b1,o1,o,rfl,rfl,by simp,by simp,by omega,HL9⟩
      case measure=>simp only [intOf];omega
     ·have h17i:¬ ((c:Int) % 17=0):=by omega
      clear h17 h3
      go_wp2_with (first
       | (go_at_call 22;(with_reducible refine jC HPk.out ?_);rintro e X0 ⟨rfl,rfl⟩)
       | (go_at_call 18;(with_reducible refine jC hBe ?_);rintro e X1 ⟨x,rfl,hO1⟩;have hKa:=HK1.out c X1)
       | (go_at_call 24;(with_reducible refine jC hKa ?_);rintro e X2 ⟨rfl,hX2⟩;have hPu:=yJ (hO1.step hX2) (aQ[c % 12]'(Nat.mod_lt _ (by decide))) iB .nil (by simp) (bV _ (cL _ _)).1 (bV _ (cL _ _)).2 (by decide);clear hKa hBe hO1 hX2)
       | (go_at_call 23;(with_reducible refine jC hPu ?_);rintro e X3 ⟨rfl,hO3⟩;have hone:=rD (c % 12) (Nat.mod_lt _ (by decide));have hCm:=zM (kOk (n:=120) (by omega) (by omega)) hO3 hone.1 hone.2.1 (by omega);clear hPu hO3)
       | (go_at_call 26;(with_reducible refine jC hCm ?_);rintro e X6 ⟨rfl,o1,hL4,_⟩;have hVe:=yC hL4;clear hCm hL4 hone)
       | (go_at_call 17;(with_reducible refine jC hVe ?_);rintro e X9 ⟨rfl,hL9⟩;clear hVe;have HL9:Hid _:=hL9;clear hL9))
      go_roundw
      case rel=>exact⟨j+1,d,b,o1,o,rfl,rfl,by simp,by simp,by omega,HL9⟩
      case measure=>simp only [intOf];omega
   ·have hri:¬ (j:Int)<(raw.length:Int):=by omega
    clear hr
    by_cases h3:j % 3=0
    ·have h3i:((j:Int) % 3=0):=by omega
     by_cases h17:j % 17=0
     ·have h17i:((j:Int) % 17=0):=by omega
      clear h17 h3
      go_wp2_with (first
       | (go_at_call 18;(with_reducible refine jC hBe ?_);rintro e X1 ⟨x,rfl,hO1⟩;have hKa:=HK1.out j X1)
       | (go_at_call 24;(with_reducible refine jC hKa ?_);rintro e X2 ⟨rfl,hX2⟩;have hPu:=yJ (hO1.step hX2) (aQ[j % 12]'(Nat.mod_lt _ (by decide))) iB .nil (by simp) (bV _ (cL _ _)).1 (bV _ (cL _ _)).2 (by decide);clear hKa hBe hO1 hX2)
       | (go_at_call 23;(with_reducible refine jC hPu ?_);rintro e X3 ⟨rfl,hO3⟩;have hKb:=HK2.out j X3;clear hPu)
       | (go_at_call 24;(with_reducible refine jC hKb ?_);rintro e X4 ⟨rfl,hX4⟩;have hone:=rD (j % 12) (Nat.mod_lt _ (by decide));have hDe:=Ue (hO3.step hX4) (aQ[j / 12 % 12]'(Nat.mod_lt _ (by decide))) hone.1.rise hone.1.len (bV _ (cL _ _)).1 (bV _ (cL _ _)).2;clear hKb hO3 hX4)
       | (go_at_call 25;(with_reducible refine jC hDe ?_);rintro e X5 ⟨z,cs',rfl,hO5,hor⟩;have htwo:=Jc (j / 12 % 12) (Nat.mod_lt _ (by decide)) hone hor;have hCm:=zM (kOk (n:=120) (by omega) (by omega)) hO5 htwo.1 htwo.2 (by omega);clear hDe hO5 hor htwo)
       | (go_at_call 26;(with_reducible refine jC hCm ?_);rintro e X6 ⟨rfl,o1,hL4,_⟩;have hCp:=Kh hL4;clear hCm hL4 hone)
       | (go_at_call 14;(with_reducible refine jC hCp ?_);rintro e X7 ⟨b1,rfl,hf7⟩;have hOp:=Jp hf7 (by omega);clear hCp hf7)
       | (go_at_call 16;(with_reducible refine jC hOp ?_);rintro e X8 ⟨d1,rfl,hL5⟩;have hVe:=yC hL5;clear hOp hL5)
       | (go_at_call 17;(with_reducible refine jC hVe ?_);rintro e X9 ⟨rfl,hL9⟩;clear hVe;have HL9:Hid _:=hL9;clear hL9))
      go_roundw
      case rel=>exact⟨j+1,d1,b1,o1,o,rfl,rfl,by simp,by simp,by omega,HL9⟩
      case measure=>simp only [intOf];omega
     ·have h17i:¬ ((j:Int) % 17=0):=by omega
      clear h17 h3
      go_wp2_with (first
       | (go_at_call 18;(with_reducible refine jC hBe ?_);rintro e X1 ⟨x,rfl,hO1⟩;have hKa:=HK1.out j X1)
       | (go_at_call 24;(with_reducible refine jC hKa ?_);rintro e X2 ⟨rfl,hX2⟩;have hPu:=yJ (hO1.step hX2) (aQ[j % 12]'(Nat.mod_lt _ (by decide))) iB .nil (by simp) (bV _ (cL _ _)).1 (bV _ (cL _ _)).2 (by decide);clear hKa hBe hO1 hX2)
       | (go_at_call 23;(with_reducible refine jC hPu ?_);rintro e X3 ⟨rfl,hO3⟩;have hKb:=HK2.out j X3;clear hPu)
       | (go_at_call 24;(with_reducible refine jC hKb ?_);rintro e X4 ⟨rfl,hX4⟩;have hone:=rD (j % 12) (Nat.mod_lt _ (by decide));have hDe:=Ue (hO3.step hX4) (aQ[j / 12 % 12]'(Nat.mod_lt _ (by decide))) hone.1.rise hone.1.len (bV _ (cL _ _)).1 (bV _ (cL _ _)).2;clear hKb hO3 hX4)
       | (go_at_call 25;(with_reducible refine jC hDe ?_);rintro e X5 ⟨z,cs',rfl,hO5,hor⟩;have htwo:=Jc (j / 12 % 12) (Nat.mod_lt _ (by decide)) hone hor;have hCm:=zM (kOk (n:=120) (by omega) (by omega)) hO5 htwo.1 htwo.2 (by omega);clear hDe hO5 hor htwo)
       | (go_at_call 26;(with_reducible refine jC hCm ?_);rintro e X6 ⟨rfl,o1,hL4,_⟩;have hVe:=yC hL4;clear hCm hL4 hone)
       | (go_at_call 17;(with_reducible refine jC hVe ?_);rintro e X9 ⟨rfl,hL9⟩;clear hVe;have HL9:Hid _:=hL9;clear hL9))
      go_roundw
      case rel=>exact⟨j+1,d,b,o1,o,rfl,rfl,by simp,by simp,by omega,HL9⟩
      case measure=>simp only [intOf];omega
    ·have h3i:¬ ((j:Int) % 3=0):=by omega
     by_cases h17:j % 17=0
     ·have h17i:((j:Int) % 17=0):=by omega
      clear h17 h3
      go_wp2_with (first
       | (go_at_call 18;(with_reducible refine jC hBe ?_);rintro e X1 ⟨x,rfl,hO1⟩;have hKa:=HK1.out j X1)
       | (go_at_call 24;(with_reducible refine jC hKa ?_);rintro e X2 ⟨rfl,hX2⟩;have hPu:=yJ (hO1.step hX2) (aQ[j % 12]'(Nat.mod_lt _ (by decide))) iB .nil (by simp) (bV _ (cL _ _)).1 (bV _ (cL _ _)).2 (by decide);clear hKa hBe hO1 hX2)
       | (go_at_call 23;(with_reducible refine jC hPu ?_);rintro e X3 ⟨rfl,hO3⟩;have hone:=rD (j % 12) (Nat.mod_lt _ (by decide));have hCm:=zM (kOk (n:=120) (by omega) (by omega)) hO3 hone.1 hone.2.1 (by omega);clear hPu hO3)
       | (go_at_call 26;(with_reducible refine jC hCm ?_);rintro e X6 ⟨rfl,o1,hL4,_⟩;have hCp:=Kh hL4;clear hCm hL4 hone)
       | (go_at_call 14;(with_reducible refine jC hCp ?_);rintro e X7 ⟨b1,rfl,hf7⟩;have hOp:=Jp hf7 (by omega);clear hCp hf7)
       | (go_at_call 16;(with_reducible refine jC hOp ?_);rintro e X8 ⟨d1,rfl,hL5⟩;have hVe:=yC hL5;clear hOp hL5)
       | (go_at_call 17;(with_reducible refine jC hVe ?_);rintro e X9 ⟨rfl,hL9⟩;clear hVe;have HL9:Hid _:=hL9;clear hL9))
      go_roundw
      case rel=>exact⟨j+1,d1,b1,o1,o,rfl,rfl,by simp,by simp,by omega,HL9⟩
      case measure=>simp only [intOf];omega
     ·have h17i:¬ ((j:Int) % 17=0):=by omega
      clear h17 h3
      go_wp2_with (first
       | (go_at_call 18;(with_reducible refine jC hBe ?_);rintro e X1 ⟨x,rfl,hO1⟩;have hKa:=HK1.out j X1)
       | (go_at_call 24;(with_reducible refine jC hKa ?_);rintro e X2 ⟨rfl,hX2⟩;have hPu:=yJ (hO1.step hX2) (aQ[j % 12]'(Nat.mod_lt _ (by decide))) iB .nil (by simp) (bV _ (cL _ _)).1 (bV _ (cL _ _)).2 (by decide);clear hKa hBe hO1 hX2)
       | (go_at_call 23;(with_reducible refine jC hPu ?_);rintro e X3 ⟨rfl,hO3⟩;have hone:=rD (j % 12) (Nat.mod_lt _ (by decide));have hCm:=zM (kOk (n:=120) (by omega) (by omega)) hO3 hone.1 hone.2.1 (by omega);clear hPu hO3)
       | (go_at_call 26;(with_reducible refine jC hCm ?_);rintro e X6 ⟨rfl,o1,hL4,_⟩;have hVe:=yC hL4;clear hCm hL4 hone)
       | (go_at_call 17;(with_reducible refine jC hVe ?_);rintro e X9 ⟨rfl,hL9⟩;clear hVe;have HL9:Hid _:=hL9;clear hL9))
      go_roundw
      case rel=>exact⟨j+1,d,b,o1,o,rfl,rfl,by simp,by simp,by omega,HL9⟩
      case measure=>simp only [intOf];omega
  ·have hlti:¬ (j:Int)<80:=by omega
   have hB:Below w.heap.size w _:=HL.out.choose_spec.1.below
   go_wp2
   go_ret
   exact⟨rfl,hB⟩
