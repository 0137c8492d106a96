/-
  Joined: Dec, Dec2, Dec3, Round, Keep, Whole.
-/
import Derived.Test.YtfnhmpcpeahfkaaGreatU13
set_option linter.unusedSimpArgs false
set_option linter.unusedVariables false
set_option maxRecDepth 100000
set_option maxHeartbeats 8000000
namespace Go.Proofs.YtfnhmpcpeahfkaaGreat.Pages
open Go.RowKit
variable {a:Nat} {bs l:List UInt8} {n:Int} {s:ByteArray} {α:Type}
theorem qU (s:ByteArray) (w:World) (hs:s.size≠256) :
  Calls Tryz.prog 116 #[.string s] w fun e w'=>e=.returned (.tuple #[.agg #[.int .i64 0,.int .i64 0,.int .i64 0,.int .i64 0,.slice none 0 0,.slice none 0 0,.slice none 0 0,.string ⟨#[]⟩],.int .i64 2])∧Below w.heap.size w w':=by
 have h1:((s.size:Int) != 256)=true:=by simp;omega
 have h2:((s.size:Int)==256)=false:=by simp;omega
 go_enter Tryz.func116,Tryz.ntmps116
 have hn:=aB w fS
 obtain⟨y0,y1,y2,y3,y4,y5,y6,y7⟩:=bH hn
 go_wp2
 refine bodyPost_ret (v:=.tuple #[.agg #[.int .i64 0,.int .i64 0,.int .i64 0,.int .i64 0,.slice none 0 0,.slice none 0 0,.slice none 0 0,.string ⟨#[]⟩],.int .i64 2]) ?_ rfl ⟨rfl,(Below.refl _ w).alloc (Nat.le_refl _) _⟩
 simp [results,Tryz.results116,go_sem,y0,y1,y2,y3,y4,y5,y6,y7]
def Pg.encS (g:Pg):ByteArray:=Pages.encS g.kind g.ver g.root g.next g.keys g.kids g.ents g.data
def Pg.encE (g:Pg):Int:=Pages.cH g.kind g.ver g.root g.next g.keys g.kids g.ents g.data
def Pg.small (g:Pg):Prop:=Small g.keys g.kids g.ents g.data
theorem uP {a b:ByteArray} (h:a≠b):(a.toList==b.toList)=false:=by
 apply Bool.eq_false_iff.2
 intro e
 have e2:a.toList=b.toList:=by simpa using e
 rw [ByteArray.toList_eq,ByteArray.toList_eq] at e2
 exact h (ByteArray.ext (Array.toList_inj.1 e2))
theorem qEt {a b:ByteArray} (h:a=b):(a.toList==b.toList)=true:=by rw [h];simp
abbrev lR (G:Pg) (ka ia ea:Option Addr) (kc ic ec:Nat):Obj:=.cells #[.int .i64 G.kind,.int .i64 G.ver,.int .i64 G.root,.int .i64 G.next,.slice ka G.keys.length kc,.slice ia G.kids.length ic,.slice ea G.ents.length ec,.string G.data] 85
theorem tI (s:ByteArray) (w:World) (hs:s.size=256) (hS:(dG s.data.toList).small) (hE:(dG s.data.toList).encE≠0) :
  Calls Tryz.prog 116 #[.string s] w fun e w'=>e=.returned (.tuple #[.agg #[.int .i64 0,.int .i64 0,.int .i64 0,.int .i64 0,.slice none 0 0,.slice none 0 0,.slice none 0 0,.string ⟨#[]⟩],.int .i64 2])∧Below w.heap.size w w':=by
 have h1:((s.size:Int) != 256)=false:=by simp;omega
 have hR:=kA s (w.alloc fS) hs
 have hn:=aB w fS
 have hz:=eP w fS
 have hb0:Below w.heap.size w (w.alloc fS):=(Below.refl _ w).alloc (Nat.le_refl _) _
 obtain⟨G,hG⟩:∃ G,G=dG s.data.toList:=⟨_,rfl⟩
 rw [← hG] at hR hS hE
 rw [hz] at hR
 clear hs hG
 go_enter Tryz.func116,Tryz.ntmps116
 go_upto_region 4 with(go_at_call 139;refine hR.mono ?_;rintro e w1 ⟨v,rfl,⟨vk,vi,ve,rfl,hK,hI,hEs⟩,hb1⟩;obtain⟨ka,kc,rfl,rk⟩:=kP hK;obtain⟨ia,ic,rfl,ri⟩:=kP hI;obtain⟨ea,ec,rfl,re⟩:=kP hEs)
 have hb2:Below w1.heap.size w1 (w1.alloc (lR G ka ia ea kc ic ec)):=(Below.refl _ w1).alloc (Nat.le_refl _) _
 have hz2:=eP w1 (lR G ka ia ea kc ic ec)
 have hP2:=aB w1 (lR G ka ia ea kc ic ec)
 have hN2:=eI (x:=lR G ka ia ea kc ic ec) ((hb1.block w.heap.size (Nat.lt_succ_self _)).trans hn)
 have hlt:w.heap.size<w1.heap.size:=(Array.getElem?_eq_some_iff.1 ((hb1.block w.heap.size (Nat.lt_succ_self _)).trans hn)).1
 generalize hw2:w1.alloc (lR G ka ia ea kc ic ec)=w2 at *
 clear hw2
 have hEn:=pH G.kind G.ver G.root G.next ka ia ea kc ic ec G.data G.keys G.kids G.ents w2 ((rk.below hb2).mono (by omega)) ((ri.below hb2).mono (by omega)) ((re.below hb2).mono (by omega)) hS
 obtain⟨c0,c1,c2,c3,c4,c5,c6,c7⟩:=bH hP2
 have e1:(Pages.cH G.kind G.ver G.root G.next G.keys G.kids G.ents G.data != 0)=true:=by simpa [Pg.encE] using hE
 generalize Pages.cH G.kind G.ver G.root G.next G.keys G.kids G.ents G.data=EE at *
 generalize Pages.encS G.kind G.ver G.root G.next G.keys G.kids G.ents G.data=SS at *
 have hBB:Below w.heap.size w w2:=(hb0.trans (hb1.mono (by omega))).trans (hb2.mono (by omega))
 go_wp2_with (go_at_call 119;refine hEn.mono ?_;rintro e w3 ⟨rfl,hb3⟩;have hN3:=(hb3.block w.heap.size (by omega)).trans hN2;obtain⟨z0,z1,z2,z3,z4,z5,z6,z7⟩:=bH hN3;have hf3:=aJ hN3)
 have hN3:=(hb3.block w.heap.size (by omega)).trans hN2
 have hU:=uA hN3 (.int .i64 0) (.int .i64 0) (.int .i64 0) (.int .i64 0) (.slice none 0 0) (.slice none 0 0) (.slice none 0 0) (.string ⟨#[]⟩)
 obtain⟨y0,y1,y2,y3,y4,y5,y6,y7⟩:=bH hU
 refine bodyPost_ret (v:=.tuple #[.agg #[.int .i64 0,.int .i64 0,.int .i64 0,.int .i64 0,.slice none 0 0,.slice none 0 0,.slice none 0 0,.string ⟨#[]⟩],.int .i64 2]) ?_ rfl ⟨rfl,mV (hBB.trans (hb3.mono (by omega))) (β:=w.heap.size) (Nat.le_refl _) (.int .i64 0) (.int .i64 0) (.int .i64 0) (.int .i64 0) (.slice none 0 0) (.slice none 0 0) (.slice none 0 0) (.string ⟨#[]⟩)⟩
 simp [results,Tryz.results116,go_sem,y0,y1,y2,y3,y4,y5,y6,y7]
theorem qHm (s:ByteArray) (w:World) (hs:s.size=256) (hS:(dG s.data.toList).small) (hE:(dG s.data.toList).encE=0) (hO:(dG s.data.toList).encS≠s) :
  Calls Tryz.prog 116 #[.string s] w fun e w'=>e=.returned (.tuple #[.agg #[.int .i64 0,.int .i64 0,.int .i64 0,.int .i64 0,.slice none 0 0,.slice none 0 0,.slice none 0 0,.string ⟨#[]⟩],.int .i64 2])∧Below w.heap.size w w':=by
 have h1:((s.size:Int) != 256)=false:=by simp;omega
 have hR:=kA s (w.alloc fS) hs
 have hn:=aB w fS
 have hz:=eP w fS
 have hb0:Below w.heap.size w (w.alloc fS):=(Below.refl _ w).alloc (Nat.le_refl _) _
 obtain⟨G,hG⟩:∃ G,G=dG s.data.toList:=⟨_,rfl⟩
 rw [← hG] at hR hS hE hO
 rw [hz] at hR
 clear hs hG
 go_enter Tryz.func116,Tryz.ntmps116
 go_upto_region 4 with(go_at_call 139;refine hR.mono ?_;rintro e w1 ⟨v,rfl,⟨vk,vi,ve,rfl,hK,hI,hEs⟩,hb1⟩;obtain⟨ka,kc,rfl,rk⟩:=kP hK;obtain⟨ia,ic,rfl,ri⟩:=kP hI;obtain⟨ea,ec,rfl,re⟩:=kP hEs)
 have hb2:Below w1.heap.size w1 (w1.alloc (lR G ka ia ea kc ic ec)):=(Below.refl _ w1).alloc (Nat.le_refl _) _
 have hz2:=eP w1 (lR G ka ia ea kc ic ec)
 have hP2:=aB w1 (lR G ka ia ea kc ic ec)
 have hN2:=eI (x:=lR G ka ia ea kc ic ec) ((hb1.block w.heap.size (Nat.lt_succ_self _)).trans hn)
 have hlt:w.heap.size<w1.heap.size:=(Array.getElem?_eq_some_iff.1 ((hb1.block w.heap.size (Nat.lt_succ_self _)).trans hn)).1
 generalize hw2:w1.alloc (lR G ka ia ea kc ic ec)=w2 at *
 clear hw2
 have hEn:=pH G.kind G.ver G.root G.next ka ia ea kc ic ec G.data G.keys G.kids G.ents w2 ((rk.below hb2).mono (by omega)) ((ri.below hb2).mono (by omega)) ((re.below hb2).mono (by omega)) hS
 obtain⟨c0,c1,c2,c3,c4,c5,c6,c7⟩:=bH hP2
 have e1:Pages.cH G.kind G.ver G.root G.next G.keys G.kids G.ents G.data=0:=hE
 have e3:((Pages.encS G.kind G.ver G.root G.next G.keys G.kids G.ents G.data).toList==s.toList)=false:=uP hO
 generalize Pages.cH G.kind G.ver G.root G.next G.keys G.kids G.ents G.data=EE at *
 generalize Pages.encS G.kind G.ver G.root G.next G.keys G.kids G.ents G.data=SS at *
 subst e1
 have hBB:Below w.heap.size w w2:=(hb0.trans (hb1.mono (by omega))).trans (hb2.mono (by omega))
 go_wp2_with (go_at_call 119;refine hEn.mono ?_;rintro e w3 ⟨rfl,hb3⟩;have hN3:=(hb3.block w.heap.size (by omega)).trans hN2;obtain⟨z0,z1,z2,z3,z4,z5,z6,z7⟩:=bH hN3;have hf3:=aJ hN3)
 have hN3:=(hb3.block w.heap.size (by omega)).trans hN2
 have hU:=uA hN3 (.int .i64 0) (.int .i64 0) (.int .i64 0) (.int .i64 0) (.slice none 0 0) (.slice none 0 0) (.slice none 0 0) (.string ⟨#[]⟩)
 obtain⟨y0,y1,y2,y3,y4,y5,y6,y7⟩:=bH hU
 refine bodyPost_ret (v:=.tuple #[.agg #[.int .i64 0,.int .i64 0,.int .i64 0,.int .i64 0,.slice none 0 0,.slice none 0 0,.slice none 0 0,.string ⟨#[]⟩],.int .i64 2]) ?_ rfl ⟨rfl,mV (hBB.trans (hb3.mono (by omega))) (β:=w.heap.size) (Nat.le_refl _) (.int .i64 0) (.int .i64 0) (.int .i64 0) (.int .i64 0) (.slice none 0 0) (.slice none 0 0) (.slice none 0 0) (.string ⟨#[]⟩)⟩
 simp [results,Tryz.results116,go_sem,y0,y1,y2,y3,y4,y5,y6,y7]
theorem qLh (s:ByteArray) (w:World) (hs:s.size=256) (hS:(dG s.data.toList).small) (hE:(dG s.data.toList).encE=0) (hO:(dG s.data.toList).encS=s) :
  Calls Tryz.prog 116 #[.string s] w fun e w'=>∃ v,e=.returned (.tuple #[v,.int .i64 0])∧qUg w' w.heap.size (dG s.data.toList) v∧Below w.heap.size w w':=by
 have h1:((s.size:Int) != 256)=false:=by simp;omega
 have hR:=kA s (w.alloc fS) hs
 have hn:=aB w fS
 have hz:=eP w fS
 have hb0:Below w.heap.size w (w.alloc fS):=(Below.refl _ w).alloc (Nat.le_refl _) _
 obtain⟨G,hG⟩:∃ G,G=dG s.data.toList:=⟨_,rfl⟩
 rw [← hG] at hR hS hE hO ⊢
 rw [hz] at hR
 clear hs hG
 go_enter Tryz.func116,Tryz.ntmps116
 go_upto_region 4 with(go_at_call 139;refine hR.mono ?_;rintro e w1 ⟨v,rfl,⟨vk,vi,ve,rfl,hK,hI,hEs⟩,hb1⟩;obtain⟨ka,kc,rfl,rk⟩:=kP hK;obtain⟨ia,ic,rfl,ri⟩:=kP hI;obtain⟨ea,ec,rfl,re⟩:=kP hEs)
 have hb2:Below w1.heap.size w1 (w1.alloc (lR G ka ia ea kc ic ec)):=(Below.refl _ w1).alloc (Nat.le_refl _) _
 have hz2:=eP w1 (lR G ka ia ea kc ic ec)
 have hP2:=aB w1 (lR G ka ia ea kc ic ec)
 have hN2:=eI (x:=lR G ka ia ea kc ic ec) ((hb1.block w.heap.size (Nat.lt_succ_self _)).trans hn)
 have hlt:w.heap.size<w1.heap.size:=(Array.getElem?_eq_some_iff.1 ((hb1.block w.heap.size (Nat.lt_succ_self _)).trans hn)).1
 generalize hw2:w1.alloc (lR G ka ia ea kc ic ec)=w2 at *
 clear hw2
 have hEn:=pH G.kind G.ver G.root G.next ka ia ea kc ic ec G.data G.keys G.kids G.ents w2 ((rk.below hb2).mono (by omega)) ((ri.below hb2).mono (by omega)) ((re.below hb2).mono (by omega)) hS
 obtain⟨c0,c1,c2,c3,c4,c5,c6,c7⟩:=bH hP2
 have e1:Pages.cH G.kind G.ver G.root G.next G.keys G.kids G.ents G.data=0:=hE
 have e3:((Pages.encS G.kind G.ver G.root G.next G.keys G.kids G.ents G.data).toList==s.toList)=true:=qEt hO
 generalize Pages.cH G.kind G.ver G.root G.next G.keys G.kids G.ents G.data=EE at *
 generalize Pages.encS G.kind G.ver G.root G.next G.keys G.kids G.ents G.data=SS at *
 subst e1
 have hBB:Below w.heap.size w w2:=(hb0.trans (hb1.mono (by omega))).trans (hb2.mono (by omega))
 go_wp2_with (go_at_call 119;refine hEn.mono ?_;rintro e w3 ⟨rfl,hb3⟩;have hN3:=(hb3.block w.heap.size (by omega)).trans hN2;obtain⟨z0,z1,z2,z3,z4,z5,z6,z7⟩:=bH hN3;have hf3:=aJ hN3;have hP3:=(hb3.block w1.heap.size (by omega)).trans hP2;obtain⟨d0,d1,d2,d3,d4,d5,d6,d7⟩:=bH hP3)
 have hN3:=(hb3.block w.heap.size (by omega)).trans hN2
 have hU:=uA hN3 (.int .i64 G.kind) (.int .i64 G.ver) (.int .i64 G.root) (.int .i64 G.next) (.slice ka G.keys.length kc) (.slice ia G.kids.length ic) (.slice ea G.ents.length ec) (.string G.data)
 obtain⟨y0,y1,y2,y3,y4,y5,y6,y7⟩:=bH hU
 have hlz:w.heap.size<w.heap.size+1:=Nat.lt_succ_self _
 have hBw:Below w1.heap.size w1 w3:=hb2.trans (hb3.mono (by omega))
 have hK3:Keys w3 _ _ _:=hK.below hBw
 have hI3:Ints w3 _ _ _:=qA hI (dQ.of_below (ρ:=0) hBw |> fun h=>h) (by omega)
 have hE3:fG w3 _ _ _:=hEs.only (dQ.of_below (ρ:=0) hBw) (by omega)
 refine bodyPost_ret (v:=.tuple #[.agg #[.int .i64 G.kind,.int .i64 G.ver,.int .i64 G.root,.int .i64 G.next,.slice ka G.keys.length kc,.slice ia G.kids.length ic,.slice ea G.ents.length ec,.string G.data],.int .i64 0]) ?_ rfl ⟨_,rfl,⟨_,_,_,rfl,qB (uG hK3 hlz (.int .i64 G.kind) (.int .i64 G.ver) (.int .i64 G.root) (.int .i64 G.next) (.slice ka G.keys.length kc) (.slice ia G.kids.length ic) (.slice ea G.ents.length ec) (.string G.data)) (by omega),qB (uG hI3 hlz (.int .i64 G.kind) (.int .i64 G.ver) (.int .i64 G.root) (.int .i64 G.next) (.slice ka G.keys.length kc) (.slice ia G.kids.length ic) (.slice ea G.ents.length ec) (.string G.data)) (by omega),((((((((hE3.set hlz 0 _).set hlz 1 _).set hlz 2 _).set hlz 3 _).set hlz 4 _).set hlz 5 _).set hlz 6 _).set hlz 7 _).mono (by omega)⟩,mV (hBB.trans (hb3.mono (by omega))) (β:=w.heap.size) (Nat.le_refl _) (.int .i64 G.kind) (.int .i64 G.ver) (.int .i64 G.root) (.int .i64 G.next) (.slice ka G.keys.length kc) (.slice ia G.kids.length ic) (.slice ea G.ents.length ec) (.string G.data)⟩
 simp [results,Tryz.results116,go_sem,y0,y1,y2,y3,y4,y5,y6,y7]
theorem mR (f:α→List UInt8) (c:Nat):∀ (l:List α),(∀ x∈l,(f x).length≤c)→(l.flatMap f).length≤l.length * c
  | [],_=>by simp
  | x :: l,h=>by
    have h1:=h x (by simp)
    have h2:=mR f c l (fun y hy=>h y (by simp [hy]))
    rw [List.flatMap_cons,List.length_append,List.length_cons,Nat.succ_mul]
    omega
theorem qFg (bs:List UInt8) (a n:Nat):(gV bs a n).length=n:=by simp [gV]
theorem qFe (bs:List UInt8) (a n:Nat):(iF bs a n).length=n:=by simp [iF]
theorem qFt (bs:List UInt8) (a n:Nat):(eM bs a n).length=n:=by simp [eM]
theorem tU (bs:List UInt8) (a:Nat):(lE bs a).length≤255:=by
  have:=(bs.getD a 0).toNat_lt
  unfold lE
  rw [List.length_take]
  omega
theorem kU (k:Nat) (n:Int):(beB k n).length=k:=aM k n
theorem uL (l:List UInt8):(⟨l.toArray⟩:ByteArray).size=l.length:=by show l.toArray.size=_;simp
theorem qAa {c:Nat} (h:s.size≤c):(dN s).length≤c+1:=by
  unfold dN
  rw [List.length_append,qV]
  simp
  omega
theorem qZj (bs:List UInt8) (a:Nat):(pQ bs a).key.size≤255∧(pQ bs a).val.size≤255:=by
  unfold pQ
  split
  · exact⟨by rw [uL];exact tU _ _,by rw [uL];exact tU _ _⟩
  · exact⟨by rw [uL];exact tU _ _,Nat.zero_le _⟩
theorem qXy {e:Ent} (h:e.key.size≤255∧e.val.size≤255):e.bytes.length≤600:=by
  have h1:=qAa h.1
  have h2:=qAa h.2
  unfold Ent.bytes kG
  rw [List.length_append]
  split
  · rw [List.length_append];simp;omega
  · rw [List.length_append,List.length_append,kU,kU];simp;omega
theorem pY (bs:List UInt8):(dG bs).small:=by
  have hp:=(bs.getD (aY bs 0 1) 0).toNat_lt
  have hnil:∀ d:ByteArray,d.size≤255→Small [] [] [] d:=fun d hd=>⟨by simp,by simp,by simp,by simp,by simp [eA,kU],by simp [kM,kU],by omega⟩
  unfold dG kL
  split
  · exact hnil _ (Nat.zero_le _)
  split
  · have l1:(gV bs (aY bs (aY bs (aY bs 0 1) 1) (2 * ((bs.getD (aY bs 0 1) 0).toNat+1))) (bs.getD (aY bs 0 1) 0).toNat).length≤255:=by rw [qFg];omega
    have l2:(iF bs (aY bs (aY bs 0 1) 1) ((bs.getD (aY bs 0 1) 0).toNat+1)).length≤256:=by rw [qFe];omega
    refine⟨Nat.le_trans l1 (by omega),Nat.le_trans l2 (by omega),by simp,by simp,?_,by simp [kM,kU],Nat.zero_le _⟩
    unfold eA
    have f1:=mR (beB 2) 2 (iF bs (aY bs (aY bs 0 1) 1) ((bs.getD (aY bs 0 1) 0).toNat+1)) (fun x _=>by rw [kU];omega)
    have f2:=mR dN 256 (gV bs (aY bs (aY bs (aY bs 0 1) 1) (2 * ((bs.getD (aY bs 0 1) 0).toNat+1))) (bs.getD (aY bs 0 1) 0).toNat) (fun x hx=>by
      simp only [gV,List.mem_map] at hx
      obtain⟨j,_,rfl⟩:=hx
      exact qAa (by rw [uL];exact tU _ _))
    rw [List.length_append,List.length_append,kU]
    dsimp only
    omega
  split
  · have l1:(eM bs (aY bs (aY bs 0 1) 1) (bs.getD (aY bs 0 1) 0).toNat).length≤255:=by rw [qFt];omega
    have hall:∀ e∈eM bs (aY bs (aY bs 0 1) 1) (bs.getD (aY bs 0 1) 0).toNat,e.key.size≤255∧e.val.size≤255:=fun x hx=>by
      simp only [eM,List.mem_map] at hx
      obtain⟨j,_,rfl⟩:=hx
      exact qZj _ _
    refine⟨by simp,by simp,Nat.le_trans l1 (by omega),fun e he=>⟨Nat.le_trans (hall e he).1 (by omega),Nat.le_trans (hall e he).2 (by omega)⟩,by simp [eA,kU],?_,Nat.zero_le _⟩
    unfold kM
    have f1:=mR Ent.bytes 600 _ (fun e he=>qXy (hall e he))
    rw [List.length_append,kU]
    dsimp only
    omega
  split
  · exact hnil _ (by rw [uL];exact tU _ _)
  · exact hnil _ (Nat.zero_le _)
theorem tJ (s:ByteArray) (w:World) :
    Calls Tryz.prog 116 #[.string s] w fun e w'=>Below w.heap.size w w' ∧
      ((s.size=256∧(dG s.data.toList).encE=0∧(dG s.data.toList).encS=s∧∃ v,e=.returned (.tuple #[v,.int .i64 0])∧qUg w' w.heap.size (dG s.data.toList) v) ∨
       (¬ (s.size=256∧(dG s.data.toList).encE=0∧(dG s.data.toList).encS=s)∧e=.returned (.tuple #[.agg #[.int .i64 0,.int .i64 0,.int .i64 0,.int .i64 0,.slice none 0 0,.slice none 0 0,.slice none 0 0,.string ⟨#[]⟩],.int .i64 2]))):=by
  by_cases hs:s.size=256
  · by_cases hE:(dG s.data.toList).encE=0
    · by_cases hO:(dG s.data.toList).encS=s
      · exact(qLh s w hs (pY _) hE hO).mono fun e w' ⟨v,he,hp,hb⟩=>⟨hb,.inl ⟨hs,hE,hO,v,he,hp⟩⟩
      · exact(qHm s w hs (pY _) hE hO).mono fun e w' ⟨he,hb⟩=>⟨hb,.inr ⟨fun h=>hO h.2.2,he⟩⟩
    · exact(tI s w hs (pY _) hE).mono fun e w' ⟨he,hb⟩=>⟨hb,.inr ⟨fun h=>hE h.2.1,he⟩⟩
  · exact(qU s w hs).mono fun e w' ⟨he,hb⟩=>⟨hb,.inr ⟨fun h=>hs h.1,he⟩⟩
def Has (bs:List UInt8) (a:Nat) (l:List UInt8):Prop:=∃ p r,bs=p++(l++r)∧p.length=a
theorem Has.le (h:Has bs a l):a+l.length≤bs.length:=by
 obtain⟨p,r,rfl,rfl⟩:=h;simp
theorem Has.left {l m:List UInt8} (h:Has bs a (l++m)):Has bs a l:=by
 obtain⟨p,r,rfl,rfl⟩:=h;exact⟨p,m++r,by simp,rfl⟩
theorem Has.right {l m:List UInt8} (h:Has bs a (l++m)):Has bs (a+l.length) m:=by
 obtain⟨p,r,rfl,rfl⟩:=h;exact⟨p++l,r,by simp,by simp⟩
theorem Has.pos (h:Has bs a l) {k:Nat} (hk:k≤l.length):aY bs a k=a+k:=by
 have:=h.le;unfold aY;omega
theorem Has.getD (h:Has bs a l) {k:Nat} (hk:k<l.length):bs.getD (a+k) 0=l[k]:=by
 obtain⟨p,r,rfl,rfl⟩:=h
 simp [List.getD,List.getElem?_append_right,List.getElem?_append_left hk,List.getElem?_eq_getElem hk]
theorem Has.head {b:UInt8}  (h:Has bs a (b :: l)):bs.getD a 0=b:=by
 have:=h.getD (k:=0) (by simp);simpa using this
theorem Has.tail {b:UInt8}  (h:Has bs a (b :: l)):Has bs (a+1) l :=
 Has.right (l:=[b]) h
theorem Has.slice (h:Has bs a l):(bs.drop a).take l.length=l:=by
 obtain⟨p,r,rfl,rfl⟩:=h;simp
theorem byte_of (m:Int) (h0:0≤m) (h1:m<256):((UInt8.ofNat m.toNat).toNat:Int)=m:=by
 rw [UInt8.toNat_ofNat_of_lt' (by simp [UInt8.size];omega)];omega
theorem qQz (n:Int) (m:Nat):((UInt8.ofNat ((n / 2 ^ m % 256).toNat)).toNat:Int)=n / 2 ^ m % 256:=byte_of _ (by omega) (by omega)
theorem qQe (h:Has bs a (beB 1 n)) (h0:0≤n) (h1:n<256):((bs.getD a 0).toNat:Int)=n:=by
 have e:=h.head
 rw [e,qQz]
 simp only [Nat.mul_zero,Int.pow_zero]
 omega
theorem uJ (h:Has bs a (beB 2 n)) (h0:0≤n) (h1:n<65536):(gX bs a 2:Int)=n:=by
 have e0:=h.head
 have e1:=h.tail.head
 simp only [gX,Nat.add_zero,e0,e1,Nat.zero_mul,Nat.zero_add]
 rw [Int.natCast_add,Int.natCast_mul,qQz,qQz]
 simp only [Nat.mul_zero,Int.pow_zero,Nat.mul_one]
 omega
theorem qSj (h:Has bs a (beB 8 n)) (h0:0≤n) (h1:n<9223372036854775808):(gX bs a 8:Int)=n:=by
 have e0:=h.head
 have e1:=h.tail.head
 have e2:=h.tail.tail.head
 have e3:=h.tail.tail.tail.head
 have e4:=h.tail.tail.tail.tail.head
 have e5:=h.tail.tail.tail.tail.tail.head
 have e6:=h.tail.tail.tail.tail.tail.tail.head
 have e7:=h.tail.tail.tail.tail.tail.tail.tail.head
 simp only [Nat.add_assoc] at e0 e1 e2 e3 e4 e5 e6 e7
 simp only [Nat.reduceAdd] at e0 e1 e2 e3 e4 e5 e6 e7
 simp only [gX,Nat.add_zero,e0,e1,e2,e3,e4,e5,e6,e7,Nat.zero_mul,Nat.zero_add]
 simp only [Int.natCast_add,Int.natCast_mul,qQz]
 simp only [Nat.mul_zero,Int.pow_zero,Nat.mul_one,Nat.reduceMul,Int.reducePow]
 omega
theorem qMb (s:ByteArray):(⟨s.data.toList.toArray⟩:ByteArray)=s:=by cases s;simp
theorem qGn (h:Has bs a (dN s)) (hs:s.size<256):(⟨(lE bs a).toArray⟩:ByteArray)=s∧(lE bs a).length=s.size∧gO bs a=a+(dN s).length:=by
 have e0:(bs.getD a 0).toNat=s.size:=by
  rw [Has.head (l:=s.data.toList) h,UInt8.toNat_ofNat_of_lt' (by simpa [UInt8.size] using hs)]
 have hp:aY bs a 1=a+1:=h.pos (by simp [dN])
 have h2:Has bs (a+1) s.data.toList:=Has.tail (b:=UInt8.ofNat s.size) h
 have hl:s.data.toList.length=s.size:=qV s
 have e1:lE bs a=s.data.toList:=by
  unfold lE
  rw [hp,e0,← hl]
  exact h2.slice
 refine⟨by rw [e1,qMb],by rw [e1,hl],?_⟩
 have:=h2.le
 unfold gO
 rw [hp,e0]
 simp only [dN,List.length_append,List.length_cons,List.length_nil]
 omega
theorem uZ (h:s.toList.isEmpty=true):s=⟨#[]⟩:=by
 rw [ByteArray.toList_eq] at h
 have h2:s.data.toList=[]:=List.isEmpty_iff.1 h
 rw [← qMb s,h2]
theorem vAp {e:Ent} (h:Has bs a e.bytes) (hk:e.key.size≤24) (hv:nI e.val e.size e.over=true):pQ bs a=e∧yL bs a=a+e.bytes.length:=by
 obtain⟨k,v,n,o⟩:=e
 simp only [Ent.bytes,kG] at h hk hv ⊢
 obtain⟨t1,t2,t3⟩:=qGn h.left (by omega)
 have hr:=h.right
 by_cases ho:(o==0)=true
 ·rw [if_pos ho] at hr ⊢
  have hb:bs.getD (a+(dN k).length) 0=0:=hr.head
  have hp:aY bs (a+(dN k).length) 1=a+(dN k).length+1:=hr.pos (by simp)
  obtain rfl:o=0:=by simpa using ho
  simp [nI,mM] at hv
  obtain⟨s1,s2,s3⟩:=qGn (Has.tail (b:=0) hr) (by omega)
  unfold pQ yL
  rw [t3,if_pos hb,if_pos hb,hp,t1,s1,s2,s3]
  refine⟨?_,by simp;omega⟩
  rw [hv.2]
 ·rw [if_neg ho] at hr ⊢
  have hb:¬ bs.getD (a+(dN k).length) 0=0:=by rw [Has.head (b:=1) (l:=beB 2 n++beB 2 o) (by simpa using hr)];decide
  have hp:aY bs (a+(dN k).length) 1=a+(dN k).length+1:=hr.pos (by simp)
  have ho':o≠0:=by simpa using ho
  simp only [nI,ho',aU,Bool.or_eq_true,Bool.and_eq_true,decide_eq_true_eq,beq_iff_eq,false_and,false_or] at hv
  have hr2:Has bs (a+(dN k).length+1) (beB 2 n++beB 2 o):=Has.tail (b:=1) (by simpa using hr)
  have n1:=uJ hr2.left (by omega) (by omega)
  have hp2:aY bs (a+(dN k).length+1) 2=a+(dN k).length+1+2:=hr2.pos (by simp [aM])
  have hr3:=hr2.right
  rw [aM] at hr3
  have n2:=uJ hr3 (by omega) (by omega)
  have hp3:aY bs (a+(dN k).length+1+2) 2=a+(dN k).length+1+2+2:=hr3.pos (by simp [aM])
  unfold pQ yL
  rw [t3,if_neg hb,if_neg hb,hp,hp2,hp3,t1,n1,n2]
  refine⟨?_,by simp [aM];omega⟩
  rw [uZ hv.1.1.2]
theorem qNz (bs:List UInt8) (a n:Nat):gV bs a (n+1)=(⟨(lE bs a).toArray⟩:ByteArray) :: gV bs (gO bs a) n:=by
 have hk:∀ j,jT bs a (j+1)=jT bs (gO bs a) j:=fun j=>by
  induction j with
  | zero=>rfl
  | succ j ih=>rw [jT,ih,← jT]
 simp only [gV,List.range_succ_eq_map,List.map_cons,List.map_map]
 refine congrArg (List.cons _) (List.map_congr_left fun j _=>?_)
 simp only [Function.comp,Nat.succ_eq_add_one,hk]
theorem qNw (bs:List UInt8) (a n:Nat):iF bs a (n+1)=(gX bs (aY bs a 0) 2:Int) :: iF bs (aY bs a 2) n:=by
 simp only [iF,List.range_succ_eq_map,List.map_cons,List.map_map]
 refine congrArg (List.cons _) (List.map_congr_left fun j _=>?_)
 simp only [Function.comp,Nat.succ_eq_add_one,qEd]
 rw [show 2 * (j+1)=2+2 * j by omega]
theorem qOu (bs:List UInt8) (a n:Nat):eM bs a (n+1)=pQ bs a :: eM bs (yL bs a) n:=by
 have hk:∀ j,kH bs a (j+1)=kH bs (yL bs a) j:=fun j=>by
  induction j with
  | zero=>rfl
  | succ j ih=>rw [kH,ih,← kH]
 simp only [eM,List.range_succ_eq_map,List.map_cons,List.map_map]
 refine congrArg (List.cons _) (List.map_congr_left fun j _=>?_)
 simp only [Function.comp,Nat.succ_eq_add_one,hk]
theorem qQn:∀ {keys:List ByteArray} {a:Nat},Has bs a (keys.flatMap dN)→(∀ k∈keys,k.size<256)→gV bs a keys.length=keys
 | [],_,_,_=>rfl
 | k :: l,a,h,hs=>by
  rw [List.flatMap_cons] at h
  obtain⟨t1,t2,t3⟩:=qGn h.left (hs k (by simp))
  rw [List.length_cons,qNz,t1,t3,qQn h.right (fun x hx=>hs x (by simp [hx]))]
theorem qQl:∀ {kids:List Int} {a:Nat},Has bs a (kids.flatMap (beB 2))→(∀ k∈kids,0≤k∧k<65536)→iF bs a kids.length=kids
 | [],_,_,_=>rfl
 | k :: l,a,h,hs=>by
  rw [List.flatMap_cons] at h
  have t1:=uJ h.left (hs k (by simp)).1 (hs k (by simp)).2
  have h0:aY bs a 0=a:=h.pos (Nat.zero_le _)
  have h2:aY bs a 2=a+2:=h.pos (by simp [aM])
  have hr:=h.right
  rw [aM] at hr
  rw [List.length_cons,qNw,h0,t1,h2,qQl hr (fun x hx=>hs x (by simp [hx]))]
theorem qQu:∀ {ents:List Ent} {a:Nat},Has bs a (ents.flatMap Ent.bytes)→(∀ e∈ents,e.key.size≤24∧nI e.val e.size e.over=true)→eM bs a ents.length=ents
 | [],_,_,_=>rfl
 | e :: l,a,h,hs=>by
  rw [List.flatMap_cons] at h
  obtain⟨t1,t2⟩:=vAp h.left (hs e (by simp)).1 (hs e (by simp)).2
  rw [List.length_cons,qOu,t1,t2,qQu h.right (fun x hx=>hs x (by simp [hx]))]
theorem qBw:∀ (kids:List Int),(kids.flatMap (beB 2)).length=2 * kids.length
 | []=>rfl
 | k :: l=>by rw [List.flatMap_cons,List.length_append,aM,qBw l,List.length_cons];omega
theorem qAg:∀ {keys:List ByteArray} {l:ByteArray},fL l keys=true→∀ k∈keys,k.size≤24
 | [],_,_=>by simp
 | k :: r,l,h=>by
  simp only [fL,gG,Bool.and_eq_true,decide_eq_true_eq] at h
  intro x hx
  rcases List.mem_cons.1 hx with rfl|hx
  ·exact h.1.2
  ·exact qAg h.2 x hx
theorem qJp:∀ {ents:List Ent} {l:ByteArray},fJ l ents=true→∀ e∈ents,e.key.size≤24∧nI e.val e.size e.over=true
 | [],_,_=>by simp
 | k :: r,l,h=>by
  simp only [fJ,gG,Bool.and_eq_true,decide_eq_true_eq] at h
  intro x hx
  rcases List.mem_cons.1 hx with rfl|hx
  ·exact⟨h.1.1.2,h.1.2⟩
  ·exact qJp h.2 x hx
theorem pB {l:List α} (h:((l.length:Int)==0)=true):l=[]:=List.eq_nil_of_length_eq_zero (by simpa using h)
theorem qHg (f:α→List UInt8):∀ (l:List α),(∀ x∈l,1≤(f x).length)→l.length≤(l.flatMap f).length
 | [],_=>by simp
 | x :: l,h=>by
  have h1:=h x (by simp)
  have h2:=qHg f l (fun y hy=>h y (by simp [hy]))
  rw [List.flatMap_cons,List.length_append,List.length_cons]
  omega
theorem qDv (s:ByteArray):1≤(dN s).length:=by simp [dN]
theorem qUb (e:Ent):1≤e.bytes.length:=by
 have:=qDv e.key
 simp only [Ent.bytes,kG,List.length_append];omega
theorem qGi (h0:0≤n) (h1:n<9223372036854775808):wrap64 n=n:=by unfold wrap64;omega
theorem qMu (g:Pg) (hver:g.ver<9223372036854775808) (hE:g.encE=0):dG g.encS.data.toList=g:=by
 obtain⟨kind,ver,root,next,keys,kids,ents,data⟩:=g
 simp only [Pg.encE,Pg.encS,Pages.cH,Pages.encS] at hE hver ⊢
 split at hE
 case isFalse=>simp at hE
 case isTrue hT =>
 rw [if_pos hT]
 simp only [Bool.and_eq_true,decide_eq_true_eq] at hT
 obtain⟨hR,hL⟩:=hT
 have hAll:Has (qO (fieldsB kind ver root next keys kids ents data)) 0 (fieldsB kind ver root next keys kids ents data) :=
  ⟨[],_,by rw [qO,yI,List.append_assoc];rfl,rfl⟩
 have hdata:((⟨(qO (fieldsB kind ver root next keys kids ents data)).toArray⟩:ByteArray)).data.toList=qO (fieldsB kind ver root next keys kids ents data):=by simp
 rw [hdata]
 clear hdata
 generalize qO (fieldsB kind ver root next keys kids ents data)=bs at hAll ⊢
 unfold dG
 unfold dO at hR
 by_cases h1:kind=1
 ·subst h1
  rw [if_pos rfl] at hR
  simp only [fB,jR,jD,qEq,Bool.and_eq_true,decide_eq_true_eq,Bool.or_eq_true,aU] at hR
  obtain⟨⟨⟨⟨k1,k2⟩,k3⟩,k4,k5⟩,k6,k7⟩:=hR
  rw [fieldsB,if_pos rfl] at hAll
  have hk:bs.getD 0 0=1:=hAll.left.left.head
  have hp1:aY bs 0 1=1:=hAll.pos (by simp [aM])
  have hv:=hAll.left.right
  rw [aM] at hv
  have hp2:aY bs 1 8=9:=hv.pos (by simp [aM])
  have hr:=hAll.right
  rw [List.length_append,aM,aM] at hr
  have hroot:0≤root∧root<65536:=by
   rcases k7 with k7|k7
   ·have:=beq_iff_eq.1 k7;omega
   ·omega
  rw [hk,show kL bs (1:UInt8).toNat=_ from if_pos rfl,hp1,hp2,uJ hr hroot.1 hroot.2]
  rw [qSj hv k6 hver,qGi k6 hver,pB k1,pB k2,pB k3,uZ k5,beq_iff_eq.1 k4]
 by_cases h2:kind=2
 ·subst h2
  rw [if_neg h1,if_pos rfl] at hR
  simp only [jE,jR,jD,gH,Bool.and_eq_true,decide_eq_true_eq] at hR
  obtain⟨⟨⟨⟨k1,k2⟩,k3⟩,k4,k5⟩,⟨⟨k6,k7⟩,k8⟩,k9⟩:=hR
  rw [fieldsB,if_neg h1,if_pos rfl] at hAll hL
  have hkn:keys.length<256:=by
   have:=qHg dN keys (fun x _=>qDv x)
   rw [eA] at hL
   simp only [List.length_append] at hL
   omega
  have hk:bs.getD 0 0=2:=hAll.left.head
  have hp1:aY bs 0 1=1:=hAll.pos (by simp [aM])
  have hB:=hAll.right
  rw [aM,eA] at hB
  have hn:=qQe hB.left.left (by omega) (by omega)
  have hn':(bs.getD 1 0).toNat=keys.length:=by have h:((bs.getD 1 0).toNat:Int)=keys.length:=hn;omega
  have hp2:aY bs 1 1=2:=hB.pos (by simp [aM])
  have hI:=hB.left.right
  rw [aM] at hI
  have hp3:aY bs 2 (2 * (keys.length+1))=2+2 * (keys.length+1):=hI.pos (by rw [qBw,k7];omega)
  have hK:=hB.right
  rw [List.length_append,aM,qBw,k7] at hK
  have e1:=qQn hK (fun k hk=>by have:=qAg k9 k hk;omega)
  have e2:=qQl hI (fun k hk=>by have:=List.all_eq_true.1 k8 k hk;simp [aU] at this;omega)
  rw [hk,show kL bs (2:UInt8).toNat=_ from (if_neg (by decide)).trans (if_pos rfl),hp1,hn',hp2,hp3,← k7,e2,k7]
  rw [show 2+2 * (keys.length+1)=0+1+(1+2 * (keys.length+1)) by omega,e1]
  rw [beq_iff_eq.1 k1,beq_iff_eq.1 k2,pB k3,beq_iff_eq.1 k4,uZ k5]
 by_cases h3:kind=3
 ·subst h3
  rw [if_neg h1,if_neg h2,if_pos rfl] at hR
  simp only [jE,fB,jD,Bool.and_eq_true,decide_eq_true_eq] at hR
  obtain⟨⟨⟨⟨k1,k2⟩,k3,k3b⟩,k4,k5⟩,k6,k7⟩:=hR
  rw [fieldsB,if_neg h1,if_neg h2,if_pos rfl] at hAll hL
  have hkn:ents.length<256:=by
   have:=qHg Ent.bytes ents (fun x _=>qUb x)
   rw [kM] at hL
   simp only [List.length_append] at hL
   omega
  have hk:bs.getD 0 0=3:=hAll.left.head
  have hp1:aY bs 0 1=1:=hAll.pos (by simp [aM])
  have hB:=hAll.right
  rw [aM,kM] at hB
  have hn:=qQe hB.left (by omega) (by omega)
  have hn':(bs.getD 1 0).toNat=ents.length:=by have h:((bs.getD 1 0).toNat:Int)=ents.length:=hn;omega
  have hp2:aY bs 1 1=2:=hB.pos (by simp [aM])
  have hI:=hB.right
  rw [aM] at hI
  have e1:=qQu hI (qJp k7)
  rw [hk,show kL bs (3:UInt8).toNat=_ from (if_neg (by decide)).trans ((if_neg (by decide)).trans (if_pos rfl)),hp1,hn',hp2]
  rw [show 2=0+1+1 from rfl,e1]
  rw [beq_iff_eq.1 k1,beq_iff_eq.1 k2,pB k3,pB k3b,beq_iff_eq.1 k4,uZ k5]
 by_cases h4:kind=4
 ·subst h4
  rw [if_neg h1,if_neg h2,if_neg h3,if_pos rfl] at hR
  simp only [jE,fB,jR,qAs,Bool.and_eq_true,decide_eq_true_eq,Bool.or_eq_true,aU] at hR
  obtain⟨⟨⟨⟨k1,k2⟩,k3,k3b⟩,k4⟩,k5,k6,k7⟩:=hR
  rw [fieldsB,if_neg h1,if_neg h2,if_neg h3] at hAll
  have hk:bs.getD 0 0=4:=hAll.left.left.head
  have hp1:aY bs 0 1=1:=hAll.pos (by simp [aM])
  have hv:=hAll.left.right
  rw [aM] at hv
  have hp2:aY bs 1 2=3:=hv.pos (by simp [aM])
  have hr:=hAll.right
  rw [List.length_append,aM,aM] at hr
  have hnext:0≤next∧next<65536:=by
   rcases k5 with k5|k5
   ·have:=beq_iff_eq.1 k5;omega
   ·omega
  obtain⟨t1,t2,t3⟩:=qGn hr (by omega)
  rw [hk,show kL bs (4:UInt8).toNat=_ from (if_neg (by decide)).trans ((if_neg (by decide)).trans ((if_neg (by decide)).trans (if_pos rfl))),hp1,hp2,uJ hv hnext.1 hnext.2]
  rw [show 3=0+(1+2) from rfl,t1,beq_iff_eq.1 k1,beq_iff_eq.1 k2,pB k3,pB k3b,pB k4]
 ·simp [h1,h2,h3,h4] at hR
theorem qVh (c n:Int) (w:World) (h0 : -9223372036854775808≤c) (h1:c≤9223372036854775807) (hn:0<n) :
  Calls Tryz.prog 22 #[.int .i64 c,.int .i64 n] w fun e w'=>∃ m:Int,0≤m∧m<n∧e=.returned (.int .i64 m)∧w'=w:=by
 have hn0:n≠0:=by omega
 by_cases hc:c<0
 ·go_enter Tryz.func22,Tryz.ntmps22
  go_wp2
  go_ret
  have e : -((c+1).tmod n)=(-(c+1)) % n:=by rw [← Int.neg_tmod,Int.tmod_eq_emod_of_nonneg (by omega)]
  exact⟨_,by rw [e];exact Int.emod_nonneg _ hn0,by rw [e];exact Int.emod_lt_of_pos _ hn,rfl,rfl⟩
 ·go_enter Tryz.func22,Tryz.ntmps22
  go_wp2
  go_ret
  exact⟨_,Int.emod_nonneg _ hn0,Int.emod_lt_of_pos _ hn,rfl,rfl⟩
def Whole (s:List UInt8):Prop:=∃ P:List UInt8,P.length=252∧s=P++beB 4 (Crc.crc P:Nat)
theorem qRe {a b:Nat} (ha:a<4294967296) (hb:b<4294967296) (h:beB 4 (a:Int)=beB 4 (b:Int)):a=b:=by
 simp only [beB,List.cons.injEq,and_true,Nat.mul_zero,Int.pow_zero,Nat.mul_one,Nat.reduceMul,Int.reducePow] at h
 obtain⟨h0,h1,h2,h3⟩:=h
 have f:∀ x y:Int,UInt8.ofNat ((x % 256).toNat)=UInt8.ofNat ((y % 256).toNat)→x % 256=y % 256:=fun x y e=>by
  have e1:=byte_of (x % 256) (by omega) (by omega)
  have e2:=byte_of (y % 256) (by omega) (by omega)
  rw [e] at e1
  omega
 have g0:=f _ _ h0
 have g1:=f _ _ h1
 have g2:=f _ _ h2
 have g3:=f _ _ h3
 omega
theorem vK {s:List UInt8} (h:Whole s):s.length=256:=by
 obtain⟨P,hP,rfl⟩:=h;rw [List.length_append,aM,hP]
theorem pR {s:List UInt8} (h:Whole s):s.drop 252=beB 4 (Crc.crc (s.take 252):Nat):=by
 obtain⟨P,hP,rfl⟩:=h
 rw [List.take_left' hP,List.drop_left' hP]
theorem qIg {s:List UInt8} (hs:Whole s) (k:Nat) (hk:k<s.length) (v:UInt8) (hv:v≠s[k]):¬ Whole (s.set k v):=by
 intro ht
 have h1:=pR hs
 have h2:=pR ht
 have hl:=vK hs
 by_cases hlt:k<252
 ·have e1:(s.set k v).drop 252=s.drop 252:=by rw [List.drop_set_of_lt hlt]
  rw [e1,h1] at h2
  have e2:=qRe (Crc.qHn _) (Crc.qHn _) h2
  have hkt:k<(s.take 252).length:=by rw [List.length_take];omega
  have e3:(s.set k v).take 252=(s.take 252).set k v:=List.take_set
  rw [e3,List.set_eq_take_append_cons_drop,if_pos hkt] at e2
  have e4:s.take 252=(s.take 252).take k++s[k] :: (s.take 252).drop (k+1):=by
   have e5:(s.take 252)[k]=s[k]:=List.getElem_take
   rw [← e5,← List.drop_eq_getElem_cons hkt,List.take_append_drop]
  rw [show Crc.crc (s.take 252)=Crc.crc ((s.take 252).take k++s[k] :: (s.take 252).drop (k+1)) from congrArg _ e4] at e2
  exact hv (Crc.qPa _ _ _ _ e2).symm
 ·have e1:(s.set k v).take 252=s.take 252:=List.take_set_of_le (by omega)
  rw [e1,← h1] at h2
  have e2:(s.set k v)[k]?=s[k]?:=by
   have:=congrArg (fun l=>l[k-252]?) h2
   simp only [List.getElem?_drop] at this
   rwa [show 252+(k-252)=k by omega] at this
  rw [List.getElem?_set_self hk,List.getElem?_eq_getElem hk] at e2
  exact hv (Option.some.inj e2)
theorem qOk {fs:List UInt8} (h:fs.length≤252):Whole (qO fs):=⟨yI fs,by simp [yI];omega,rfl⟩
theorem qFv (g:Pg) (hE:g.encE=0):Whole g.encS.data.toList:=by
 simp only [Pg.encE,Pg.encS,Pages.cH,Pages.encS] at hE ⊢
 split at hE
 case isFalse=>simp at hE
 case isTrue hT =>
 rw [if_pos hT]
 simp only [Bool.and_eq_true,decide_eq_true_eq] at hT
 exact qOk hT.2
end Go.Proofs.YtfnhmpcpeahfkaaGreat.Pages
