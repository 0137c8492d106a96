/-
  Joined: Read5, Read6, Conv.
-/
import Derived.Test.YtfnhmpcpeahfkaaGreatU10
set_option linter.unusedSimpArgs false
set_option linter.unusedVariables false
set_option maxRecDepth 100000
set_option maxHeartbeats 8000000
namespace Go.Proofs.YtfnhmpcpeahfkaaGreat.Pages
open Go.RowKit
variable {B n β:Nat} {e:TypeId} {es:List Ent} {v:Value} {w:World} {xs:List Value}
theorem qRz (s:ByteArray) (w:World) (hs:s.size=256) (k:Nat) (hk:(s.data.toList.getD 0 0).toNat=k) (h1:k≠1) (h2:k≠2) (h3:k≠3) (h4:k≠4) :
  Calls Tryz.prog 139 #[.string s] w fun e w'=>e=.returned (.agg #[.int .i64 k,.int .i64 0,.int .i64 0,.int .i64 0,.slice none 0 0,.slice none 0 0,.slice none 0 0,.string ⟨#[]⟩])∧Below w.heap.size w w':=by
 obtain⟨c,v,hcv,hvs,hrd,hzz,hbb⟩:=nR s w hs
 obtain⟨bs,hbs⟩:∃ bs,bs=s.data.toList:=⟨_,rfl⟩
 rw [← hbs] at hrd hk
 have hN:=jC _ _ _ _ _ _ hrd
 rw [hk] at hN
 have e1:((k:Int)==1)=false:=by simp;omega
 have e2:((k:Int)==2)=false:=by simp;omega
 have e3:((k:Int)==3)=false:=by simp;omega
 have e4:((k:Int)==4)=false:=by simp;omega
 clear hs hk hbs h1 h2 h3 h4
 go_enter Tryz.func139,Tryz.ntmps139
 go_upto_region 4 with(go_at_call 150;refine hN.mono ?_;rintro e w1 ⟨rfl,hr1,ho1⟩)
 have hZ1:=eI (x:=jB k) (ho1.keep (by omega) hzz)
 have hE1:=aB w1 (jB k)
 generalize hw2:w1.alloc (jB k)=w2 at *
 have hγz:w.heap.size<w1.heap.size:=by have:=hr1.lt;omega
 obtain⟨f0,f1,f2,f3,f4,f5,f6,f7⟩:=bH hE1
 have hf3:=aJ hZ1
 obtain⟨z0,z1,z2,z3,z4,z5,z6,z7⟩:=bH hZ1
 have hU:=uA hZ1 (.int .i64 k) (.int .i64 0) (.int .i64 0) (.int .i64 0) (.slice none 0 0) (.slice none 0 0) (.slice none 0 0) (.string ⟨#[]⟩)
 obtain⟨y0,y1,y2,y3,y4,y5,y6,y7⟩:=bH hU
 have hO2:=ho1.alloc (jB k)
 rw [hw2] at hO2
 clear hw2
 have hB:=mV (mE hbb hO2 (by omega) (by rw [eP];omega)) (β:=w.heap.size) (Nat.le_refl _) (.int .i64 k) (.int .i64 0) (.int .i64 0) (.int .i64 0) (.slice none 0 0) (.slice none 0 0) (.slice none 0 0) (.string ⟨#[]⟩)
 go_wp2
 refine bodyPost_ret (v:=.agg #[.int .i64 k,.int .i64 0,.int .i64 0,.int .i64 0,.slice none 0 0,.slice none 0 0,.slice none 0 0,.string ⟨#[]⟩]) ?_ rfl ⟨rfl,hB⟩
 simp [results,Tryz.results139,go_sem,y0,y1,y2,y3,y4,y5,y6,y7]
theorem eG (h:w.ownsRow B e 1 v n xs) (hβ:β<B) (i:Nat) (u:Value):(w.setCell ⟨β,i,none⟩ u).ownsRow B e 1 v n xs :=
 qA h ((dQ.refl β w).setCell i u) hβ
theorem uG (h:w.ownsRow B e 1 v n xs) (hβ:β<B) (v0 v1 v2 v3 v4 v5 v6 v7:Value) :
  ((((((((w.setCell ⟨β,0,none⟩ v0).setCell ⟨β,1,none⟩ v1).setCell ⟨β,2,none⟩ v2).setCell ⟨β,3,none⟩ v3).setCell ⟨β,4,none⟩ v4).setCell ⟨β,5,none⟩ v5).setCell ⟨β,6,none⟩ v6).setCell ⟨β,7,none⟩ v7).ownsRow B e 1 v n xs :=
 eG (eG (eG (eG (eG (eG (eG (eG h hβ 0 v0) hβ 1 v1) hβ 2 v2) hβ 3 v3) hβ 4 v4) hβ 5 v5) hβ 6 v6) hβ 7 v7
theorem qEh (h:w.ownsRow B e 1 v n xs):∃ a c,v=.slice a n c:=by
 obtain⟨hl,⟨rfl,rfl⟩|⟨k,cap,row,hv,hk⟩⟩:=h
 ·exact⟨_,_,rfl⟩
 ·exact⟨_,_,hv⟩
theorem qIw (s:ByteArray) (w:World) (hs:s.size=256) (hk:(s.data.toList.getD 0 0).toNat=2) (p:Nat) (hp:p=aY s.data.toList 0 1) (m:Nat) (hm:m=(s.data.toList.getD p 0).toNat) (P:Nat) (hP:P=aY s.data.toList (aY s.data.toList p 1) (2 * (m+1))) :
  Calls Tryz.prog 139 #[.string s] w fun e w'=>∃ vk vi,e=.returned (.agg #[.int .i64 2,.int .i64 0,.int .i64 0,.int .i64 0,vk,vi,.slice none 0 0,.string ⟨#[]⟩]) ∧
   Keys w' w.heap.size vk (gV s.data.toList P m)∧Ints w' w.heap.size vi (iF s.data.toList (aY s.data.toList p 1) (m+1))∧Below w.heap.size w w':=by
 obtain⟨c,v,hcv,hvs,hrd,hzz,hbb⟩:=nR s w hs
 obtain⟨bs,hbs⟩:∃ bs,bs=s.data.toList:=⟨_,rfl⟩
 rw [← hbs] at hrd hk hm hp hP ⊢
 have hN:=jC _ _ _ _ _ _ hrd
 rw [hk,← hp] at hN
 have hM:=fun w2 (h2:Rd w2 (w.heap.size+1+1) (w.heap.size+1) c bs p)=>qLw _ _ _ _ _ _ h2
 rw [← hm,← hP] at hM
 obtain⟨ks,hks⟩:∃ ks,ks=gV bs P m:=⟨_,rfl⟩
 obtain⟨is,his⟩:∃ is,is=iF bs (aY bs p 1) (m+1):=⟨_,rfl⟩
 rw [← hks,← his] at hM
 rw [← hks,← his]
 clear hs hp hk hbs hm hP hks his
 go_enter Tryz.func139,Tryz.ntmps139
 go_upto_region 4 with(go_at_call 150;refine hN.mono ?_;rintro e w1 ⟨rfl,hr1,ho1⟩)
 have hZ1:=eI (x:=jB 2) (ho1.keep (by omega) hzz)
 have hE1:=aB w1 (jB 2)
 have hz1:=eP w1 (jB 2)
 have hγ:w1.heap.size≠w.heap.size+1+1:=Nat.ne_of_gt hr1.lt'
 have hγg:w1.heap.size≠w.heap.size+1:=Nat.ne_of_gt hr1.lt
 have hγz:w.heap.size<w1.heap.size:=by have:=hr1.lt;omega
 have hM1:=hM _ (hr1.alloc (jB 2))
 rw [hz1] at hM1
 clear hM
 go_upto_region 17 with(go_at_call 151;refine hM1.mono ?_;rintro e w2 ⟨vk,vi,rfl,hK2,hI2,hr2,ho2⟩;obtain⟨ka,kc,rfl⟩:=qEh hK2;obtain⟨ia,ic,rfl⟩:=qEh hI2;have hE2:=ho2.keep hγ hE1;have hZ2:=ho2.keep (by omega) hZ1;obtain⟨c0,c1,c2,c3,c4,c5,c6,c7⟩:=bH hE2;have hf1:=aJ hE2)
 have hE3:(w2.setCell ⟨w1.heap.size,4,none⟩ (.slice ka ks.length kc)).heap[w1.heap.size]?=some (.cells #[.int .i64 2,.int .i64 0,.int .i64 0,.int .i64 0,.slice ka ks.length kc,.slice none 0 0,.slice none 0 0,.string ⟨#[]⟩] 85):=aI hE2 4 (.slice ka ks.length kc)
 have hZ3:=iG hZ2 (Nat.ne_of_lt hγz) 4 (.slice ka ks.length kc)
 have hE5:((w2.setCell ⟨w1.heap.size,4,none⟩ (.slice ka ks.length kc)).setCell ⟨w1.heap.size,5,none⟩ (.slice ia is.length ic)).heap[w1.heap.size]?=some (.cells #[.int .i64 2,.int .i64 0,.int .i64 0,.int .i64 0,.slice ka ks.length kc,.slice ia is.length ic,.slice none 0 0,.string ⟨#[]⟩] 85):=aI hE3 5 (.slice ia is.length ic)
 have hZ5:=iG hZ3 (Nat.ne_of_lt hγz) 5 (.slice ia is.length ic)
 have hO2:=(((ho1.alloc (jB 2)).trans ho2).set (β:=w1.heap.size) ho1.size 4 (.slice ka ks.length kc)).set (β:=w1.heap.size) ho1.size 5 (.slice ia is.length ic)
 have hK5:Keys _ _ _ _:=eG (eG hK2 (Nat.lt_succ_self _) 4 (.slice ka ks.length kc)) (Nat.lt_succ_self _) 5 (.slice ia is.length ic)
 have hI5:Ints _ _ _ _:=eG (eG hI2 (Nat.lt_succ_self _) 4 (.slice ka ks.length kc)) (Nat.lt_succ_self _) 5 (.slice ia is.length ic)
 generalize hw5:(w2.setCell ⟨w1.heap.size,4,none⟩ (.slice ka ks.length kc)).setCell ⟨w1.heap.size,5,none⟩ (.slice ia is.length ic)=w5 at *
 clear hw5
 obtain⟨f0,f1,f2,f3,f4,f5,f6,f7⟩:=bH hE5
 have hf3:=aJ hZ5
 obtain⟨z0,z1,z2,z3,z4,z5,z6,z7⟩:=bH hZ5
 have hU:=uA hZ5 (.int .i64 2) (.int .i64 0) (.int .i64 0) (.int .i64 0) (.slice ka ks.length kc) (.slice ia is.length ic) (.slice none 0 0) (.string ⟨#[]⟩)
 obtain⟨y0,y1,y2,y3,y4,y5,y6,y7⟩:=bH hU
 have hB:=mV (mE hbb hO2 (by omega) (by rw [eP];omega)) (β:=w.heap.size) (Nat.le_refl _) (.int .i64 2) (.int .i64 0) (.int .i64 0) (.int .i64 0) (.slice ka ks.length kc) (.slice ia is.length ic) (.slice none 0 0) (.string ⟨#[]⟩)
 have hK6:=qB (uG hK5 (Nat.lt_succ_of_lt hγz) (.int .i64 2) (.int .i64 0) (.int .i64 0) (.int .i64 0) (.slice ka ks.length kc) (.slice ia is.length ic) (.slice none 0 0) (.string ⟨#[]⟩)) (B':=w.heap.size) (by omega)
 have hI6:=qB (uG hI5 (Nat.lt_succ_of_lt hγz) (.int .i64 2) (.int .i64 0) (.int .i64 0) (.int .i64 0) (.slice ka ks.length kc) (.slice ia is.length ic) (.slice none 0 0) (.string ⟨#[]⟩)) (B':=w.heap.size) (by omega)
 go_wp2
 refine bodyPost_ret (v:=.agg #[.int .i64 2,.int .i64 0,.int .i64 0,.int .i64 0,.slice ka ks.length kc,.slice ia is.length ic,.slice none 0 0,.string ⟨#[]⟩]) ?_ rfl ⟨_,_,rfl,hK6,hI6,hB⟩
 simp [results,Tryz.results139,go_sem,y0,y1,y2,y3,y4,y5,y6,y7]
theorem qQq:(Tryz.prog.info? 108).map (fun i=>(i.zero,i.size,i.bytes))=some (some (.agg #[.string ⟨#[]⟩,.string ⟨#[]⟩,.int .i64 0,.int .i64 0]),4,48):=by kernel_rfl
def fG (w:World) (B:Nat) (v:Value) (es:List Ent):Prop:=w.ownsRow B 108 4 v es.length (es.flatMap Ent.cells)
theorem fG.nil (w:World) (B:Nat):fG w B (.slice none 0 0) []:=World.ownsRow_nil _ _ _ _
theorem fG.alloc (h:fG w B v es) (o:Obj):fG (w.alloc o) B v es:=World.ownsRow.alloc (w:=w) h o
theorem fG.only {w w':World}    {ρ:Nat} (h:fG w B v es) (ho:dQ ρ w w') (hρ:ρ<B):fG w' B v es :=
 World.ownsRow.kept (row:=some ρ) h ⟨ho.os,ho.tape,ho.output,ho.size,fun k hk hr=>ho.block k hk (fun e=>hr (by rw [e]))⟩ (by
  cases hv:v.ownBlock with
  | none=>exact .inl rfl
  | some k=>exact .inr (fun e=>by have:=(World.ownsRow.lt (w:=w) h k hv).1;simp at e;omega))
theorem fG.set (h:fG w B v es) (hβ:β<B) (i:Nat) (u:Value):fG (w.setCell ⟨β,i,none⟩ u) B v es :=
 h.only ((dQ.refl β w).setCell i u) hβ
theorem fG.mono {B B':Nat}   (h:fG w B v es) (hb:B'≤B):fG w B' v es:=by
 obtain⟨hl,hn|⟨k,cap,row,hv,hk,hr⟩⟩:=h
 ·exact⟨hl,.inl hn⟩
 ·exact⟨hl,.inr ⟨k,cap,row,hv,by omega,hr⟩⟩
theorem fG.slice (h:fG w B v es):∃ a c,v=.slice a es.length c:=by
 obtain⟨hl,⟨rfl,h0⟩|⟨k,cap,row,hv,hk⟩⟩:=h
 ·rw [h0];exact⟨_,_,rfl⟩
 ·exact⟨_,_,hv⟩
theorem qOn (w:World) (a0 a1 a2 a3:Value) (t:TypeId):∀ j u,[a0,a1,a2,a3][j]?=some u→(w.alloc (.cells #[a0,a1,a2,a3] t)).cell? ((⟨w.heap.size,0,none⟩:Addr).add j)=some u:=by
 intro j u hj
 have hlt:j<4:=by have:=(List.getElem?_eq_some_iff.1 hj).1;simpa using this
 have hn:=aB w (.cells #[a0,a1,a2,a3] t)
 have e:(⟨w.heap.size,0,none⟩:Addr).add j=⟨w.heap.size,j,none⟩:=by unfold Addr.add;split<;>simp_all
 rw [e]
 simp only [World.cell?,hn]
 have:j=0∨j=1∨j=2∨j=3:=by omega
 rcases this with rfl|rfl|rfl|rfl<;>simpa using hj
def kH (bs:List UInt8) (a:Nat):Nat→Nat
 | 0=>a
 | j+1=>yL bs (kH bs a j)
def eM (bs:List UInt8) (a n:Nat):List Ent:=(List.range n).map fun j=>pQ bs (kH bs a j)
theorem qOt (bs:List UInt8) (a n:Nat):eM bs a (n+1)=eM bs a n++[pQ bs (kH bs a n)]:=by simp [eM,List.range_succ]
theorem qLk (s:ByteArray) (u:World):∃ c v,(convert 9 115 (.string s)).run Tryz.prog u=.ok (.slice (some ⟨u.heap.size,0,none⟩) s.size c) v∧Below u.heap.size u v ∧
  (∀ (j:Nat) (hj:j<s.data.toList.length),v.cell? ⟨u.heap.size,j,none⟩=some (cW s.data.toList[j]))∧(∀ j,j<s.size→v.frozen? ⟨u.heap.size,j,none⟩=false)∧(∃ row fz,v.heap[u.heap.size]?=some (.cells row 5 fz)∧s.size≤row.size):=by
 refine⟨_,_,run_bytes_of_string u 9 115 5 s Tryz.underlying9 Tryz.underlying115 Tryz.underlying5,?_,?_,?_,?_⟩
 ·exact((Below.refl u.heap.size u).drew).alloc (by simp) _
 ·intro j hj
  have hj':j<s.data.size:=by simpa using hj
  have e:(u.drew.alloc (.cells (bytesRow s (grownCap u s.size 0 5)) 5 ((bytesRow s (grownCap u s.size 0 5)).size,(bytesRow s (grownCap u s.size 0 5)).size+1))).heap[u.heap.size]?=some (.cells (bytesRow s (grownCap u s.size 0 5)) 5 ((bytesRow s (grownCap u s.size 0 5)).size,(bytesRow s (grownCap u s.size 0 5)).size+1)):=aB u.drew _
  simp only [World.cell?,e]
  have hj2:j<s.size:=hj'
  simp [bytesRow,cW,Array.getElem?_append,hj',hj2]
 ·intro j hj
  have e:(u.drew.alloc (.cells (bytesRow s (grownCap u s.size 0 5)) 5 ((bytesRow s (grownCap u s.size 0 5)).size,(bytesRow s (grownCap u s.size 0 5)).size+1))).heap[u.heap.size]?=some (.cells (bytesRow s (grownCap u s.size 0 5)) 5 ((bytesRow s (grownCap u s.size 0 5)).size,(bytesRow s (grownCap u s.size 0 5)).size+1)):=aB u.drew _
  simp only [World.frozen?,e]
  have:s.size≤(bytesRow s (grownCap u s.size 0 5)).size:=by simp [bytesRow]
  simp
  omega
 ·refine⟨_,_,aB u.drew _,?_⟩
  simp [bytesRow]
theorem xU (u u':World) (g k c:Nat) (bs:List UInt8) (t:UInt8) (hb:∀ (j:Nat) (hj:j<bs.length),u.cell? ⟨g,j,none⟩=some (cW bs[j])) (row:Array Value) (fz:Nat×Nat) (hr:u.heap[g]?=some (.cells row 5 fz)) (hset:u'.heap[g]?=some (.cells (row.setIfInBounds k (cW t)) 5 fz)) (hk:k<bs.length) (n:Nat) (hn:n=bs.length) :
  (convert 115 9 (.slice (some ⟨g,0,none⟩) n c)).run Tryz.prog u'=.ok (.string ⟨(bs.set k t).toArray⟩) u':=by
 have hl:(bs.set k t).length=n:=by simp [hn]
 have:=run_convert_bytes_back (P:=Tryz.prog) u' 115 9 5 ⟨g,0,none⟩ c (bs.set k t) Tryz.underlying115 Tryz.underlying5 Tryz.underlying9 (fun j hj=>by
  have e:(⟨g,0,none⟩:Addr).add j=⟨g,j,none⟩:=by unfold Addr.add;split<;>simp_all
  have hj':j<bs.length:=by simpa using hj
  have hb':=hb j hj'
  simp only [World.cell?,hr] at hb'
  rw [e]
  simp only [World.cell?,hset]
  have hjr:j<row.size:=(Array.getElem?_eq_some_iff.1 hb').1
  by_cases hjk:k=j
  ·subst hjk
   simp [Array.getElem?_setIfInBounds,hjr,cW]
  ·rw [Array.getElem?_setIfInBounds,if_neg hjk,hb']
   simp [List.getElem_set,hjk,cW])
 rw [hl] at this
 exact this
theorem qYm {u:World} {g k:Nat} {row:Array Value}  {fz:Nat×Nat} (hr:u.heap[g]?=some (.cells row e fz)) (v:Value):(u.setCell ⟨g,k,none⟩ v).heap[g]?=some (.cells (row.setIfInBounds k v) e fz):=by
 simp only [World.setCell]
 rw [Array.getElem?_modify,if_pos rfl,hr]
 rfl
end Go.Proofs.YtfnhmpcpeahfkaaGreat.Pages
