/-
  Joined: Read7.
-/
import Derived.Test.YtfnhmpcpeahfkaaGreatU11
import Derived.Deep.CutBlock
import Derived.Deep.RegionLaw
set_option linter.unusedSimpArgs false
set_option linter.unusedVariables false
set_option maxRecDepth 100000
set_option maxHeartbeats 8000000
namespace Go.Proofs.YtfnhmpcpeahfkaaGreat.Pages
open Go.RowKit
abbrev qZv (ve:Value):Obj:=.cells #[.int .i64 3,.int .i64 0,.int .i64 0,.int .i64 0,.slice none 0 0,.slice none 0 0,ve,.string ⟨#[]⟩] 85
theorem Rd.drew {w:World} {ρ g c:Nat} {bs:List UInt8} {a:Nat} (h:Rd w ρ g c bs a):Rd w.drew ρ g c bs a:=⟨h.box,h.bytes,h.ne,h.lt,h.le,h.len,h.cap⟩
theorem yD {ops:Array Oper} {o:Oper} {a:Act} {K:Act→World→Prop} {Q:Exit→Act→World→Prop} {F:Prop} (w:World) (hgd:o.guard=none) (sl x:Operand)
    (ho:o.op=.call { callee:=.builtin .append,args:=#[sl,x],argTypes:=#[83,83] }) (B:Nat) (es:List Ent) (v:Value) (hs:a.eval sl=v) (hv:fG w B v es) (hB:B≤w.heap.size)
    (k:Ent) (hx:a.eval x=.slice (some ⟨w.heap.size,0,none⟩) 1 1) (hl:es.length+1≤4294967296)
    (h:∀ v' w',fG w' B v' (es++[k])→Below B w w'→K (a.put o.dst v') w') :
    if Region.wanted o (yielded ops a.tmps)=true then Oper.wp Tryz.prog o a (w.alloc (.cells #[.string k.key,.string k.val,.int .i64 k.size,.int .i64 k.over] 108)) K Q else F:=by
  have hw:Region.wanted o (yielded ops a.tmps)=true:=by simp [Region.wanted,hgd]
  rw [if_pos hw]
  obtain⟨i0,hi,hz0,hz1,hz2⟩:=info_parts qQq
  refine wp_append_own _ sl x 83 ho B 108 i0 (.agg #[.string ⟨#[]⟩,.string ⟨#[]⟩,.int .i64 0,.int .i64 0]) 4 48 Tryz.underlying83 hi hz0 hz1 hz2 rfl (by decide) v es.length (es.flatMap Ent.cells) hs (hv.alloc _) ⟨w.heap.size,0,none⟩ 1 1 k.cells hx rfl (qOn _ _ _ _ _ _) (by intro u hu;simp [Ent.cells] at hu;rcases hu with rfl|rfl|rfl|rfl<;>rfl) (by unfold maxLen;omega) (by omega) (by simp;omega) ?_
  intro v1 w1 ho1 hg1 _
  refine h v1 w1 ?_ (((Below.refl B w).alloc hB _).grown hg1 (by simp;omega) (fun k' hk'=>(World.ownsRow.lt (w:=w) hv k' hk').1))
  unfold fG
  rw [List.flatMap_append,List.length_append]
  have e : [k].flatMap Ent.cells=k.cells:=by simp
  rw [e]
  exact ho1
theorem qSb (s:ByteArray) (w:World) (hs:s.size=256) (hk:(s.data.toList.getD 0 0).toNat=3) (p:Nat) (hp:p=aY s.data.toList 0 1) (m:Nat) (hm:m=(s.data.toList.getD p 0).toNat) (P:Nat) (hP:P=aY s.data.toList p 1) :
    Calls Tryz.prog 139 #[.string s] w fun e w'=>∃ ve,e=.returned (.agg #[.int .i64 3,.int .i64 0,.int .i64 0,.int .i64 0,.slice none 0 0,.slice none 0 0,ve,.string ⟨#[]⟩]) ∧
      fG w' w.heap.size ve (eM s.data.toList P m)∧Below w.heap.size w w':=by
  obtain⟨c,v,hcv,hvs,hrd,hzz,hbb⟩:=nR s w hs
  obtain⟨bs,hbs⟩:∃ bs,bs=s.data.toList:=⟨_,rfl⟩
  rw [← hbs] at hrd hk hm hp hP ⊢
  have hN:=jC _ _ _ _ _ _ hrd
  rw [hk,← hp] at hN
  have hM:=fun w2 (h2:Rd w2 (w.heap.size+1+1) (w.heap.size+1) c bs p)=>jC _ _ _ _ _ _ h2
  rw [← hm,← hP] at hM
  have hmt:m<256:=by rw [hm];exact(bs.getD p 0).toNat_lt
  clear hs hp hk hbs hm hP
  go_enter Tryz.func139,Tryz.ntmps139
  go_upto_region 4 with(go_at_call 150;refine hN.mono ?_;rintro e w1 ⟨rfl,hr1,ho1⟩)
  have hZ1:=ho1.keep (by omega) hzz
  have hE1:=aB w1 (jB 3)
  have hz1:=eP w1 (jB 3)
  have hγ:w1.heap.size≠w.heap.size+1+1:=Nat.ne_of_gt hr1.lt'
  have hγg:w1.heap.size≠w.heap.size+1:=Nat.ne_of_gt hr1.lt
  have hγz:w.heap.size<w1.heap.size:=by have:=hr1.lt;omega
  have hγ':w.heap.size+1+1<w1.heap.size:=hr1.lt'
  have hM1:=hM _ (hr1.alloc (jB 3))
  have ho0:=(dQ.refl (w.heap.size+1+1) w1).alloc (jB 3)
  clear hM hN hcv
  go_wp2_with (go_at_call 150;refine hM1.mono ?_;rintro e w2 ⟨rfl,hr2,ho2⟩;have hE2:=ho2.keep hγ hE1;have hO2:=ho0.trans ho2)
  go_loopw [29] (fun i wr=>∃ (j:Nat) (ve:Value),j≤m∧i=.int .i64 j∧wr.heap[w1.heap.size]?=some (qZv ve)∧fG wr (w1.heap.size+1) ve (eM bs P j)∧Rd wr (w.heap.size+1+1) (w.heap.size+1) c bs (kH bs P j)∧dQ (w.heap.size+1+1) w1 wr) (fun i _=>m-(intOf i).toNat)
  case atStart=>exact⟨0,.slice none 0 0,Nat.zero_le _,rfl,hE2,fG.nil _ _,hr2,hO2⟩
  case round =>
    clear hr2 hE2 hO2 ho2 hM1 ho0 hE1
    obtain⟨j,ve,hj,rfl,hE,hes,hr,ho⟩:=hrel
    obtain⟨ea,ec,rfl⟩:=hes.slice
    obtain⟨c0,c1,c2,c3,c4,c5,c6,c7⟩:=bH hE
    have hf1:=aJ hE
    by_cases hlt:j<m
    · have hX:=fun u (hu:Rd u (w.heap.size+1+1) (w.heap.size+1) c bs (kH bs P j))=>qOv _ _ _ _ _ _ hu
      have hen:=qOt bs P j
      have hlen:(eM bs P j).length=j:=by simp [eM]
      have hpos:yL bs (kH bs P j)=kH bs P (j+1):=rfl
      rw [hpos] at hX
      obtain⟨E,hEE⟩:∃ E,E=pQ bs (kH bs P j):=⟨_,rfl⟩
      rw [← hEE] at hX hen
      have HK:Hid (eM bs P (j+1)=eM bs P j++[E]):=hen
      clear hen hEE hpos
      have lk:(eM bs P j).length+1≤4294967296:=by omega
      have hsz:w1.heap.size+1≤wr.heap.size:=(Array.getElem?_eq_some_iff.1 hE).1
      clear hlen
      go_wp2_with (fail)
      go_region_law (first|(go_simp;go_at_call 152;refine(hX _ (by first|exact hr|exact hr.drew|exact hr.drew.drew|exact hr.drew.drew.drew)).mono ?_;rintro e w3 ⟨rfl,hr3,ho3⟩;have ho3':dQ (w.heap.size+1+1) wr w3:=⟨ho3.os,ho3.tape,ho3.output,ho3.size,ho3.block⟩;have hE3:w3.heap[w1.heap.size]?=some (qZv (.slice ea (eM bs P j).length ec)):=ho3'.keep hγ hE;obtain⟨d0,d1,d2,d3,d4,d5,d6,d7⟩:=bH hE3;have hf3:=aJ hE3;have hq6:=(bH (eI (x:=.cells #[.string E.key,.string E.val,.int .i64 E.size,.int .i64 E.over] 108) hE3)).2.2.2.2.2.2.1;have hes3:fG w3 (w1.heap.size+1) (.slice ea (eM bs P j).length ec) (eM bs P j):=hes.only ho3' (by omega);have hs3:w1.heap.size+1≤w3.heap.size:=Nat.le_trans hsz ho3'.size)|(refine yD w3 rfl (.tmp 32) (.tmp 34) rfl (w1.heap.size+1) (eM bs P j) (.slice ea (eM bs P j).length ec) (by simp [Act.eval,Act.put]) hes3 hs3 E (by simp [Act.eval,Act.put]) lk ?_;intro v4 w4 hes4 hb4;obtain⟨ea4,ec4,rfl⟩:=hes4.slice;have hE4:=(hb4.block w1.heap.size (Nat.lt_succ_self _)).trans hE3;obtain⟨g0,g1,g2,g3,g4,g5,g6,g7⟩:=bH hE4;have hf4:=aJ hE4))
      all_goals go_wp2
      all_goals go_roundw
      all_goals first
        | (exact(by simp [intOf];omega))
        | (refine⟨j+1,.slice ea4 (eM bs P j++[E]).length ec4,by omega,by go_num,?_,by rw [HK.out];exact hes4.set (Nat.lt_succ_self _) 6 _,(hr3.below hb4 (by omega) (by omega)).set hγ hγg 6 _,((ho.trans ho3').below hb4 (Nat.le_succ _)).set (Nat.le_refl _) 6 _⟩;have h5:=aI hE4 6 (.slice ea4 (eM bs P j++[E]).length ec4);simpa using h5)
        | (repeat apply Exists.intro
           exact⟨⟨j+1,.slice ea4 (eM bs P j++[E]).length ec4,by omega,by go_num,aI hE4 6 (.slice ea4 (eM bs P j++[E]).length ec4),by rw [HK.out];exact hes4.set (Nat.lt_succ_self _) 6 _,(hr3.below hb4 (by omega) (by omega)).set hγ hγg 6 _,((ho.trans ho3').below hb4 (Nat.le_succ _)).set (Nat.le_refl _) 6 _⟩,rfl⟩)
    · obtain rfl:j=m:=by omega
      have hZ:=ho.keep (by omega) hZ1
      obtain⟨z0,z1,z2,z3,z4,z5,z6,z7⟩:=bH hZ
      have hf3:=aJ hZ
      have hU:=uA hZ (.int .i64 3) (.int .i64 0) (.int .i64 0) (.int .i64 0) (.slice none 0 0) (.slice none 0 0) (.slice ea (eM bs P j).length ec) (.string ⟨#[]⟩)
      obtain⟨y0,y1,y2,y3,y4,y5,y6,y7⟩:=bH hU
      have hB:=mV (mE hbb (ho1.trans ho) (by omega) (by rw [eP];omega)) (β:=w.heap.size) (Nat.le_refl _) (.int .i64 3) (.int .i64 0) (.int .i64 0) (.int .i64 0) (.slice none 0 0) (.slice none 0 0) (.slice ea (eM bs P j).length ec) (.string ⟨#[]⟩)
      have hlz:w.heap.size<w1.heap.size+1:=by omega
      have hes6:=(((((((((hes.set hlz 0 (.int .i64 3)).set hlz 1 (.int .i64 0)).set hlz 2 (.int .i64 0)).set hlz 3 (.int .i64 0)).set hlz 4 (.slice none 0 0)).set hlz 5 (.slice none 0 0)).set hlz 6 (.slice ea (eM bs P j).length ec)).set hlz 7 (.string ⟨#[]⟩)).mono (B':=w.heap.size) (by omega))
      clear hrd hbb ho1
      go_wp2
      refine bodyPost_ret (v:=.agg #[.int .i64 3,.int .i64 0,.int .i64 0,.int .i64 0,.slice none 0 0,.slice none 0 0,.slice ea (eM bs P j).length ec,.string ⟨#[]⟩]) ?_ rfl ⟨_,rfl,hes6,hB⟩
      simp [results,Tryz.results139,go_sem,y0,y1,y2,y3,y4,y5,y6,y7]
end Go.Proofs.YtfnhmpcpeahfkaaGreat.Pages
