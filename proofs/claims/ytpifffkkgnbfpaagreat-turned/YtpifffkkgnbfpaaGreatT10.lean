import Derived.Test.YtpifffkkgnbfpaaGreatT9
import Derived.Deep.CutBlock
import Derived.Deep.RegionLaw
set_option linter.unusedSimpArgs false
set_option linter.unusedVariables false
set_option maxRecDepth 100000
set_option maxHeartbeats 8000000
namespace Go.Proofs.YtpifffkkgnbfpaaGreat.Pages
open Go.RowKit
variable {a:Nat} {bs l:List UInt8} {n:Int} {s:ByteArray} {α:Type}
abbrev qDx (ve:Value):Obj:=.cells #[.int .i64 3,.int .i64 0,.int .i64 0,.int .i64 0,.slice none 0 0,.slice none 0 0,ve,.string ⟨#[]⟩] 85
theorem Rd.drew {w:World} {ρ g c:Nat}   (h:Rd w ρ g c bs a):Rd w.drew ρ g c bs a:=⟨h.box,h.bytes,h.ne,h.lt,h.le,h.len,h.cap⟩
theorem zG {ops:Array Oper} {o:Oper} {a:Act} {K:Act→World→Prop} {Q:Exit→Act→World→Prop} {F:Prop} (w:World) (hgd:o.guard=none) (sl x:Operand)
    (ho:o.op=.call { callee:=.builtin .append,args:=#[sl,x],argTypes:=#[83,83] }) (B:Nat) (es:List Ent) (v:Value) (hs:a.eval sl=v) (hv:fB w B v es) (hB:B≤w.heap.size)
    (k:Ent) (hx:a.eval x=.slice (some ⟨w.heap.size,0,none⟩) 1 1) (hl:es.length+1≤4294967296)
    (h:∀ v' w',fB w' B v' (es++[k])→Below B w w'→K (a.put o.dst v') w') :
    if Region.wanted o (yielded ops a.tmps)=true then Oper.wp Tryz.prog o a (w.alloc (.cells #[.string k.key,.string k.val,.int .i64 k.size,.int .i64 k.over] 108)) K Q else F:=by
  have hw:Region.wanted o (yielded ops a.tmps)=true:=by simp [Region.wanted,hgd]
  rw [if_pos hw]
  obtain⟨i0,hi,hz0,hz1,hz2⟩:=info_parts Tp
  refine wp_append_own _ sl x 83 ho B 108 i0 (.agg #[.string ⟨#[]⟩,.string ⟨#[]⟩,.int .i64 0,.int .i64 0]) 4 48 Tryz.underlying83 hi hz0 hz1 hz2 rfl (by decide) v es.length (es.flatMap Ent.cells) hs (hv.alloc _) ⟨w.heap.size,0,none⟩ 1 1 k.cells hx rfl (Ri _ _ _ _ _ _) (by intro u hu;simp [Ent.cells] at hu;rcases hu with rfl|rfl|rfl|rfl<;>rfl) (by unfold maxLen;omega) (by omega) (by simp;omega) ?_
  intro v1 w1 ho1 hg1 _
  refine h v1 w1 ?_ (((Below.refl B w).alloc hB _).grown hg1 (by simp;omega) (fun k' hk'=>(World.ownsRow.lt (w:=w) hv k' hk').1))
  unfold fB
  rw [List.flatMap_append,List.length_append]
  have e : [k].flatMap Ent.cells=k.cells:=by simp
  rw [e]
  exact ho1
theorem Ve (s:ByteArray) (w:World) (hs:s.size=256) (hk:(s.data.toList.getD 0 0).toNat=3) (p:Nat) (hp:p=aU s.data.toList 0 1) (m:Nat) (hm:m=(s.data.toList.getD p 0).toNat) (P:Nat) (hP:P=aU s.data.toList p 1) :
    Calls Tryz.prog 139 #[.string s] w fun e w'=>∃ ve,e=.returned (.agg #[.int .i64 3,.int .i64 0,.int .i64 0,.int .i64 0,.slice none 0 0,.slice none 0 0,ve,.string ⟨#[]⟩]) ∧
      fB w' w.heap.size ve (eK s.data.toList P m)∧Below w.heap.size w w':=by
  obtain⟨c,v,hcv,hvs,hrd,hzz,hbb⟩:=oL s w hs
  obtain⟨bs,hbs⟩:∃ bs,bs=s.data.toList:=⟨_,rfl⟩
  rw [← hbs] at hrd hk hm hp hP ⊢
  have hN:=jG _ _ _ _ _ _ hrd
  rw [hk,← hp] at hN
  have hM:=fun w2 (h2:Rd w2 (w.heap.size+1+1) (w.heap.size+1) c bs p)=>jG _ _ _ _ _ _ h2
  rw [← hm,← hP] at hM
  have hmt:m<256:=by rw [hm];exact(bs.getD p 0).toNat_lt
  clear hs hp hk hbs hm hP
  go_enter Tryz.func139,Tryz.ntmps139
  go_upto_region 4 with(go_at_call 150;refine hN.mono ?_;rintro e w1 ⟨rfl,hr1,ho1⟩)
  have hZ1:=ho1.keep (by omega) hzz
  have hE1:=aA w1 (jD 3)
  have hz1:=eN w1 (jD 3)
  have hγ:w1.heap.size≠w.heap.size+1+1:=Nat.ne_of_gt hr1.lt'
  have hγg:w1.heap.size≠w.heap.size+1:=Nat.ne_of_gt hr1.lt
  have hγz:w.heap.size<w1.heap.size:=by have:=hr1.lt;omega
  have hγ':w.heap.size+1+1<w1.heap.size:=hr1.lt'
  have hM1:=hM _ (hr1.alloc (jD 3))
  have ho0:=(dN.refl (w.heap.size+1+1) w1).alloc (jD 3)
  clear hM hN hcv
  go_wp2_with (go_at_call 150;refine hM1.mono ?_;rintro e w2 ⟨rfl,hr2,ho2⟩;have hE2:=ho2.keep hγ hE1;have hO2:=ho0.trans ho2)
  go_loopw [29] (fun i wr=>∃ (j:Nat) (ve:Value),j≤m∧i=.int .i64 j∧wr.heap[w1.heap.size]?=some (qDx ve)∧fB wr (w1.heap.size+1) ve (eK bs P j)∧Rd wr (w.heap.size+1+1) (w.heap.size+1) c bs (kV bs P j)∧dN (w.heap.size+1+1) w1 wr) (fun i _=>m-(intOf i).toNat)
  case atStart=>exact⟨0,.slice none 0 0,Nat.zero_le _,rfl,hE2,fB.nil _ _,hr2,hO2⟩
  case round =>
    clear hr2 hE2 hO2 ho2 hM1 ho0 hE1
    obtain⟨j,ve,hj,rfl,hE,hes,hr,ho⟩:=hrel
    obtain⟨ea,ec,rfl⟩:=hes.slice
    obtain⟨c0,c1,c2,c3,c4,c5,c6,c7⟩:=bF hE
    have hf1:=aG hE
    by_cases hlt:j<m
    · have hX:=fun u (hu:Rd u (w.heap.size+1+1) (w.heap.size+1) c bs (kV bs P j))=>Rq _ _ _ _ _ _ hu
      have hen:=Ro bs P j
      have hlen:(eK bs P j).length=j:=by simp [eK]
      have hpos:zN bs (kV bs P j)=kV bs P (j+1):=rfl
      rw [hpos] at hX
      obtain⟨E,hEE⟩:∃ E,E=qH bs (kV bs P j):=⟨_,rfl⟩
      rw [← hEE] at hX hen
      have HK:Hid (eK bs P (j+1)=eK bs P j++[E]):=hen
      clear hen hEE hpos
      have lk:(eK bs P j).length+1≤4294967296:=by omega
      have hsz:w1.heap.size+1≤wr.heap.size:=(Array.getElem?_eq_some_iff.1 hE).1
      clear hlen
      go_wp2_with (fail)
      go_region_law (first|(go_simp;go_at_call 152;refine(hX _ (by first|exact hr|exact hr.drew|exact hr.drew.drew|exact hr.drew.drew.drew)).mono ?_;rintro e w3 ⟨rfl,hr3,ho3⟩;have ho3':dN (w.heap.size+1+1) wr w3:=⟨ho3.os,ho3.tape,ho3.output,ho3.size,ho3.block⟩;have hE3:w3.heap[w1.heap.size]?=some (qDx (.slice ea (eK bs P j).length ec)):=ho3'.keep hγ hE;obtain⟨d0,d1,d2,d3,d4,d5,d6,d7⟩:=bF hE3;have hf3:=aG hE3;have hq6:=(bF (eG (x:=.cells #[.string E.key,.string E.val,.int .i64 E.size,.int .i64 E.over] 108) hE3)).2.2.2.2.2.2.1;have hes3:fB w3 (w1.heap.size+1) (.slice ea (eK bs P j).length ec) (eK bs P j):=hes.only ho3' (by omega);have hs3:w1.heap.size+1≤w3.heap.size:=Nat.le_trans hsz ho3'.size)|(refine zG w3 rfl (.tmp 32) (.tmp 34) rfl (w1.heap.size+1) (eK bs P j) (.slice ea (eK bs P j).length ec) (by simp [Act.eval,Act.put]) hes3 hs3 E (by simp [Act.eval,Act.put]) lk ?_;intro v4 w4 hes4 hb4;obtain⟨ea4,ec4,rfl⟩:=hes4.slice;have hE4:=(hb4.block w1.heap.size (Nat.lt_succ_self _)).trans hE3;obtain⟨g0,g1,g2,g3,g4,g5,g6,g7⟩:=bF hE4;have hf4:=aG hE4))
      all_goals go_wp2
      all_goals go_roundw
      all_goals first
        | (exact(by simp [intOf];omega))
        | (refine⟨j+1,.slice ea4 (eK bs P j++[E]).length ec4,by omega,by go_num,?_,by rw [HK.out];exact hes4.set (Nat.lt_succ_self _) 6 _,(hr3.below hb4 (by omega) (by omega)).set hγ hγg 6 _,((ho.trans ho3').below hb4 (Nat.le_succ _)).set (Nat.le_refl _) 6 _⟩;have h5:=aF hE4 6 (.slice ea4 (eK bs P j++[E]).length ec4);simpa using h5)
        | (repeat apply Exists.intro
           exact⟨⟨j+1,.slice ea4 (eK bs P j++[E]).length ec4,by omega,by go_num,aF hE4 6 (.slice ea4 (eK bs P j++[E]).length ec4),by rw [HK.out];exact hes4.set (Nat.lt_succ_self _) 6 _,(hr3.below hb4 (by omega) (by omega)).set hγ hγg 6 _,((ho.trans ho3').below hb4 (Nat.le_succ _)).set (Nat.le_refl _) 6 _⟩,rfl⟩)
    · obtain rfl:j=m:=by omega
      have hZ:=ho.keep (by omega) hZ1
      obtain⟨z0,z1,z2,z3,z4,z5,z6,z7⟩:=bF hZ
      have hf3:=aG hZ
      have hU:=uQ hZ (.int .i64 3) (.int .i64 0) (.int .i64 0) (.int .i64 0) (.slice none 0 0) (.slice none 0 0) (.slice ea (eK bs P j).length ec) (.string ⟨#[]⟩)
      obtain⟨y0,y1,y2,y3,y4,y5,y6,y7⟩:=bF hU
      have hB:=nQ (mS hbb (ho1.trans ho) (by omega) (by rw [eN];omega)) (β:=w.heap.size) (Nat.le_refl _) (.int .i64 3) (.int .i64 0) (.int .i64 0) (.int .i64 0) (.slice none 0 0) (.slice none 0 0) (.slice ea (eK bs P j).length ec) (.string ⟨#[]⟩)
      have hlz:w.heap.size<w1.heap.size+1:=by omega
      have hes6:=(((((((((hes.set hlz 0 (.int .i64 3)).set hlz 1 (.int .i64 0)).set hlz 2 (.int .i64 0)).set hlz 3 (.int .i64 0)).set hlz 4 (.slice none 0 0)).set hlz 5 (.slice none 0 0)).set hlz 6 (.slice ea (eK bs P j).length ec)).set hlz 7 (.string ⟨#[]⟩)).mono (B':=w.heap.size) (by omega))
      clear hrd hbb ho1
      go_wp2
      refine bodyPost_ret (v:=.agg #[.int .i64 3,.int .i64 0,.int .i64 0,.int .i64 0,.slice none 0 0,.slice none 0 0,.slice ea (eK bs P j).length ec,.string ⟨#[]⟩]) ?_ rfl ⟨_,rfl,hes6,hB⟩
      simp [results,Tryz.results139,go_sem,y0,y1,y2,y3,y4,y5,y6,y7]
structure Pg where
 kind:Int
 ver:Int
 root:Int
 next:Int
 keys:List ByteArray
 kids:List Int
 ents:List Ent
 data:ByteArray
def kZ (bs:List UInt8) (k:Nat):Pg :=
 if k=1 then ⟨1,wrap64 (gV bs (aU bs 0 1) 8),(gV bs (aU bs (aU bs 0 1) 8) 2:Nat),0,[],[],[],⟨#[]⟩⟩
 else if k=2 then ⟨2,0,0,0,gT bs (aU bs (aU bs (aU bs 0 1) 1) (2 * ((bs.getD (aU bs 0 1) 0).toNat+1))) (bs.getD (aU bs 0 1) 0).toNat,iF bs (aU bs (aU bs 0 1) 1) ((bs.getD (aU bs 0 1) 0).toNat+1),[],⟨#[]⟩⟩
 else if k=3 then ⟨3,0,0,0,[],[],eK bs (aU bs (aU bs 0 1) 1) (bs.getD (aU bs 0 1) 0).toNat,⟨#[]⟩⟩
 else if k=4 then ⟨4,0,0,(gV bs (aU bs 0 1) 2:Nat),[],[],[],⟨(lU bs (aU bs (aU bs 0 1) 2)).toArray⟩⟩
 else ⟨(k:Nat),0,0,0,[],[],[],⟨#[]⟩⟩
def dE (bs:List UInt8):Pg:=kZ bs (bs.getD 0 0).toNat
def Yd (w:World) (B:Nat) (g:Pg) (v:Value):Prop :=
 ∃ vk vi ve,v=.agg #[.int .i64 g.kind,.int .i64 g.ver,.int .i64 g.root,.int .i64 g.next,vk,vi,ve,.string g.data]∧Keys w B vk g.keys∧Ints w B vi g.kids∧fB w B ve g.ents
theorem kP (s:ByteArray) (w:World) (hs:s.size=256) :
  Calls Tryz.prog 139 #[.string s] w fun e w'=>∃ v,e=.returned v∧Yd w' w.heap.size (dE s.data.toList) v∧Below w.heap.size w w':=by
 obtain⟨k,hk⟩:∃ k,(s.data.toList.getD 0 0).toNat=k:=⟨_,rfl⟩
 unfold dE
 rw [hk]
 by_cases h1:k=1
 ·subst h1
  rw [show kZ s.data.toList 1=_ from if_pos rfl]
  exact(Vd s w hs hk).mono fun x w' ⟨he,hb⟩=>⟨_,he,⟨_,_,_,rfl,Keys.nil _ _,Ints.nil _ _,fB.nil _ _⟩,hb⟩
 by_cases h2:k=2
 ·subst h2
  rw [show kZ s.data.toList 2=_ from (if_neg (by omega)).trans (if_pos rfl)]
  exact(Ky s w hs hk _ rfl _ rfl _ rfl).mono fun x w' ⟨vk,vi,he,hK,hI,hb⟩=>⟨_,he,⟨_,_,_,rfl,hK,hI,fB.nil _ _⟩,hb⟩
 by_cases h3:k=3
 ·subst h3
  rw [show kZ s.data.toList 3=_ from (if_neg (by omega)).trans ((if_neg (by omega)).trans (if_pos rfl))]
  exact(Ve s w hs hk _ rfl _ rfl _ rfl).mono fun x w' ⟨ve,he,hE,hb⟩=>⟨_,he,⟨_,_,_,rfl,Keys.nil _ _,Ints.nil _ _,hE⟩,hb⟩
 by_cases h4:k=4
 ·subst h4
  rw [show kZ s.data.toList 4=_ from (if_neg (by omega)).trans ((if_neg (by omega)).trans ((if_neg (by omega)).trans (if_pos rfl)))]
  exact(Va s w hs hk).mono fun x w' ⟨he,hb⟩=>⟨_,he,⟨_,_,_,rfl,Keys.nil _ _,Ints.nil _ _,fB.nil _ _⟩,hb⟩
 rw [show kZ s.data.toList k=_ from (if_neg h1).trans ((if_neg h2).trans ((if_neg h3).trans (if_neg h4)))]
 exact(Vb s w hs k hk h1 h2 h3 h4).mono fun x w' ⟨he,hb⟩=>⟨_,he,⟨_,_,_,rfl,Keys.nil _ _,Ints.nil _ _,fB.nil _ _⟩,hb⟩
theorem lF {w:World} {B:Nat} {e:TypeId} {z:Nat} {v:Value} {n:Nat} {xs:List Value} (h:w.ownsRow B e z v n xs):∃ a c,v=.slice a n c∧cW w w.heap.size a xs:=by
 have hc:=fun g hg=>World.ownsRow.cells (w:=w) h (g:=g) hg
 have hlt:=World.ownsRow.lt (w:=w) h
 obtain⟨hl,h2⟩:=id h
 rcases h2 with⟨rfl,rfl⟩|⟨g,cap,cur,rfl,_⟩
 ·exact⟨none,0,rfl,.inl (List.eq_nil_of_length_eq_zero (by simpa using hl))⟩
 ·refine⟨_,_,rfl,.inr ⟨g,0,rfl,(hlt g rfl).2,fun i u hu=>?_⟩⟩
  have:=hc g rfl i u hu
  have e:(⟨g,0,none⟩:Addr).add i=⟨g,0+i,none⟩:=by unfold Addr.add;split<;>simp_all
  rw [e] at this
  exact this
theorem rK (s:ByteArray) (w:World) (hs:s.size≠256) :
  Calls Tryz.prog 116 #[.string s] w fun e w'=>e=.returned (.tuple #[.agg #[.int .i64 0,.int .i64 0,.int .i64 0,.int .i64 0,.slice none 0 0,.slice none 0 0,.slice none 0 0,.string ⟨#[]⟩],.int .i64 2])∧Below w.heap.size w w':=by
 have h1:((s.size:Int) != 256)=true:=by simp;omega
 have h2:((s.size:Int)==256)=false:=by simp;omega
 go_enter Tryz.func116,Tryz.ntmps116
 have hn:=aA w fQ
 obtain⟨y0,y1,y2,y3,y4,y5,y6,y7⟩:=bF hn
 go_wp2
 refine bodyPost_ret (v:=.tuple #[.agg #[.int .i64 0,.int .i64 0,.int .i64 0,.int .i64 0,.slice none 0 0,.slice none 0 0,.slice none 0 0,.string ⟨#[]⟩],.int .i64 2]) ?_ rfl ⟨rfl,(Below.refl _ w).alloc (Nat.le_refl _) _⟩
 simp [results,Tryz.results116,go_sem,y0,y1,y2,y3,y4,y5,y6,y7]
def Pg.encS (g:Pg):ByteArray:=Pages.encS g.kind g.ver g.root g.next g.keys g.kids g.ents g.data
def Pg.encE (g:Pg):Int:=Pages.cH g.kind g.ver g.root g.next g.keys g.kids g.ents g.data
def Pg.small (g:Pg):Prop:=Small g.keys g.kids g.ents g.data
theorem vF {a b:ByteArray} (h:a≠b):(a.toList==b.toList)=false:=by
 apply Bool.eq_false_iff.2
 intro e
 have e2:a.toList=b.toList:=by simpa using e
 rw [ByteArray.toList_eq,ByteArray.toList_eq] at e2
 exact h (ByteArray.ext (Array.toList_inj.1 e2))
theorem Gk {a b:ByteArray} (h:a=b):(a.toList==b.toList)=true:=by rw [h];simp
abbrev mG (G:Pg) (ka ia ea:Option Addr) (kc ic ec:Nat):Obj:=.cells #[.int .i64 G.kind,.int .i64 G.ver,.int .i64 G.root,.int .i64 G.next,.slice ka G.keys.length kc,.slice ia G.kids.length ic,.slice ea G.ents.length ec,.string G.data] 85
theorem uB (s:ByteArray) (w:World) (hs:s.size=256) (hS:(dE s.data.toList).small) (hE:(dE s.data.toList).encE≠0) :
  Calls Tryz.prog 116 #[.string s] w fun e w'=>e=.returned (.tuple #[.agg #[.int .i64 0,.int .i64 0,.int .i64 0,.int .i64 0,.slice none 0 0,.slice none 0 0,.slice none 0 0,.string ⟨#[]⟩],.int .i64 2])∧Below w.heap.size w w':=by
 have h1:((s.size:Int) != 256)=false:=by simp;omega
 have hR:=kP s (w.alloc fQ) hs
 have hn:=aA w fQ
 have hz:=eN w fQ
 have hb0:Below w.heap.size w (w.alloc fQ):=(Below.refl _ w).alloc (Nat.le_refl _) _
 obtain⟨G,hG⟩:∃ G,G=dE s.data.toList:=⟨_,rfl⟩
 rw [← hG] at hR hS hE
 rw [hz] at hR
 clear hs hG
 go_enter Tryz.func116,Tryz.ntmps116
 go_upto_region 4 with(go_at_call 139;refine hR.mono ?_;rintro e w1 ⟨v,rfl,⟨vk,vi,ve,rfl,hK,hI,hEs⟩,hb1⟩;obtain⟨ka,kc,rfl,rk⟩:=lF hK;obtain⟨ia,ic,rfl,ri⟩:=lF hI;obtain⟨ea,ec,rfl,re⟩:=lF hEs)
 have hb2:Below w1.heap.size w1 (w1.alloc (mG G ka ia ea kc ic ec)):=(Below.refl _ w1).alloc (Nat.le_refl _) _
 have hz2:=eN w1 (mG G ka ia ea kc ic ec)
 have hP2:=aA w1 (mG G ka ia ea kc ic ec)
 have hN2:=eG (x:=mG G ka ia ea kc ic ec) ((hb1.block w.heap.size (Nat.lt_succ_self _)).trans hn)
 have hlt:w.heap.size<w1.heap.size:=(Array.getElem?_eq_some_iff.1 ((hb1.block w.heap.size (Nat.lt_succ_self _)).trans hn)).1
 generalize hw2:w1.alloc (mG G ka ia ea kc ic ec)=w2 at *
 clear hw2
 have hEn:=pZ G.kind G.ver G.root G.next ka ia ea kc ic ec G.data G.keys G.kids G.ents w2 ((rk.below hb2).mono (by omega)) ((ri.below hb2).mono (by omega)) ((re.below hb2).mono (by omega)) hS
 obtain⟨c0,c1,c2,c3,c4,c5,c6,c7⟩:=bF hP2
 have e1:(Pages.cH G.kind G.ver G.root G.next G.keys G.kids G.ents G.data != 0)=true:=by simpa [Pg.encE] using hE
 generalize Pages.cH G.kind G.ver G.root G.next G.keys G.kids G.ents G.data=EE at *
 generalize Pages.encS G.kind G.ver G.root G.next G.keys G.kids G.ents G.data=SS at *
 have hBB:Below w.heap.size w w2:=(hb0.trans (hb1.mono (by omega))).trans (hb2.mono (by omega))
 go_wp2_with (go_at_call 119;refine hEn.mono ?_;rintro e w3 ⟨rfl,hb3⟩;have hN3:=(hb3.block w.heap.size (by omega)).trans hN2;obtain⟨z0,z1,z2,z3,z4,z5,z6,z7⟩:=bF hN3;have hf3:=aG hN3)
 have hN3:=(hb3.block w.heap.size (by omega)).trans hN2
 have hU:=uQ hN3 (.int .i64 0) (.int .i64 0) (.int .i64 0) (.int .i64 0) (.slice none 0 0) (.slice none 0 0) (.slice none 0 0) (.string ⟨#[]⟩)
 obtain⟨y0,y1,y2,y3,y4,y5,y6,y7⟩:=bF hU
 refine bodyPost_ret (v:=.tuple #[.agg #[.int .i64 0,.int .i64 0,.int .i64 0,.int .i64 0,.slice none 0 0,.slice none 0 0,.slice none 0 0,.string ⟨#[]⟩],.int .i64 2]) ?_ rfl ⟨rfl,nQ (hBB.trans (hb3.mono (by omega))) (β:=w.heap.size) (Nat.le_refl _) (.int .i64 0) (.int .i64 0) (.int .i64 0) (.int .i64 0) (.slice none 0 0) (.slice none 0 0) (.slice none 0 0) (.string ⟨#[]⟩)⟩
 simp [results,Tryz.results116,go_sem,y0,y1,y2,y3,y4,y5,y6,y7]
theorem Jj (s:ByteArray) (w:World) (hs:s.size=256) (hS:(dE s.data.toList).small) (hE:(dE s.data.toList).encE=0) (hO:(dE s.data.toList).encS≠s) :
  Calls Tryz.prog 116 #[.string s] w fun e w'=>e=.returned (.tuple #[.agg #[.int .i64 0,.int .i64 0,.int .i64 0,.int .i64 0,.slice none 0 0,.slice none 0 0,.slice none 0 0,.string ⟨#[]⟩],.int .i64 2])∧Below w.heap.size w w':=by
 have h1:((s.size:Int) != 256)=false:=by simp;omega
 have hR:=kP s (w.alloc fQ) hs
 have hn:=aA w fQ
 have hz:=eN w fQ
 have hb0:Below w.heap.size w (w.alloc fQ):=(Below.refl _ w).alloc (Nat.le_refl _) _
 obtain⟨G,hG⟩:∃ G,G=dE s.data.toList:=⟨_,rfl⟩
 rw [← hG] at hR hS hE hO
 rw [hz] at hR
 clear hs hG
 go_enter Tryz.func116,Tryz.ntmps116
 go_upto_region 4 with(go_at_call 139;refine hR.mono ?_;rintro e w1 ⟨v,rfl,⟨vk,vi,ve,rfl,hK,hI,hEs⟩,hb1⟩;obtain⟨ka,kc,rfl,rk⟩:=lF hK;obtain⟨ia,ic,rfl,ri⟩:=lF hI;obtain⟨ea,ec,rfl,re⟩:=lF hEs)
 have hb2:Below w1.heap.size w1 (w1.alloc (mG G ka ia ea kc ic ec)):=(Below.refl _ w1).alloc (Nat.le_refl _) _
 have hz2:=eN w1 (mG G ka ia ea kc ic ec)
 have hP2:=aA w1 (mG G ka ia ea kc ic ec)
 have hN2:=eG (x:=mG G ka ia ea kc ic ec) ((hb1.block w.heap.size (Nat.lt_succ_self _)).trans hn)
 have hlt:w.heap.size<w1.heap.size:=(Array.getElem?_eq_some_iff.1 ((hb1.block w.heap.size (Nat.lt_succ_self _)).trans hn)).1
 generalize hw2:w1.alloc (mG G ka ia ea kc ic ec)=w2 at *
 clear hw2
 have hEn:=pZ G.kind G.ver G.root G.next ka ia ea kc ic ec G.data G.keys G.kids G.ents w2 ((rk.below hb2).mono (by omega)) ((ri.below hb2).mono (by omega)) ((re.below hb2).mono (by omega)) hS
 obtain⟨c0,c1,c2,c3,c4,c5,c6,c7⟩:=bF hP2
 have e1:Pages.cH G.kind G.ver G.root G.next G.keys G.kids G.ents G.data=0:=hE
 have e3:((Pages.encS G.kind G.ver G.root G.next G.keys G.kids G.ents G.data).toList==s.toList)=false:=vF hO
 generalize Pages.cH G.kind G.ver G.root G.next G.keys G.kids G.ents G.data=EE at *
 generalize Pages.encS G.kind G.ver G.root G.next G.keys G.kids G.ents G.data=SS at *
 subst e1
 have hBB:Below w.heap.size w w2:=(hb0.trans (hb1.mono (by omega))).trans (hb2.mono (by omega))
 go_wp2_with (go_at_call 119;refine hEn.mono ?_;rintro e w3 ⟨rfl,hb3⟩;have hN3:=(hb3.block w.heap.size (by omega)).trans hN2;obtain⟨z0,z1,z2,z3,z4,z5,z6,z7⟩:=bF hN3;have hf3:=aG hN3)
 have hN3:=(hb3.block w.heap.size (by omega)).trans hN2
 have hU:=uQ hN3 (.int .i64 0) (.int .i64 0) (.int .i64 0) (.int .i64 0) (.slice none 0 0) (.slice none 0 0) (.slice none 0 0) (.string ⟨#[]⟩)
 obtain⟨y0,y1,y2,y3,y4,y5,y6,y7⟩:=bF hU
 refine bodyPost_ret (v:=.tuple #[.agg #[.int .i64 0,.int .i64 0,.int .i64 0,.int .i64 0,.slice none 0 0,.slice none 0 0,.slice none 0 0,.string ⟨#[]⟩],.int .i64 2]) ?_ rfl ⟨rfl,nQ (hBB.trans (hb3.mono (by omega))) (β:=w.heap.size) (Nat.le_refl _) (.int .i64 0) (.int .i64 0) (.int .i64 0) (.int .i64 0) (.slice none 0 0) (.slice none 0 0) (.slice none 0 0) (.string ⟨#[]⟩)⟩
 simp [results,Tryz.results116,go_sem,y0,y1,y2,y3,y4,y5,y6,y7]
theorem Nm (s:ByteArray) (w:World) (hs:s.size=256) (hS:(dE s.data.toList).small) (hE:(dE s.data.toList).encE=0) (hO:(dE s.data.toList).encS=s) :
  Calls Tryz.prog 116 #[.string s] w fun e w'=>∃ v,e=.returned (.tuple #[v,.int .i64 0])∧Yd w' w.heap.size (dE s.data.toList) v∧Below w.heap.size w w':=by
 have h1:((s.size:Int) != 256)=false:=by simp;omega
 have hR:=kP s (w.alloc fQ) hs
 have hn:=aA w fQ
 have hz:=eN w fQ
 have hb0:Below w.heap.size w (w.alloc fQ):=(Below.refl _ w).alloc (Nat.le_refl _) _
 obtain⟨G,hG⟩:∃ G,G=dE s.data.toList:=⟨_,rfl⟩
 rw [← hG] at hR hS hE hO ⊢
 rw [hz] at hR
 clear hs hG
 go_enter Tryz.func116,Tryz.ntmps116
 go_upto_region 4 with(go_at_call 139;refine hR.mono ?_;rintro e w1 ⟨v,rfl,⟨vk,vi,ve,rfl,hK,hI,hEs⟩,hb1⟩;obtain⟨ka,kc,rfl,rk⟩:=lF hK;obtain⟨ia,ic,rfl,ri⟩:=lF hI;obtain⟨ea,ec,rfl,re⟩:=lF hEs)
 have hb2:Below w1.heap.size w1 (w1.alloc (mG G ka ia ea kc ic ec)):=(Below.refl _ w1).alloc (Nat.le_refl _) _
 have hz2:=eN w1 (mG G ka ia ea kc ic ec)
 have hP2:=aA w1 (mG G ka ia ea kc ic ec)
 have hN2:=eG (x:=mG G ka ia ea kc ic ec) ((hb1.block w.heap.size (Nat.lt_succ_self _)).trans hn)
 have hlt:w.heap.size<w1.heap.size:=(Array.getElem?_eq_some_iff.1 ((hb1.block w.heap.size (Nat.lt_succ_self _)).trans hn)).1
 generalize hw2:w1.alloc (mG G ka ia ea kc ic ec)=w2 at *
 clear hw2
 have hEn:=pZ G.kind G.ver G.root G.next ka ia ea kc ic ec G.data G.keys G.kids G.ents w2 ((rk.below hb2).mono (by omega)) ((ri.below hb2).mono (by omega)) ((re.below hb2).mono (by omega)) hS
 obtain⟨c0,c1,c2,c3,c4,c5,c6,c7⟩:=bF hP2
 have e1:Pages.cH G.kind G.ver G.root G.next G.keys G.kids G.ents G.data=0:=hE
 have e3:((Pages.encS G.kind G.ver G.root G.next G.keys G.kids G.ents G.data).toList==s.toList)=true:=Gk hO
 generalize Pages.cH G.kind G.ver G.root G.next G.keys G.kids G.ents G.data=EE at *
 generalize Pages.encS G.kind G.ver G.root G.next G.keys G.kids G.ents G.data=SS at *
 subst e1
 have hBB:Below w.heap.size w w2:=(hb0.trans (hb1.mono (by omega))).trans (hb2.mono (by omega))
 go_wp2_with (go_at_call 119;refine hEn.mono ?_;rintro e w3 ⟨rfl,hb3⟩;have hN3:=(hb3.block w.heap.size (by omega)).trans hN2;obtain⟨z0,z1,z2,z3,z4,z5,z6,z7⟩:=bF hN3;have hf3:=aG hN3;have hP3:=(hb3.block w1.heap.size (by omega)).trans hP2;obtain⟨d0,d1,d2,d3,d4,d5,d6,d7⟩:=bF hP3)
 have hN3:=(hb3.block w.heap.size (by omega)).trans hN2
 have hU:=uQ hN3 (.int .i64 G.kind) (.int .i64 G.ver) (.int .i64 G.root) (.int .i64 G.next) (.slice ka G.keys.length kc) (.slice ia G.kids.length ic) (.slice ea G.ents.length ec) (.string G.data)
 obtain⟨y0,y1,y2,y3,y4,y5,y6,y7⟩:=bF hU
 have hlz:w.heap.size<w.heap.size+1:=Nat.lt_succ_self _
 have hBw:Below w1.heap.size w1 w3:=hb2.trans (hb3.mono (by omega))
 have hK3:Keys w3 _ _ _:=hK.below hBw
 have hI3:Ints w3 _ _ _:=qS hI (dN.of_below (ρ:=0) hBw |> fun h=>h) (by omega)
 have hE3:fB w3 _ _ _:=hEs.only (dN.of_below (ρ:=0) hBw) (by omega)
 refine bodyPost_ret (v:=.tuple #[.agg #[.int .i64 G.kind,.int .i64 G.ver,.int .i64 G.root,.int .i64 G.next,.slice ka G.keys.length kc,.slice ia G.kids.length ic,.slice ea G.ents.length ec,.string G.data],.int .i64 0]) ?_ rfl ⟨_,rfl,⟨_,_,_,rfl,qT (uV hK3 hlz (.int .i64 G.kind) (.int .i64 G.ver) (.int .i64 G.root) (.int .i64 G.next) (.slice ka G.keys.length kc) (.slice ia G.kids.length ic) (.slice ea G.ents.length ec) (.string G.data)) (by omega),qT (uV hI3 hlz (.int .i64 G.kind) (.int .i64 G.ver) (.int .i64 G.root) (.int .i64 G.next) (.slice ka G.keys.length kc) (.slice ia G.kids.length ic) (.slice ea G.ents.length ec) (.string G.data)) (by omega),((((((((hE3.set hlz 0 _).set hlz 1 _).set hlz 2 _).set hlz 3 _).set hlz 4 _).set hlz 5 _).set hlz 6 _).set hlz 7 _).mono (by omega)⟩,nQ (hBB.trans (hb3.mono (by omega))) (β:=w.heap.size) (Nat.le_refl _) (.int .i64 G.kind) (.int .i64 G.ver) (.int .i64 G.root) (.int .i64 G.next) (.slice ka G.keys.length kc) (.slice ia G.kids.length ic) (.slice ea G.ents.length ec) (.string G.data)⟩
 simp [results,Tryz.results116,go_sem,y0,y1,y2,y3,y4,y5,y6,y7]
theorem nK (f:α→List UInt8) (c:Nat):∀ (l:List α),(∀ x∈l,(f x).length≤c)→(l.flatMap f).length≤l.length * c
  | [],_=>by simp
  | x :: l,h=>by
    have h1:=h x (by simp)
    have h2:=nK f c l (fun y hy=>h y (by simp [hy]))
    rw [List.flatMap_cons,List.length_append,List.length_cons,Nat.succ_mul]
    omega
theorem Gz (bs:List UInt8) (a n:Nat):(gT bs a n).length=n:=by simp [gT]
theorem Gx (bs:List UInt8) (a n:Nat):(iF bs a n).length=n:=by simp [iF]
theorem Hk (bs:List UInt8) (a n:Nat):(eK bs a n).length=n:=by simp [eK]
theorem uL (bs:List UInt8) (a:Nat):(lU bs a).length≤255:=by
  have:=(bs.getD a 0).toNat_lt
  unfold lU
  rw [List.length_take]
  omega
theorem lM (k:Nat) (n:Int):(beB k n).length=k:=aJ k n
theorem vA (l:List UInt8):(⟨l.toArray⟩:ByteArray).size=l.length:=by show l.toArray.size=_;simp
theorem Av {c:Nat} (h:s.size≤c):(dK s).length≤c+1:=by
  unfold dK
  rw [List.length_append,rL]
  simp
  omega
theorem qDl (bs:List UInt8) (a:Nat):(qH bs a).key.size≤255∧(qH bs a).val.size≤255:=by
  unfold qH
  split
  · exact⟨by rw [vA];exact uL _ _,by rw [vA];exact uL _ _⟩
  · exact⟨by rw [vA];exact uL _ _,Nat.zero_le _⟩
theorem qBx {e:Ent} (h:e.key.size≤255∧e.val.size≤255):e.bytes.length≤600:=by
  have h1:=Av h.1
  have h2:=Av h.2
  unfold Ent.bytes kU
  rw [List.length_append]
  split
  · rw [List.length_append];simp;omega
  · rw [List.length_append,List.length_append,lM,lM];simp;omega
theorem qP (bs:List UInt8):(dE bs).small:=by
  have hp:=(bs.getD (aU bs 0 1) 0).toNat_lt
  have hnil:∀ d:ByteArray,d.size≤255→Small [] [] [] d:=fun d hd=>⟨by simp,by simp,by simp,by simp,by simp [dZ,lM],by simp [lB,lM],by omega⟩
  unfold dE kZ
  split
  · exact hnil _ (Nat.zero_le _)
  split
  · have l1:(gT bs (aU bs (aU bs (aU bs 0 1) 1) (2 * ((bs.getD (aU bs 0 1) 0).toNat+1))) (bs.getD (aU bs 0 1) 0).toNat).length≤255:=by rw [Gz];omega
    have l2:(iF bs (aU bs (aU bs 0 1) 1) ((bs.getD (aU bs 0 1) 0).toNat+1)).length≤256:=by rw [Gx];omega
    refine⟨Nat.le_trans l1 (by omega),Nat.le_trans l2 (by omega),by simp,by simp,?_,by simp [lB,lM],Nat.zero_le _⟩
    unfold dZ
    have f1:=nK (beB 2) 2 (iF bs (aU bs (aU bs 0 1) 1) ((bs.getD (aU bs 0 1) 0).toNat+1)) (fun x _=>by rw [lM];omega)
    have f2:=nK dK 256 (gT bs (aU bs (aU bs (aU bs 0 1) 1) (2 * ((bs.getD (aU bs 0 1) 0).toNat+1))) (bs.getD (aU bs 0 1) 0).toNat) (fun x hx=>by
      simp only [gT,List.mem_map] at hx
      obtain⟨j,_,rfl⟩:=hx
      exact Av (by rw [vA];exact uL _ _))
    rw [List.length_append,List.length_append,lM]
    dsimp only
    omega
  split
  · have l1:(eK bs (aU bs (aU bs 0 1) 1) (bs.getD (aU bs 0 1) 0).toNat).length≤255:=by rw [Hk];omega
    have hall:∀ e∈eK bs (aU bs (aU bs 0 1) 1) (bs.getD (aU bs 0 1) 0).toNat,e.key.size≤255∧e.val.size≤255:=fun x hx=>by
      simp only [eK,List.mem_map] at hx
      obtain⟨j,_,rfl⟩:=hx
      exact qDl _ _
    refine⟨by simp,by simp,Nat.le_trans l1 (by omega),fun e he=>⟨Nat.le_trans (hall e he).1 (by omega),Nat.le_trans (hall e he).2 (by omega)⟩,by simp [dZ,lM],?_,Nat.zero_le _⟩
    unfold lB
    have f1:=nK Ent.bytes 600 _ (fun e he=>qBx (hall e he))
    rw [List.length_append,lM]
    dsimp only
    omega
  split
  · exact hnil _ (by rw [vA];exact uL _ _)
  · exact hnil _ (Nat.zero_le _)
theorem uC (s:ByteArray) (w:World) :
    Calls Tryz.prog 116 #[.string s] w fun e w'=>Below w.heap.size w w' ∧
      ((s.size=256∧(dE s.data.toList).encE=0∧(dE s.data.toList).encS=s∧∃ v,e=.returned (.tuple #[v,.int .i64 0])∧Yd w' w.heap.size (dE s.data.toList) v) ∨
       (¬ (s.size=256∧(dE s.data.toList).encE=0∧(dE s.data.toList).encS=s)∧e=.returned (.tuple #[.agg #[.int .i64 0,.int .i64 0,.int .i64 0,.int .i64 0,.slice none 0 0,.slice none 0 0,.slice none 0 0,.string ⟨#[]⟩],.int .i64 2]))):=by
  by_cases hs:s.size=256
  · by_cases hE:(dE s.data.toList).encE=0
    · by_cases hO:(dE s.data.toList).encS=s
      · exact(Nm s w hs (qP _) hE hO).mono fun e w' ⟨v,he,hp,hb⟩=>⟨hb,.inl ⟨hs,hE,hO,v,he,hp⟩⟩
      · exact(Jj s w hs (qP _) hE hO).mono fun e w' ⟨he,hb⟩=>⟨hb,.inr ⟨fun h=>hO h.2.2,he⟩⟩
    · exact(uB s w hs (qP _) hE).mono fun e w' ⟨he,hb⟩=>⟨hb,.inr ⟨fun h=>hE h.2.1,he⟩⟩
  · exact(rK s w hs).mono fun e w' ⟨he,hb⟩=>⟨hb,.inr ⟨fun h=>hs h.1,he⟩⟩
def Has (bs:List UInt8) (a:Nat) (l:List UInt8):Prop:=∃ p r,bs=p++(l++r)∧p.length=a
theorem Has.le (h:Has bs a l):a+l.length≤bs.length:=by
 obtain⟨p,r,rfl,rfl⟩:=h;simp
theorem Has.left {l m:List UInt8} (h:Has bs a (l++m)):Has bs a l:=by
 obtain⟨p,r,rfl,rfl⟩:=h;exact⟨p,m++r,by simp,rfl⟩
theorem Has.right {l m:List UInt8} (h:Has bs a (l++m)):Has bs (a+l.length) m:=by
 obtain⟨p,r,rfl,rfl⟩:=h;exact⟨p++l,r,by simp,by simp⟩
theorem Has.pos (h:Has bs a l) {k:Nat} (hk:k≤l.length):aU bs a k=a+k:=by
 have:=h.le;unfold aU;omega
theorem Has.getD (h:Has bs a l) {k:Nat} (hk:k<l.length):bs.getD (a+k) 0=l[k]:=by
 obtain⟨p,r,rfl,rfl⟩:=h
 simp [List.getD,List.getElem?_append_right,List.getElem?_append_left hk,List.getElem?_eq_getElem hk]
theorem Has.head {b:UInt8}  (h:Has bs a (b :: l)):bs.getD a 0=b:=by
 have:=h.getD (k:=0) (by simp);simpa using this
theorem Has.tail {b:UInt8}  (h:Has bs a (b :: l)):Has bs (a+1) l :=
 Has.right (l:=[b]) h
theorem Has.slice (h:Has bs a l):(bs.drop a).take l.length=l:=by
 obtain⟨p,r,rfl,rfl⟩:=h;simp
theorem byte_of (m:Int) (h0:0≤m) (h1:m<256):((UInt8.ofNat m.toNat).toNat:Int)=m:=by
 rw [UInt8.toNat_ofNat_of_lt' (by simp [UInt8.size];omega)];omega
theorem Ua (n:Int) (m:Nat):((UInt8.ofNat ((n / 2 ^ m % 256).toNat)).toNat:Int)=n / 2 ^ m % 256:=byte_of _ (by omega) (by omega)
theorem Tb (h:Has bs a (beB 1 n)) (h0:0≤n) (h1:n<256):((bs.getD a 0).toNat:Int)=n:=by
 have e:=h.head
 rw [e,Ua]
 simp only [Nat.mul_zero,Int.pow_zero]
 omega
theorem uY (h:Has bs a (beB 2 n)) (h0:0≤n) (h1:n<65536):(gV bs a 2:Int)=n:=by
 have e0:=h.head
 have e1:=h.tail.head
 simp only [gV,Nat.add_zero,e0,e1,Nat.zero_mul,Nat.zero_add]
 rw [Int.natCast_add,Int.natCast_mul,Ua,Ua]
 simp only [Nat.mul_zero,Int.pow_zero,Nat.mul_one]
 omega
theorem Vm (h:Has bs a (beB 8 n)) (h0:0≤n) (h1:n<9223372036854775808):(gV bs a 8:Int)=n:=by
 have e0:=h.head
 have e1:=h.tail.head
 have e2:=h.tail.tail.head
 have e3:=h.tail.tail.tail.head
 have e4:=h.tail.tail.tail.tail.head
 have e5:=h.tail.tail.tail.tail.tail.head
 have e6:=h.tail.tail.tail.tail.tail.tail.head
 have e7:=h.tail.tail.tail.tail.tail.tail.tail.head
 simp only [Nat.add_assoc] at e0 e1 e2 e3 e4 e5 e6 e7
 simp only [Nat.reduceAdd] at e0 e1 e2 e3 e4 e5 e6 e7
 simp only [gV,Nat.add_zero,e0,e1,e2,e3,e4,e5,e6,e7,Nat.zero_mul,Nat.zero_add]
 simp only [Int.natCast_add,Int.natCast_mul,Ua]
 simp only [Nat.mul_zero,Int.pow_zero,Nat.mul_one,Nat.reduceMul,Int.reducePow]
 omega
theorem Oh (s:ByteArray):(⟨s.data.toList.toArray⟩:ByteArray)=s:=by cases s;simp
theorem Ig (h:Has bs a (dK s)) (hs:s.size<256):(⟨(lU bs a).toArray⟩:ByteArray)=s∧(lU bs a).length=s.size∧gM bs a=a+(dK s).length:=by
 have e0:(bs.getD a 0).toNat=s.size:=by
  rw [Has.head (l:=s.data.toList) h,UInt8.toNat_ofNat_of_lt' (by simpa [UInt8.size] using hs)]
 have hp:aU bs a 1=a+1:=h.pos (by simp [dK])
 have h2:Has bs (a+1) s.data.toList:=Has.tail (b:=UInt8.ofNat s.size) h
 have hl:s.data.toList.length=s.size:=rL s
 have e1:lU bs a=s.data.toList:=by
  unfold lU
  rw [hp,e0,← hl]
  exact h2.slice
 refine⟨by rw [e1,Oh],by rw [e1,hl],?_⟩
 have:=h2.le
 unfold gM
 rw [hp,e0]
 simp only [dK,List.length_append,List.length_cons,List.length_nil]
 omega
theorem vS (h:s.toList.isEmpty=true):s=⟨#[]⟩:=by
 rw [ByteArray.toList_eq] at h
 have h2:s.data.toList=[]:=List.isEmpty_iff.1 h
 rw [← Oh s,h2]
theorem qEt {e:Ent} (h:Has bs a e.bytes) (hk:e.key.size≤24) (hv:nY e.val e.size e.over=true):qH bs a=e∧zN bs a=a+e.bytes.length:=by
 obtain⟨k,v,n,o⟩:=e
 simp only [Ent.bytes,kU] at h hk hv ⊢
 obtain⟨t1,t2,t3⟩:=Ig h.left (by omega)
 have hr:=h.right
 by_cases ho:(o==0)=true
 ·rw [if_pos ho] at hr ⊢
  have hb:bs.getD (a+(dK k).length) 0=0:=hr.head
  have hp:aU bs (a+(dK k).length) 1=a+(dK k).length+1:=hr.pos (by simp)
  obtain rfl:o=0:=by simpa using ho
  simp [nY,nC] at hv
  obtain⟨s1,s2,s3⟩:=Ig (Has.tail (b:=0) hr) (by omega)
  unfold qH zN
  rw [t3,if_pos hb,if_pos hb,hp,t1,s1,s2,s3]
  refine⟨?_,by simp;omega⟩
  rw [hv.2]
 ·rw [if_neg ho] at hr ⊢
  have hb:¬ bs.getD (a+(dK k).length) 0=0:=by rw [Has.head (b:=1) (l:=beB 2 n++beB 2 o) (by simpa using hr)];decide
  have hp:aU bs (a+(dK k).length) 1=a+(dK k).length+1:=hr.pos (by simp)
  have ho':o≠0:=by simpa using ho
  simp only [nY,ho',aQ,Bool.or_eq_true,Bool.and_eq_true,decide_eq_true_eq,beq_iff_eq,false_and,false_or] at hv
  have hr2:Has bs (a+(dK k).length+1) (beB 2 n++beB 2 o):=Has.tail (b:=1) (by simpa using hr)
  have n1:=uY hr2.left (by omega) (by omega)
  have hp2:aU bs (a+(dK k).length+1) 2=a+(dK k).length+1+2:=hr2.pos (by simp [aJ])
  have hr3:=hr2.right
  rw [aJ] at hr3
  have n2:=uY hr3 (by omega) (by omega)
  have hp3:aU bs (a+(dK k).length+1+2) 2=a+(dK k).length+1+2+2:=hr3.pos (by simp [aJ])
  unfold qH zN
  rw [t3,if_neg hb,if_neg hb,hp,hp2,hp3,t1,n1,n2]
  refine⟨?_,by simp [aJ];omega⟩
  rw [vS hv.1.1.2]
theorem Qr (bs:List UInt8) (a n:Nat):gT bs a (n+1)=(⟨(lU bs a).toArray⟩:ByteArray) :: gT bs (gM bs a) n:=by
 have hk:∀ j,kJ bs a (j+1)=kJ bs (gM bs a) j:=fun j=>by
  induction j with
  | zero=>rfl
  | succ j ih=>rw [kJ,ih,← kJ]
 simp only [gT,List.range_succ_eq_map,List.map_cons,List.map_map]
 refine congrArg (List.cons _) (List.map_congr_left fun j _=>?_)
 simp only [Function.comp,Nat.succ_eq_add_one,hk]
theorem Qo (bs:List UInt8) (a n:Nat):iF bs a (n+1)=(gV bs (aU bs a 0) 2:Int) :: iF bs (aU bs a 2) n:=by
 simp only [iF,List.range_succ_eq_map,List.map_cons,List.map_map]
 refine congrArg (List.cons _) (List.map_congr_left fun j _=>?_)
 simp only [Function.comp,Nat.succ_eq_add_one,Fp]
 rw [show 2 * (j+1)=2+2 * j by omega]
theorem Rp (bs:List UInt8) (a n:Nat):eK bs a (n+1)=qH bs a :: eK bs (zN bs a) n:=by
 have hk:∀ j,kV bs a (j+1)=kV bs (zN bs a) j:=fun j=>by
  induction j with
  | zero=>rfl
  | succ j ih=>rw [kV,ih,← kV]
 simp only [eK,List.range_succ_eq_map,List.map_cons,List.map_map]
 refine congrArg (List.cons _) (List.map_congr_left fun j _=>?_)
 simp only [Function.comp,Nat.succ_eq_add_one,hk]
theorem Tm:∀ {keys:List ByteArray} {a:Nat},Has bs a (keys.flatMap dK)→(∀ k∈keys,k.size<256)→gT bs a keys.length=keys
 | [],_,_,_=>rfl
 | k :: l,a,h,hs=>by
  rw [List.flatMap_cons] at h
  obtain⟨t1,t2,t3⟩:=Ig h.left (hs k (by simp))
  rw [List.length_cons,Qr,t1,t3,Tm h.right (fun x hx=>hs x (by simp [hx]))]
theorem Tj:∀ {kids:List Int} {a:Nat},Has bs a (kids.flatMap (beB 2))→(∀ k∈kids,0≤k∧k<65536)→iF bs a kids.length=kids
 | [],_,_,_=>rfl
 | k :: l,a,h,hs=>by
  rw [List.flatMap_cons] at h
  have t1:=uY h.left (hs k (by simp)).1 (hs k (by simp)).2
  have h0:aU bs a 0=a:=h.pos (Nat.zero_le _)
  have h2:aU bs a 2=a+2:=h.pos (by simp [aJ])
  have hr:=h.right
  rw [aJ] at hr
  rw [List.length_cons,Qo,h0,t1,h2,Tj hr (fun x hx=>hs x (by simp [hx]))]
theorem Tu:∀ {ents:List Ent} {a:Nat},Has bs a (ents.flatMap Ent.bytes)→(∀ e∈ents,e.key.size≤24∧nY e.val e.size e.over=true)→eK bs a ents.length=ents
 | [],_,_,_=>rfl
 | e :: l,a,h,hs=>by
  rw [List.flatMap_cons] at h
  obtain⟨t1,t2⟩:=qEt h.left (hs e (by simp)).1 (hs e (by simp)).2
  rw [List.length_cons,Rp,t1,t2,Tu h.right (fun x hx=>hs x (by simp [hx]))]
theorem Cw:∀ (kids:List Int),(kids.flatMap (beB 2)).length=2 * kids.length
 | []=>rfl
 | k :: l=>by rw [List.flatMap_cons,List.length_append,aJ,Cw l,List.length_cons];omega
theorem Ba:∀ {keys:List ByteArray} {l:ByteArray},fI l keys=true→∀ k∈keys,k.size≤24
 | [],_,_=>by simp
 | k :: r,l,h=>by
  simp only [fI,gD,Bool.and_eq_true,decide_eq_true_eq] at h
  intro x hx
  rcases List.mem_cons.1 hx with rfl|hx
  ·exact h.1.2
  ·exact Ba h.2 x hx
theorem Lr:∀ {ents:List Ent} {l:ByteArray},fG l ents=true→∀ e∈ents,e.key.size≤24∧nY e.val e.size e.over=true
 | [],_,_=>by simp
 | k :: r,l,h=>by
  simp only [fG,gD,Bool.and_eq_true,decide_eq_true_eq] at h
  intro x hx
  rcases List.mem_cons.1 hx with rfl|hx
  ·exact⟨h.1.1.2,h.1.2⟩
  ·exact Lr h.2 x hx
theorem pU {l:List α} (h:((l.length:Int)==0)=true):l=[]:=List.eq_nil_of_length_eq_zero (by simpa using h)
theorem Jd (f:α→List UInt8):∀ (l:List α),(∀ x∈l,1≤(f x).length)→l.length≤(l.flatMap f).length
 | [],_=>by simp
 | x :: l,h=>by
  have h1:=h x (by simp)
  have h2:=Jd f l (fun y hy=>h y (by simp [hy]))
  rw [List.flatMap_cons,List.length_append,List.length_cons]
  omega
theorem Ez (s:ByteArray):1≤(dK s).length:=by simp [dK]
theorem Xw (e:Ent):1≤e.bytes.length:=by
 have:=Ez e.key
 simp only [Ent.bytes,kU,List.length_append];omega
theorem Hy (h0:0≤n) (h1:n<9223372036854775808):wrap64 n=n:=by unfold wrap64;omega
theorem Pi (g:Pg) (hver:g.ver<9223372036854775808) (hE:g.encE=0):dE g.encS.data.toList=g:=by
 obtain⟨kind,ver,root,next,keys,kids,ents,data⟩:=g
 simp only [Pg.encE,Pg.encS,Pages.cH,Pages.encS] at hE hver ⊢
 split at hE
 case isFalse=>simp at hE
 case isTrue hT =>
 rw [if_pos hT]
 simp only [Bool.and_eq_true,decide_eq_true_eq] at hT
 obtain⟨hR,hL⟩:=hT
 have hAll:Has (rG (fieldsB kind ver root next keys kids ents data)) 0 (fieldsB kind ver root next keys kids ents data) :=
  ⟨[],_,by rw [rG,zJ,List.append_assoc];rfl,rfl⟩
 have hdata:((⟨(rG (fieldsB kind ver root next keys kids ents data)).toArray⟩:ByteArray)).data.toList=rG (fieldsB kind ver root next keys kids ents data):=by simp
 rw [hdata]
 clear hdata
 generalize rG (fieldsB kind ver root next keys kids ents data)=bs at hAll ⊢
 unfold dE
 unfold dL at hR
 by_cases h1:kind=1
 ·subst h1
  rw [if_pos rfl] at hR
  simp only [eZ,kH,jH,Gh,Bool.and_eq_true,decide_eq_true_eq,Bool.or_eq_true,aQ] at hR
  obtain⟨⟨⟨⟨k1,k2⟩,k3⟩,k4,k5⟩,k6,k7⟩:=hR
  rw [fieldsB,if_pos rfl] at hAll
  have hk:bs.getD 0 0=1:=hAll.left.left.head
  have hp1:aU bs 0 1=1:=hAll.pos (by simp [aJ])
  have hv:=hAll.left.right
  rw [aJ] at hv
  have hp2:aU bs 1 8=9:=hv.pos (by simp [aJ])
  have hr:=hAll.right
  rw [List.length_append,aJ,aJ] at hr
  have hroot:0≤root∧root<65536:=by
   rcases k7 with k7|k7
   ·have:=beq_iff_eq.1 k7;omega
   ·omega
  rw [hk,show kZ bs (1:UInt8).toNat=_ from if_pos rfl,hp1,hp2,uY hr hroot.1 hroot.2]
  rw [Vm hv k6 hver,Hy k6 hver,pU k1,pU k2,pU k3,vS k5,beq_iff_eq.1 k4]
 by_cases h2:kind=2
 ·subst h2
  rw [if_neg h1,if_pos rfl] at hR
  simp only [jI,kH,jH,gE,Bool.and_eq_true,decide_eq_true_eq] at hR
  obtain⟨⟨⟨⟨k1,k2⟩,k3⟩,k4,k5⟩,⟨⟨k6,k7⟩,k8⟩,k9⟩:=hR
  rw [fieldsB,if_neg h1,if_pos rfl] at hAll hL
  have hkn:keys.length<256:=by
   have:=Jd dK keys (fun x _=>Ez x)
   rw [dZ] at hL
   simp only [List.length_append] at hL
   omega
  have hk:bs.getD 0 0=2:=hAll.left.head
  have hp1:aU bs 0 1=1:=hAll.pos (by simp [aJ])
  have hB:=hAll.right
  rw [aJ,dZ] at hB
  have hn:=Tb hB.left.left (by omega) (by omega)
  have hn':(bs.getD 1 0).toNat=keys.length:=by have h:((bs.getD 1 0).toNat:Int)=keys.length:=hn;omega
  have hp2:aU bs 1 1=2:=hB.pos (by simp [aJ])
  have hI:=hB.left.right
  rw [aJ] at hI
  have hp3:aU bs 2 (2 * (keys.length+1))=2+2 * (keys.length+1):=hI.pos (by rw [Cw,k7];omega)
  have hK:=hB.right
  rw [List.length_append,aJ,Cw,k7] at hK
  have e1:=Tm hK (fun k hk=>by have:=Ba k9 k hk;omega)
  have e2:=Tj hI (fun k hk=>by have:=List.all_eq_true.1 k8 k hk;simp [aQ] at this;omega)
  rw [hk,show kZ bs (2:UInt8).toNat=_ from (if_neg (by decide)).trans (if_pos rfl),hp1,hn',hp2,hp3,← k7,e2,k7]
  rw [show 2+2 * (keys.length+1)=0+1+(1+2 * (keys.length+1)) by omega,e1]
  rw [beq_iff_eq.1 k1,beq_iff_eq.1 k2,pU k3,beq_iff_eq.1 k4,vS k5]
 by_cases h3:kind=3
 ·subst h3
  rw [if_neg h1,if_neg h2,if_pos rfl] at hR
  simp only [jI,eZ,jH,Bool.and_eq_true,decide_eq_true_eq] at hR
  obtain⟨⟨⟨⟨k1,k2⟩,k3,k3b⟩,k4,k5⟩,k6,k7⟩:=hR
  rw [fieldsB,if_neg h1,if_neg h2,if_pos rfl] at hAll hL
  have hkn:ents.length<256:=by
   have:=Jd Ent.bytes ents (fun x _=>Xw x)
   rw [lB] at hL
   simp only [List.length_append] at hL
   omega
  have hk:bs.getD 0 0=3:=hAll.left.head
  have hp1:aU bs 0 1=1:=hAll.pos (by simp [aJ])
  have hB:=hAll.right
  rw [aJ,lB] at hB
  have hn:=Tb hB.left (by omega) (by omega)
  have hn':(bs.getD 1 0).toNat=ents.length:=by have h:((bs.getD 1 0).toNat:Int)=ents.length:=hn;omega
  have hp2:aU bs 1 1=2:=hB.pos (by simp [aJ])
  have hI:=hB.right
  rw [aJ] at hI
  have e1:=Tu hI (Lr k7)
  rw [hk,show kZ bs (3:UInt8).toNat=_ from (if_neg (by decide)).trans ((if_neg (by decide)).trans (if_pos rfl)),hp1,hn',hp2]
  rw [show 2=0+1+1 from rfl,e1]
  rw [beq_iff_eq.1 k1,beq_iff_eq.1 k2,pU k3,pU k3b,beq_iff_eq.1 k4,vS k5]
 by_cases h4:kind=4
 ·subst h4
  rw [if_neg h1,if_neg h2,if_neg h3,if_pos rfl] at hR
  simp only [jI,eZ,kH,Bp,Bool.and_eq_true,decide_eq_true_eq,Bool.or_eq_true,aQ] at hR
  obtain⟨⟨⟨⟨k1,k2⟩,k3,k3b⟩,k4⟩,k5,k6,k7⟩:=hR
  rw [fieldsB,if_neg h1,if_neg h2,if_neg h3] at hAll
  have hk:bs.getD 0 0=4:=hAll.left.left.head
  have hp1:aU bs 0 1=1:=hAll.pos (by simp [aJ])
  have hv:=hAll.left.right
  rw [aJ] at hv
  have hp2:aU bs 1 2=3:=hv.pos (by simp [aJ])
  have hr:=hAll.right
  rw [List.length_append,aJ,aJ] at hr
  have hnext:0≤next∧next<65536:=by
   rcases k5 with k5|k5
   ·have:=beq_iff_eq.1 k5;omega
   ·omega
  obtain⟨t1,t2,t3⟩:=Ig hr (by omega)
  rw [hk,show kZ bs (4:UInt8).toNat=_ from (if_neg (by decide)).trans ((if_neg (by decide)).trans ((if_neg (by decide)).trans (if_pos rfl))),hp1,hp2,uY hv hnext.1 hnext.2]
  rw [show 3=0+(1+2) from rfl,t1,beq_iff_eq.1 k1,beq_iff_eq.1 k2,pU k3,pU k3b,pU k4]
 ·simp [h1,h2,h3,h4] at hR
theorem Zg (c n:Int) (w:World) (h0 : -9223372036854775808≤c) (h1:c≤9223372036854775807) (hn:0<n) :
  Calls Tryz.prog 22 #[.int .i64 c,.int .i64 n] w fun e w'=>∃ m:Int,0≤m∧m<n∧e=.returned (.int .i64 m)∧w'=w:=by
 have hn0:n≠0:=by omega
 by_cases hc:c<0
 ·go_enter Tryz.func22,Tryz.ntmps22
  go_wp2
  go_ret
  have e : -((c+1).tmod n)=(-(c+1)) % n:=by rw [← Int.neg_tmod,Int.tmod_eq_emod_of_nonneg (by omega)]
  exact⟨_,by rw [e];exact Int.emod_nonneg _ hn0,by rw [e];exact Int.emod_lt_of_pos _ hn,rfl,rfl⟩
 ·go_enter Tryz.func22,Tryz.ntmps22
  go_wp2
  go_ret
  exact⟨_,Int.emod_nonneg _ hn0,Int.emod_lt_of_pos _ hn,rfl,rfl⟩
def Whole (s:List UInt8):Prop:=∃ P:List UInt8,P.length=252∧s=P++beB 4 (Crc.crc P:Nat)
theorem Uf {a b:Nat} (ha:a<4294967296) (hb:b<4294967296) (h:beB 4 (a:Int)=beB 4 (b:Int)):a=b:=by
 simp only [beB,List.cons.injEq,and_true,Nat.mul_zero,Int.pow_zero,Nat.mul_one,Nat.reduceMul,Int.reducePow] at h
 obtain⟨h0,h1,h2,h3⟩:=h
 have f:∀ x y:Int,UInt8.ofNat ((x % 256).toNat)=UInt8.ofNat ((y % 256).toNat)→x % 256=y % 256:=fun x y e=>by
  have e1:=byte_of (x % 256) (by omega) (by omega)
  have e2:=byte_of (y % 256) (by omega) (by omega)
  rw [e] at e1
  omega
 have g0:=f _ _ h0
 have g1:=f _ _ h1
 have g2:=f _ _ h2
 have g3:=f _ _ h3
 omega
theorem wI {s:List UInt8} (h:Whole s):s.length=256:=by
 obtain⟨P,hP,rfl⟩:=h;rw [List.length_append,aJ,hP]
theorem qI {s:List UInt8} (h:Whole s):s.drop 252=beB 4 (Crc.crc (s.take 252):Nat):=by
 obtain⟨P,hP,rfl⟩:=h
 rw [List.take_left' hP,List.drop_left' hP]
theorem Kf {s:List UInt8} (hs:Whole s) (k:Nat) (hk:k<s.length) (v:UInt8) (hv:v≠s[k]):¬ Whole (s.set k v):=by
 intro ht
 have h1:=qI hs
 have h2:=qI ht
 have hl:=wI hs
 by_cases hlt:k<252
 ·have e1:(s.set k v).drop 252=s.drop 252:=by rw [List.drop_set_of_lt hlt]
  rw [e1,h1] at h2
  have e2:=Uf (Crc.Jk _) (Crc.Jk _) h2
  have hkt:k<(s.take 252).length:=by rw [List.length_take];omega
  have e3:(s.set k v).take 252=(s.take 252).set k v:=List.take_set
  rw [e3,List.set_eq_take_append_cons_drop,if_pos hkt] at e2
  have e4:s.take 252=(s.take 252).take k++s[k] :: (s.take 252).drop (k+1):=by
   have e5:(s.take 252)[k]=s[k]:=List.getElem_take
   rw [← e5,← List.drop_eq_getElem_cons hkt,List.take_append_drop]
  rw [show Crc.crc (s.take 252)=Crc.crc ((s.take 252).take k++s[k] :: (s.take 252).drop (k+1)) from congrArg _ e4] at e2
  exact hv (Crc.Rv _ _ _ _ e2).symm
 ·have e1:(s.set k v).take 252=s.take 252:=List.take_set_of_le (by omega)
  rw [e1,← h1] at h2
  have e2:(s.set k v)[k]?=s[k]?:=by
   have:=congrArg (fun l=>l[k-252]?) h2
   simp only [List.getElem?_drop] at this
   rwa [show 252+(k-252)=k by omega] at this
  rw [List.getElem?_set_self hk,List.getElem?_eq_getElem hk] at e2
  exact hv (Option.some.inj e2)
theorem Rb {fs:List UInt8} (h:fs.length≤252):Whole (rG fs):=⟨zJ fs,by simp [zJ];omega,rfl⟩
theorem Hm (g:Pg) (hE:g.encE=0):Whole g.encS.data.toList:=by
 simp only [Pg.encE,Pg.encS,Pages.cH,Pages.encS] at hE ⊢
 split at hE
 case isFalse=>simp at hE
 case isTrue hT =>
 rw [if_pos hT]
 simp only [Bool.and_eq_true,decide_eq_true_eq] at hT
 exact Rb hT.2
