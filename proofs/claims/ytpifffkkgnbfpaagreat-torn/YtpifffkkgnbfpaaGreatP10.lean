import Derived.Test.YtpifffkkgnbfpaaGreatP9
import Derived.Deep.CutBlock
import Derived.Deep.RegionLaw
set_option linter.unusedSimpArgs false
set_option linter.unusedVariables false
set_option maxRecDepth 100000
set_option maxHeartbeats 8000000
namespace Go.Proofs.YtpifffkkgnbfpaaGreat.Pages
open Go.RowKit
variable {a:Nat} {bs l:List UInt8} {n:Int} {s:ByteArray} {α:Type}
abbrev qEd (ve:Value):Obj:=.cells #[.int .i64 3,.int .i64 0,.int .i64 0,.int .i64 0,.slice none 0 0,.slice none 0 0,ve,.string ⟨#[]⟩] 85
theorem Rd.drew {w:World} {ρ g c:Nat}   (h:Rd w ρ g c bs a):Rd w.drew ρ g c bs a:=⟨h.box,h.bytes,h.ne,h.lt,h.le,h.len,h.cap⟩
theorem zZ {ops:Array Oper} {o:Oper} {a:Act} {K:Act→World→Prop} {Q:Exit→Act→World→Prop} {F:Prop} (w:World) (hgd:o.guard=none) (sl x:Operand)
    (ho:o.op=.call { callee:=.builtin .append,args:=#[sl,x],argTypes:=#[83,83] }) (B:Nat) (es:List Ent) (v:Value) (hs:a.eval sl=v) (hv:fQ w B v es) (hB:B≤w.heap.size)
    (k:Ent) (hx:a.eval x=.slice (some ⟨w.heap.size,0,none⟩) 1 1) (hl:es.length+1≤4294967296)
    (h:∀ v' w',fQ w' B v' (es++[k])→Below B w w'→K (a.put o.dst v') w') :
    if Region.wanted o (yielded ops a.tmps)=true then Oper.wp Tryz.prog o a (w.alloc (.cells #[.string k.key,.string k.val,.int .i64 k.size,.int .i64 k.over] 108)) K Q else F:=by
  have hw:Region.wanted o (yielded ops a.tmps)=true:=by simp [Region.wanted,hgd]
  rw [if_pos hw]
  obtain⟨i0,hi,hz0,hz1,hz2⟩:=info_parts Tz
  refine wp_append_own _ sl x 83 ho B 108 i0 (.agg #[.string ⟨#[]⟩,.string ⟨#[]⟩,.int .i64 0,.int .i64 0]) 4 48 Tryz.underlying83 hi hz0 hz1 hz2 rfl (by decide) v es.length (es.flatMap Ent.cells) hs (hv.alloc _) ⟨w.heap.size,0,none⟩ 1 1 k.cells hx rfl (Rt _ _ _ _ _ _) (by intro u hu;simp [Ent.cells] at hu;rcases hu with rfl|rfl|rfl|rfl<;>rfl) (by unfold maxLen;omega) (by omega) (by simp;omega) ?_
  intro v1 w1 ho1 hg1 _
  refine h v1 w1 ?_ (((Below.refl B w).alloc hB _).grown hg1 (by simp;omega) (fun k' hk'=>(World.ownsRow.lt (w:=w) hv k' hk').1))
  unfold fQ
  rw [List.flatMap_append,List.length_append]
  have e : [k].flatMap Ent.cells=k.cells:=by simp
  rw [e]
  exact ho1
theorem Vp (s:ByteArray) (w:World) (hs:s.size=256) (hk:(s.data.toList.getD 0 0).toNat=3) (p:Nat) (hp:p=aT s.data.toList 0 1) (m:Nat) (hm:m=(s.data.toList.getD p 0).toNat) (P:Nat) (hP:P=aT s.data.toList p 1) :
    Calls Tryz.prog 139 #[.string s] w fun e w'=>∃ ve,e=.returned (.agg #[.int .i64 3,.int .i64 0,.int .i64 0,.int .i64 0,.slice none 0 0,.slice none 0 0,ve,.string ⟨#[]⟩]) ∧
      fQ w' w.heap.size ve (eQ s.data.toList P m)∧Below w.heap.size w w':=by
  obtain⟨c,v,hcv,hvs,hrd,hzz,hbb⟩:=oU s w hs
  obtain⟨bs,hbs⟩:∃ bs,bs=s.data.toList:=⟨_,rfl⟩
  rw [← hbs] at hrd hk hm hp hP ⊢
  have hN:=kD _ _ _ _ _ _ hrd
  rw [hk,← hp] at hN
  have hM:=fun w2 (h2:Rd w2 (w.heap.size+1+1) (w.heap.size+1) c bs p)=>kD _ _ _ _ _ _ h2
  rw [← hm,← hP] at hM
  have hmt:m<256:=by rw [hm];exact(bs.getD p 0).toNat_lt
  clear hs hp hk hbs hm hP
  go_enter Tryz.func139,Tryz.ntmps139
  go_upto_region 4 with(go_at_call 150;refine hN.mono ?_;rintro e w1 ⟨rfl,hr1,ho1⟩)
  have hZ1:=ho1.keep (by omega) hzz
  have hE1:=aA w1 (kC 3)
  have hz1:=eV w1 (kC 3)
  have hγ:w1.heap.size≠w.heap.size+1+1:=Nat.ne_of_gt hr1.lt'
  have hγg:w1.heap.size≠w.heap.size+1:=Nat.ne_of_gt hr1.lt
  have hγz:w.heap.size<w1.heap.size:=by have:=hr1.lt;omega
  have hγ':w.heap.size+1+1<w1.heap.size:=hr1.lt'
  have hM1:=hM _ (hr1.alloc (kC 3))
  have ho0:=(dQ.refl (w.heap.size+1+1) w1).alloc (kC 3)
  clear hM hN hcv
  go_wp2_with (go_at_call 150;refine hM1.mono ?_;rintro e w2 ⟨rfl,hr2,ho2⟩;have hE2:=ho2.keep hγ hE1;have hO2:=ho0.trans ho2)
  go_loopw [29] (fun i wr=>∃ (j:Nat) (ve:Value),j≤m∧i=.int .i64 j∧wr.heap[w1.heap.size]?=some (qEd ve)∧fQ wr (w1.heap.size+1) ve (eQ bs P j)∧Rd wr (w.heap.size+1+1) (w.heap.size+1) c bs (lE bs P j)∧dQ (w.heap.size+1+1) w1 wr) (fun i _=>m-(intOf i).toNat)
  case atStart=>exact⟨0,.slice none 0 0,Nat.zero_le _,rfl,hE2,fQ.nil _ _,hr2,hO2⟩
  case round =>
    clear hr2 hE2 hO2 ho2 hM1 ho0 hE1
    obtain⟨j,ve,hj,rfl,hE,hes,hr,ho⟩:=hrel
    obtain⟨ea,ec,rfl⟩:=hes.slice
    obtain⟨c0,c1,c2,c3,c4,c5,c6,c7⟩:=bL hE
    have hf1:=aF hE
    by_cases hlt:j<m
    · have hX:=fun u (hu:Rd u (w.heap.size+1+1) (w.heap.size+1) c bs (lE bs P j))=>Rz _ _ _ _ _ _ hu
      have hen:=Rx bs P j
      have hlen:(eQ bs P j).length=j:=by simp [eQ]
      have hpos:Ad bs (lE bs P j)=lE bs P (j+1):=rfl
      rw [hpos] at hX
      obtain⟨E,hEE⟩:∃ E,E=qN bs (lE bs P j):=⟨_,rfl⟩
      rw [← hEE] at hX hen
      have HK:Hid (eQ bs P (j+1)=eQ bs P j++[E]):=hen
      clear hen hEE hpos
      have lk:(eQ bs P j).length+1≤4294967296:=by omega
      have hsz:w1.heap.size+1≤wr.heap.size:=(Array.getElem?_eq_some_iff.1 hE).1
      clear hlen
      go_wp2_with (fail)
      go_region_law (first|(go_simp;go_at_call 152;refine(hX _ (by first|exact hr|exact hr.drew|exact hr.drew.drew|exact hr.drew.drew.drew)).mono ?_;rintro e w3 ⟨rfl,hr3,ho3⟩;have ho3':dQ (w.heap.size+1+1) wr w3:=⟨ho3.os,ho3.tape,ho3.output,ho3.size,ho3.block⟩;have hE3:w3.heap[w1.heap.size]?=some (qEd (.slice ea (eQ bs P j).length ec)):=ho3'.keep hγ hE;obtain⟨d0,d1,d2,d3,d4,d5,d6,d7⟩:=bL hE3;have hf3:=aF hE3;have hq6:=(bL (eL (x:=.cells #[.string E.key,.string E.val,.int .i64 E.size,.int .i64 E.over] 108) hE3)).2.2.2.2.2.2.1;have hes3:fQ w3 (w1.heap.size+1) (.slice ea (eQ bs P j).length ec) (eQ bs P j):=hes.only ho3' (by omega);have hs3:w1.heap.size+1≤w3.heap.size:=Nat.le_trans hsz ho3'.size)|(refine zZ w3 rfl (.tmp 32) (.tmp 34) rfl (w1.heap.size+1) (eQ bs P j) (.slice ea (eQ bs P j).length ec) (by simp [Act.eval,Act.put]) hes3 hs3 E (by simp [Act.eval,Act.put]) lk ?_;intro v4 w4 hes4 hb4;obtain⟨ea4,ec4,rfl⟩:=hes4.slice;have hE4:=(hb4.block w1.heap.size (Nat.lt_succ_self _)).trans hE3;obtain⟨g0,g1,g2,g3,g4,g5,g6,g7⟩:=bL hE4;have hf4:=aF hE4))
      all_goals go_wp2
      all_goals go_roundw
      all_goals first
        | (exact(by simp [intOf];omega))
        | (refine⟨j+1,.slice ea4 (eQ bs P j++[E]).length ec4,by omega,by go_num,?_,by rw [HK.out];exact hes4.set (Nat.lt_succ_self _) 6 _,(hr3.below hb4 (by omega) (by omega)).set hγ hγg 6 _,((ho.trans ho3').below hb4 (Nat.le_succ _)).set (Nat.le_refl _) 6 _⟩;have h5:=aD hE4 6 (.slice ea4 (eQ bs P j++[E]).length ec4);simpa using h5)
        | (repeat apply Exists.intro
           exact⟨⟨j+1,.slice ea4 (eQ bs P j++[E]).length ec4,by omega,by go_num,aD hE4 6 (.slice ea4 (eQ bs P j++[E]).length ec4),by rw [HK.out];exact hes4.set (Nat.lt_succ_self _) 6 _,(hr3.below hb4 (by omega) (by omega)).set hγ hγg 6 _,((ho.trans ho3').below hb4 (Nat.le_succ _)).set (Nat.le_refl _) 6 _⟩,rfl⟩)
    · obtain rfl:j=m:=by omega
      have hZ:=ho.keep (by omega) hZ1
      obtain⟨z0,z1,z2,z3,z4,z5,z6,z7⟩:=bL hZ
      have hf3:=aF hZ
      have hU:=uS hZ (.int .i64 3) (.int .i64 0) (.int .i64 0) (.int .i64 0) (.slice none 0 0) (.slice none 0 0) (.slice ea (eQ bs P j).length ec) (.string ⟨#[]⟩)
      obtain⟨y0,y1,y2,y3,y4,y5,y6,y7⟩:=bL hU
      have hB:=nY (mZ hbb (ho1.trans ho) (by omega) (by rw [eV];omega)) (β:=w.heap.size) (Nat.le_refl _) (.int .i64 3) (.int .i64 0) (.int .i64 0) (.int .i64 0) (.slice none 0 0) (.slice none 0 0) (.slice ea (eQ bs P j).length ec) (.string ⟨#[]⟩)
      have hlz:w.heap.size<w1.heap.size+1:=by omega
      have hes6:=(((((((((hes.set hlz 0 (.int .i64 3)).set hlz 1 (.int .i64 0)).set hlz 2 (.int .i64 0)).set hlz 3 (.int .i64 0)).set hlz 4 (.slice none 0 0)).set hlz 5 (.slice none 0 0)).set hlz 6 (.slice ea (eQ bs P j).length ec)).set hlz 7 (.string ⟨#[]⟩)).mono (B':=w.heap.size) (by omega))
      clear hrd hbb ho1
      go_wp2
      refine bodyPost_ret (v:=.agg #[.int .i64 3,.int .i64 0,.int .i64 0,.int .i64 0,.slice none 0 0,.slice none 0 0,.slice ea (eQ bs P j).length ec,.string ⟨#[]⟩]) ?_ rfl ⟨_,rfl,hes6,hB⟩
      simp [results,Tryz.results139,go_sem,y0,y1,y2,y3,y4,y5,y6,y7]
structure Pg where
 kind:Int
 ver:Int
 root:Int
 next:Int
 keys:List ByteArray
 kids:List Int
 ents:List Ent
 data:ByteArray
def kX (bs:List UInt8) (k:Nat):Pg :=
 if k=1 then ⟨1,wrap64 (gX bs (aT bs 0 1) 8),(gX bs (aT bs (aT bs 0 1) 8) 2:Nat),0,[],[],[],⟨#[]⟩⟩
 else if k=2 then ⟨2,0,0,0,iJ bs (aT bs (aT bs (aT bs 0 1) 1) (2 * ((bs.getD (aT bs 0 1) 0).toNat+1))) (bs.getD (aT bs 0 1) 0).toNat,iR bs (aT bs (aT bs 0 1) 1) ((bs.getD (aT bs 0 1) 0).toNat+1),[],⟨#[]⟩⟩
 else if k=3 then ⟨3,0,0,0,[],[],eQ bs (aT bs (aT bs 0 1) 1) (bs.getD (aT bs 0 1) 0).toNat,⟨#[]⟩⟩
 else if k=4 then ⟨4,0,0,(gX bs (aT bs 0 1) 2:Nat),[],[],[],⟨(mC bs (aT bs (aT bs 0 1) 2)).toArray⟩⟩
 else ⟨(k:Nat),0,0,0,[],[],[],⟨#[]⟩⟩
def dD (bs:List UInt8):Pg:=kX bs (bs.getD 0 0).toNat
def Yl (w:World) (B:Nat) (g:Pg) (v:Value):Prop :=
 ∃ vk vi ve,v=.agg #[.int .i64 g.kind,.int .i64 g.ver,.int .i64 g.root,.int .i64 g.next,vk,vi,ve,.string g.data]∧Keys w B vk g.keys∧Ints w B vi g.kids∧fQ w B ve g.ents
theorem mI (s:ByteArray) (w:World) (hs:s.size=256) :
  Calls Tryz.prog 139 #[.string s] w fun e w'=>∃ v,e=.returned v∧Yl w' w.heap.size (dD s.data.toList) v∧Below w.heap.size w w':=by
 obtain⟨k,hk⟩:∃ k,(s.data.toList.getD 0 0).toNat=k:=⟨_,rfl⟩
 unfold dD
 rw [hk]
 by_cases h1:k=1
 ·subst h1
  rw [show kX s.data.toList 1=_ from if_pos rfl]
  exact(Vo s w hs hk).mono fun x w' ⟨he,hb⟩=>⟨_,he,⟨_,_,_,rfl,Keys.nil _ _,Ints.nil _ _,fQ.nil _ _⟩,hb⟩
 by_cases h2:k=2
 ·subst h2
  rw [show kX s.data.toList 2=_ from (if_neg (by omega)).trans (if_pos rfl)]
  exact(Lr s w hs hk _ rfl _ rfl _ rfl).mono fun x w' ⟨vk,vi,he,hK,hI,hb⟩=>⟨_,he,⟨_,_,_,rfl,hK,hI,fQ.nil _ _⟩,hb⟩
 by_cases h3:k=3
 ·subst h3
  rw [show kX s.data.toList 3=_ from (if_neg (by omega)).trans ((if_neg (by omega)).trans (if_pos rfl))]
  exact(Vp s w hs hk _ rfl _ rfl _ rfl).mono fun x w' ⟨ve,he,hE,hb⟩=>⟨_,he,⟨_,_,_,rfl,Keys.nil _ _,Ints.nil _ _,hE⟩,hb⟩
 by_cases h4:k=4
 ·subst h4
  rw [show kX s.data.toList 4=_ from (if_neg (by omega)).trans ((if_neg (by omega)).trans ((if_neg (by omega)).trans (if_pos rfl)))]
  exact(Vm s w hs hk).mono fun x w' ⟨he,hb⟩=>⟨_,he,⟨_,_,_,rfl,Keys.nil _ _,Ints.nil _ _,fQ.nil _ _⟩,hb⟩
 rw [show kX s.data.toList k=_ from (if_neg h1).trans ((if_neg h2).trans ((if_neg h3).trans (if_neg h4)))]
 exact(Vn s w hs k hk h1 h2 h3 h4).mono fun x w' ⟨he,hb⟩=>⟨_,he,⟨_,_,_,rfl,Keys.nil _ _,Ints.nil _ _,fQ.nil _ _⟩,hb⟩
theorem lN {w:World} {B:Nat} {e:TypeId} {z:Nat} {v:Value} {n:Nat} {xs:List Value} (h:w.ownsRow B e z v n xs):∃ a c,v=.slice a n c∧cT w w.heap.size a xs:=by
 have hc:=fun g hg=>World.ownsRow.cells (w:=w) h (g:=g) hg
 have hlt:=World.ownsRow.lt (w:=w) h
 obtain⟨hl,h2⟩:=id h
 rcases h2 with⟨rfl,rfl⟩|⟨g,cap,cur,rfl,_⟩
 ·exact⟨none,0,rfl,.inl (List.eq_nil_of_length_eq_zero (by simpa using hl))⟩
 ·refine⟨_,_,rfl,.inr ⟨g,0,rfl,(hlt g rfl).2,fun i u hu=>?_⟩⟩
  have:=hc g rfl i u hu
  have e:(⟨g,0,none⟩:Addr).add i=⟨g,0+i,none⟩:=by unfold Addr.add;split<;>simp_all
  rw [e] at this
  exact this
theorem zJ (s:ByteArray) (w:World) (hs:s.size≠256) :
  Calls Tryz.prog 116 #[.string s] w fun e w'=>e=.returned (.tuple #[.agg #[.int .i64 0,.int .i64 0,.int .i64 0,.int .i64 0,.slice none 0 0,.slice none 0 0,.slice none 0 0,.string ⟨#[]⟩],.int .i64 2])∧Below w.heap.size w w':=by
 have h1:((s.size:Int) != 256)=true:=by simp;omega
 have h2:((s.size:Int)==256)=false:=by simp;omega
 go_enter Tryz.func116,Tryz.ntmps116
 have hn:=aA w gD
 obtain⟨y0,y1,y2,y3,y4,y5,y6,y7⟩:=bL hn
 go_wp2
 refine bodyPost_ret (v:=.tuple #[.agg #[.int .i64 0,.int .i64 0,.int .i64 0,.int .i64 0,.slice none 0 0,.slice none 0 0,.slice none 0 0,.string ⟨#[]⟩],.int .i64 2]) ?_ rfl ⟨rfl,(Below.refl _ w).alloc (Nat.le_refl _) _⟩
 simp [results,Tryz.results116,go_sem,y0,y1,y2,y3,y4,y5,y6,y7]
def Pg.encS (g:Pg):ByteArray:=Pages.encS g.kind g.ver g.root g.next g.keys g.kids g.ents g.data
def Pg.encE (g:Pg):Int:=Pages.cM g.kind g.ver g.root g.next g.keys g.kids g.ents g.data
def Pg.small (g:Pg):Prop:=Small g.keys g.kids g.ents g.data
theorem vF {a b:ByteArray} (h:a≠b):(a.toList==b.toList)=false:=by
 apply Bool.eq_false_iff.2
 intro e
 have e2:a.toList=b.toList:=by simpa using e
 rw [ByteArray.toList_eq,ByteArray.toList_eq] at e2
 exact h (ByteArray.ext (Array.toList_inj.1 e2))
theorem Hh {a b:ByteArray} (h:a=b):(a.toList==b.toList)=true:=by rw [h];simp
abbrev mN (G:Pg) (ka ia ea:Option Addr) (kc ic ec:Nat):Obj:=.cells #[.int .i64 G.kind,.int .i64 G.ver,.int .i64 G.root,.int .i64 G.next,.slice ka G.keys.length kc,.slice ia G.kids.length ic,.slice ea G.ents.length ec,.string G.data] 85
theorem uF (s:ByteArray) (w:World) (hs:s.size=256) (hS:(dD s.data.toList).small) (hE:(dD s.data.toList).encE≠0) :
  Calls Tryz.prog 116 #[.string s] w fun e w'=>e=.returned (.tuple #[.agg #[.int .i64 0,.int .i64 0,.int .i64 0,.int .i64 0,.slice none 0 0,.slice none 0 0,.slice none 0 0,.string ⟨#[]⟩],.int .i64 2])∧Below w.heap.size w w':=by
 have h1:((s.size:Int) != 256)=false:=by simp;omega
 have hR:=mI s (w.alloc gD) hs
 have hn:=aA w gD
 have hz:=eV w gD
 have hb0:Below w.heap.size w (w.alloc gD):=(Below.refl _ w).alloc (Nat.le_refl _) _
 obtain⟨G,hG⟩:∃ G,G=dD s.data.toList:=⟨_,rfl⟩
 rw [← hG] at hR hS hE
 rw [hz] at hR
 clear hs hG
 go_enter Tryz.func116,Tryz.ntmps116
 go_upto_region 4 with(go_at_call 139;refine hR.mono ?_;rintro e w1 ⟨v,rfl,⟨vk,vi,ve,rfl,hK,hI,hEs⟩,hb1⟩;obtain⟨ka,kc,rfl,rk⟩:=lN hK;obtain⟨ia,ic,rfl,ri⟩:=lN hI;obtain⟨ea,ec,rfl,re⟩:=lN hEs)
 have hb2:Below w1.heap.size w1 (w1.alloc (mN G ka ia ea kc ic ec)):=(Below.refl _ w1).alloc (Nat.le_refl _) _
 have hz2:=eV w1 (mN G ka ia ea kc ic ec)
 have hP2:=aA w1 (mN G ka ia ea kc ic ec)
 have hN2:=eL (x:=mN G ka ia ea kc ic ec) ((hb1.block w.heap.size (Nat.lt_succ_self _)).trans hn)
 have hlt:w.heap.size<w1.heap.size:=(Array.getElem?_eq_some_iff.1 ((hb1.block w.heap.size (Nat.lt_succ_self _)).trans hn)).1
 generalize hw2:w1.alloc (mN G ka ia ea kc ic ec)=w2 at *
 clear hw2
 have hEn:=qF G.kind G.ver G.root G.next ka ia ea kc ic ec G.data G.keys G.kids G.ents w2 ((rk.below hb2).mono (by omega)) ((ri.below hb2).mono (by omega)) ((re.below hb2).mono (by omega)) hS
 obtain⟨c0,c1,c2,c3,c4,c5,c6,c7⟩:=bL hP2
 have e1:(Pages.cM G.kind G.ver G.root G.next G.keys G.kids G.ents G.data != 0)=true:=by simpa [Pg.encE] using hE
 generalize Pages.cM G.kind G.ver G.root G.next G.keys G.kids G.ents G.data=EE at *
 generalize Pages.encS G.kind G.ver G.root G.next G.keys G.kids G.ents G.data=SS at *
 have hBB:Below w.heap.size w w2:=(hb0.trans (hb1.mono (by omega))).trans (hb2.mono (by omega))
 go_wp2_with (go_at_call 119;refine hEn.mono ?_;rintro e w3 ⟨rfl,hb3⟩;have hN3:=(hb3.block w.heap.size (by omega)).trans hN2;obtain⟨z0,z1,z2,z3,z4,z5,z6,z7⟩:=bL hN3;have hf3:=aF hN3)
 have hN3:=(hb3.block w.heap.size (by omega)).trans hN2
 have hU:=uS hN3 (.int .i64 0) (.int .i64 0) (.int .i64 0) (.int .i64 0) (.slice none 0 0) (.slice none 0 0) (.slice none 0 0) (.string ⟨#[]⟩)
 obtain⟨y0,y1,y2,y3,y4,y5,y6,y7⟩:=bL hU
 refine bodyPost_ret (v:=.tuple #[.agg #[.int .i64 0,.int .i64 0,.int .i64 0,.int .i64 0,.slice none 0 0,.slice none 0 0,.slice none 0 0,.string ⟨#[]⟩],.int .i64 2]) ?_ rfl ⟨rfl,nY (hBB.trans (hb3.mono (by omega))) (β:=w.heap.size) (Nat.le_refl _) (.int .i64 0) (.int .i64 0) (.int .i64 0) (.int .i64 0) (.slice none 0 0) (.slice none 0 0) (.slice none 0 0) (.string ⟨#[]⟩)⟩
 simp [results,Tryz.results116,go_sem,y0,y1,y2,y3,y4,y5,y6,y7]
theorem Kf (s:ByteArray) (w:World) (hs:s.size=256) (hS:(dD s.data.toList).small) (hE:(dD s.data.toList).encE=0) (hO:(dD s.data.toList).encS≠s) :
  Calls Tryz.prog 116 #[.string s] w fun e w'=>e=.returned (.tuple #[.agg #[.int .i64 0,.int .i64 0,.int .i64 0,.int .i64 0,.slice none 0 0,.slice none 0 0,.slice none 0 0,.string ⟨#[]⟩],.int .i64 2])∧Below w.heap.size w w':=by
 have h1:((s.size:Int) != 256)=false:=by simp;omega
 have hR:=mI s (w.alloc gD) hs
 have hn:=aA w gD
 have hz:=eV w gD
 have hb0:Below w.heap.size w (w.alloc gD):=(Below.refl _ w).alloc (Nat.le_refl _) _
 obtain⟨G,hG⟩:∃ G,G=dD s.data.toList:=⟨_,rfl⟩
 rw [← hG] at hR hS hE hO
 rw [hz] at hR
 clear hs hG
 go_enter Tryz.func116,Tryz.ntmps116
 go_upto_region 4 with(go_at_call 139;refine hR.mono ?_;rintro e w1 ⟨v,rfl,⟨vk,vi,ve,rfl,hK,hI,hEs⟩,hb1⟩;obtain⟨ka,kc,rfl,rk⟩:=lN hK;obtain⟨ia,ic,rfl,ri⟩:=lN hI;obtain⟨ea,ec,rfl,re⟩:=lN hEs)
 have hb2:Below w1.heap.size w1 (w1.alloc (mN G ka ia ea kc ic ec)):=(Below.refl _ w1).alloc (Nat.le_refl _) _
 have hz2:=eV w1 (mN G ka ia ea kc ic ec)
 have hP2:=aA w1 (mN G ka ia ea kc ic ec)
 have hN2:=eL (x:=mN G ka ia ea kc ic ec) ((hb1.block w.heap.size (Nat.lt_succ_self _)).trans hn)
 have hlt:w.heap.size<w1.heap.size:=(Array.getElem?_eq_some_iff.1 ((hb1.block w.heap.size (Nat.lt_succ_self _)).trans hn)).1
 generalize hw2:w1.alloc (mN G ka ia ea kc ic ec)=w2 at *
 clear hw2
 have hEn:=qF G.kind G.ver G.root G.next ka ia ea kc ic ec G.data G.keys G.kids G.ents w2 ((rk.below hb2).mono (by omega)) ((ri.below hb2).mono (by omega)) ((re.below hb2).mono (by omega)) hS
 obtain⟨c0,c1,c2,c3,c4,c5,c6,c7⟩:=bL hP2
 have e1:Pages.cM G.kind G.ver G.root G.next G.keys G.kids G.ents G.data=0:=hE
 have e3:((Pages.encS G.kind G.ver G.root G.next G.keys G.kids G.ents G.data).toList==s.toList)=false:=vF hO
 generalize Pages.cM G.kind G.ver G.root G.next G.keys G.kids G.ents G.data=EE at *
 generalize Pages.encS G.kind G.ver G.root G.next G.keys G.kids G.ents G.data=SS at *
 subst e1
 have hBB:Below w.heap.size w w2:=(hb0.trans (hb1.mono (by omega))).trans (hb2.mono (by omega))
 go_wp2_with (go_at_call 119;refine hEn.mono ?_;rintro e w3 ⟨rfl,hb3⟩;have hN3:=(hb3.block w.heap.size (by omega)).trans hN2;obtain⟨z0,z1,z2,z3,z4,z5,z6,z7⟩:=bL hN3;have hf3:=aF hN3)
 have hN3:=(hb3.block w.heap.size (by omega)).trans hN2
 have hU:=uS hN3 (.int .i64 0) (.int .i64 0) (.int .i64 0) (.int .i64 0) (.slice none 0 0) (.slice none 0 0) (.slice none 0 0) (.string ⟨#[]⟩)
 obtain⟨y0,y1,y2,y3,y4,y5,y6,y7⟩:=bL hU
 refine bodyPost_ret (v:=.tuple #[.agg #[.int .i64 0,.int .i64 0,.int .i64 0,.int .i64 0,.slice none 0 0,.slice none 0 0,.slice none 0 0,.string ⟨#[]⟩],.int .i64 2]) ?_ rfl ⟨rfl,nY (hBB.trans (hb3.mono (by omega))) (β:=w.heap.size) (Nat.le_refl _) (.int .i64 0) (.int .i64 0) (.int .i64 0) (.int .i64 0) (.slice none 0 0) (.slice none 0 0) (.slice none 0 0) (.string ⟨#[]⟩)⟩
 simp [results,Tryz.results116,go_sem,y0,y1,y2,y3,y4,y5,y6,y7]
theorem Of (s:ByteArray) (w:World) (hs:s.size=256) (hS:(dD s.data.toList).small) (hE:(dD s.data.toList).encE=0) (hO:(dD s.data.toList).encS=s) :
  Calls Tryz.prog 116 #[.string s] w fun e w'=>∃ v,e=.returned (.tuple #[v,.int .i64 0])∧Yl w' w.heap.size (dD s.data.toList) v∧Below w.heap.size w w':=by
 have h1:((s.size:Int) != 256)=false:=by simp;omega
 have hR:=mI s (w.alloc gD) hs
 have hn:=aA w gD
 have hz:=eV w gD
 have hb0:Below w.heap.size w (w.alloc gD):=(Below.refl _ w).alloc (Nat.le_refl _) _
 obtain⟨G,hG⟩:∃ G,G=dD s.data.toList:=⟨_,rfl⟩
 rw [← hG] at hR hS hE hO ⊢
 rw [hz] at hR
 clear hs hG
 go_enter Tryz.func116,Tryz.ntmps116
 go_upto_region 4 with(go_at_call 139;refine hR.mono ?_;rintro e w1 ⟨v,rfl,⟨vk,vi,ve,rfl,hK,hI,hEs⟩,hb1⟩;obtain⟨ka,kc,rfl,rk⟩:=lN hK;obtain⟨ia,ic,rfl,ri⟩:=lN hI;obtain⟨ea,ec,rfl,re⟩:=lN hEs)
 have hb2:Below w1.heap.size w1 (w1.alloc (mN G ka ia ea kc ic ec)):=(Below.refl _ w1).alloc (Nat.le_refl _) _
 have hz2:=eV w1 (mN G ka ia ea kc ic ec)
 have hP2:=aA w1 (mN G ka ia ea kc ic ec)
 have hN2:=eL (x:=mN G ka ia ea kc ic ec) ((hb1.block w.heap.size (Nat.lt_succ_self _)).trans hn)
 have hlt:w.heap.size<w1.heap.size:=(Array.getElem?_eq_some_iff.1 ((hb1.block w.heap.size (Nat.lt_succ_self _)).trans hn)).1
 generalize hw2:w1.alloc (mN G ka ia ea kc ic ec)=w2 at *
 clear hw2
 have hEn:=qF G.kind G.ver G.root G.next ka ia ea kc ic ec G.data G.keys G.kids G.ents w2 ((rk.below hb2).mono (by omega)) ((ri.below hb2).mono (by omega)) ((re.below hb2).mono (by omega)) hS
 obtain⟨c0,c1,c2,c3,c4,c5,c6,c7⟩:=bL hP2
 have e1:Pages.cM G.kind G.ver G.root G.next G.keys G.kids G.ents G.data=0:=hE
 have e3:((Pages.encS G.kind G.ver G.root G.next G.keys G.kids G.ents G.data).toList==s.toList)=true:=Hh hO
 generalize Pages.cM G.kind G.ver G.root G.next G.keys G.kids G.ents G.data=EE at *
 generalize Pages.encS G.kind G.ver G.root G.next G.keys G.kids G.ents G.data=SS at *
 subst e1
 have hBB:Below w.heap.size w w2:=(hb0.trans (hb1.mono (by omega))).trans (hb2.mono (by omega))
 go_wp2_with (go_at_call 119;refine hEn.mono ?_;rintro e w3 ⟨rfl,hb3⟩;have hN3:=(hb3.block w.heap.size (by omega)).trans hN2;obtain⟨z0,z1,z2,z3,z4,z5,z6,z7⟩:=bL hN3;have hf3:=aF hN3;have hP3:=(hb3.block w1.heap.size (by omega)).trans hP2;obtain⟨d0,d1,d2,d3,d4,d5,d6,d7⟩:=bL hP3)
 have hN3:=(hb3.block w.heap.size (by omega)).trans hN2
 have hU:=uS hN3 (.int .i64 G.kind) (.int .i64 G.ver) (.int .i64 G.root) (.int .i64 G.next) (.slice ka G.keys.length kc) (.slice ia G.kids.length ic) (.slice ea G.ents.length ec) (.string G.data)
 obtain⟨y0,y1,y2,y3,y4,y5,y6,y7⟩:=bL hU
 have hlz:w.heap.size<w.heap.size+1:=Nat.lt_succ_self _
 have hBw:Below w1.heap.size w1 w3:=hb2.trans (hb3.mono (by omega))
 have hK3:Keys w3 _ _ _:=hK.below hBw
 have hI3:Ints w3 _ _ _:=qZ hI (dQ.of_below (ρ:=0) hBw |> fun h=>h) (by omega)
 have hE3:fQ w3 _ _ _:=hEs.only (dQ.of_below (ρ:=0) hBw) (by omega)
 refine bodyPost_ret (v:=.tuple #[.agg #[.int .i64 G.kind,.int .i64 G.ver,.int .i64 G.root,.int .i64 G.next,.slice ka G.keys.length kc,.slice ia G.kids.length ic,.slice ea G.ents.length ec,.string G.data],.int .i64 0]) ?_ rfl ⟨_,rfl,⟨_,_,_,rfl,rB (uX hK3 hlz (.int .i64 G.kind) (.int .i64 G.ver) (.int .i64 G.root) (.int .i64 G.next) (.slice ka G.keys.length kc) (.slice ia G.kids.length ic) (.slice ea G.ents.length ec) (.string G.data)) (by omega),rB (uX hI3 hlz (.int .i64 G.kind) (.int .i64 G.ver) (.int .i64 G.root) (.int .i64 G.next) (.slice ka G.keys.length kc) (.slice ia G.kids.length ic) (.slice ea G.ents.length ec) (.string G.data)) (by omega),((((((((hE3.set hlz 0 _).set hlz 1 _).set hlz 2 _).set hlz 3 _).set hlz 4 _).set hlz 5 _).set hlz 6 _).set hlz 7 _).mono (by omega)⟩,nY (hBB.trans (hb3.mono (by omega))) (β:=w.heap.size) (Nat.le_refl _) (.int .i64 G.kind) (.int .i64 G.ver) (.int .i64 G.root) (.int .i64 G.next) (.slice ka G.keys.length kc) (.slice ia G.kids.length ic) (.slice ea G.ents.length ec) (.string G.data)⟩
 simp [results,Tryz.results116,go_sem,y0,y1,y2,y3,y4,y5,y6,y7]
theorem nW (f:α→List UInt8) (c:Nat):∀ (l:List α),(∀ x∈l,(f x).length≤c)→(l.flatMap f).length≤l.length * c
  | [],_=>by simp
  | x :: l,h=>by
    have h1:=h x (by simp)
    have h2:=nW f c l (fun y hy=>h y (by simp [hy]))
    rw [List.flatMap_cons,List.length_append,List.length_cons,Nat.succ_mul]
    omega
theorem Hu (bs:List UInt8) (a n:Nat):(iJ bs a n).length=n:=by simp [iJ]
theorem Hs (bs:List UInt8) (a n:Nat):(iR bs a n).length=n:=by simp [iR]
theorem Ii (bs:List UInt8) (a n:Nat):(eQ bs a n).length=n:=by simp [eQ]
theorem uM (bs:List UInt8) (a:Nat):(mC bs a).length≤255:=by
  have:=(bs.getD a 0).toNat_lt
  unfold mC
  rw [List.length_take]
  omega
theorem lS (k:Nat) (n:Int):(beB k n).length=k:=aI k n
theorem vB (l:List UInt8):(⟨l.toArray⟩:ByteArray).size=l.length:=by show l.toArray.size=_;simp
theorem Bh {c:Nat} (h:s.size≤c):(dM s).length≤c+1:=by
  unfold dM
  rw [List.length_append,rQ]
  simp
  omega
theorem qDo (bs:List UInt8) (a:Nat):(qN bs a).key.size≤255∧(qN bs a).val.size≤255:=by
  unfold qN
  split
  · exact⟨by rw [vB];exact uM _ _,by rw [vB];exact uM _ _⟩
  · exact⟨by rw [vB];exact uM _ _,Nat.zero_le _⟩
theorem qBy {e:Ent} (h:e.key.size≤255∧e.val.size≤255):e.bytes.length≤600:=by
  have h1:=Bh h.1
  have h2:=Bh h.2
  unfold Ent.bytes lB
  rw [List.length_append]
  split
  · rw [List.length_append];simp;omega
  · rw [List.length_append,List.length_append,lS,lS];simp;omega
theorem qX (bs:List UInt8):(dD bs).small:=by
  have hp:=(bs.getD (aT bs 0 1) 0).toNat_lt
  have hnil:∀ d:ByteArray,d.size≤255→Small [] [] [] d:=fun d hd=>⟨by simp,by simp,by simp,by simp,by simp [eE,lS],by simp [lK,lS],by omega⟩
  unfold dD kX
  split
  · exact hnil _ (Nat.zero_le _)
  split
  · have l1:(iJ bs (aT bs (aT bs (aT bs 0 1) 1) (2 * ((bs.getD (aT bs 0 1) 0).toNat+1))) (bs.getD (aT bs 0 1) 0).toNat).length≤255:=by rw [Hu];omega
    have l2:(iR bs (aT bs (aT bs 0 1) 1) ((bs.getD (aT bs 0 1) 0).toNat+1)).length≤256:=by rw [Hs];omega
    refine⟨Nat.le_trans l1 (by omega),Nat.le_trans l2 (by omega),by simp,by simp,?_,by simp [lK,lS],Nat.zero_le _⟩
    unfold eE
    have f1:=nW (beB 2) 2 (iR bs (aT bs (aT bs 0 1) 1) ((bs.getD (aT bs 0 1) 0).toNat+1)) (fun x _=>by rw [lS];omega)
    have f2:=nW dM 256 (iJ bs (aT bs (aT bs (aT bs 0 1) 1) (2 * ((bs.getD (aT bs 0 1) 0).toNat+1))) (bs.getD (aT bs 0 1) 0).toNat) (fun x hx=>by
      simp only [iJ,List.mem_map] at hx
      obtain⟨j,_,rfl⟩:=hx
      exact Bh (by rw [vB];exact uM _ _))
    rw [List.length_append,List.length_append,lS]
    dsimp only
    omega
  split
  · have l1:(eQ bs (aT bs (aT bs 0 1) 1) (bs.getD (aT bs 0 1) 0).toNat).length≤255:=by rw [Ii];omega
    have hall:∀ e∈eQ bs (aT bs (aT bs 0 1) 1) (bs.getD (aT bs 0 1) 0).toNat,e.key.size≤255∧e.val.size≤255:=fun x hx=>by
      simp only [eQ,List.mem_map] at hx
      obtain⟨j,_,rfl⟩:=hx
      exact qDo _ _
    refine⟨by simp,by simp,Nat.le_trans l1 (by omega),fun e he=>⟨Nat.le_trans (hall e he).1 (by omega),Nat.le_trans (hall e he).2 (by omega)⟩,by simp [eE,lS],?_,Nat.zero_le _⟩
    unfold lK
    have f1:=nW Ent.bytes 600 _ (fun e he=>qBy (hall e he))
    rw [List.length_append,lS]
    dsimp only
    omega
  split
  · exact hnil _ (by rw [vB];exact uM _ _)
  · exact hnil _ (Nat.zero_le _)
theorem uG (s:ByteArray) (w:World) :
    Calls Tryz.prog 116 #[.string s] w fun e w'=>Below w.heap.size w w' ∧
      ((s.size=256∧(dD s.data.toList).encE=0∧(dD s.data.toList).encS=s∧∃ v,e=.returned (.tuple #[v,.int .i64 0])∧Yl w' w.heap.size (dD s.data.toList) v) ∨
       (¬ (s.size=256∧(dD s.data.toList).encE=0∧(dD s.data.toList).encS=s)∧e=.returned (.tuple #[.agg #[.int .i64 0,.int .i64 0,.int .i64 0,.int .i64 0,.slice none 0 0,.slice none 0 0,.slice none 0 0,.string ⟨#[]⟩],.int .i64 2]))):=by
  by_cases hs:s.size=256
  · by_cases hE:(dD s.data.toList).encE=0
    · by_cases hO:(dD s.data.toList).encS=s
      · exact(Of s w hs (qX _) hE hO).mono fun e w' ⟨v,he,hp,hb⟩=>⟨hb,.inl ⟨hs,hE,hO,v,he,hp⟩⟩
      · exact(Kf s w hs (qX _) hE hO).mono fun e w' ⟨he,hb⟩=>⟨hb,.inr ⟨fun h=>hO h.2.2,he⟩⟩
    · exact(uF s w hs (qX _) hE).mono fun e w' ⟨he,hb⟩=>⟨hb,.inr ⟨fun h=>hE h.2.1,he⟩⟩
  · exact(zJ s w hs).mono fun e w' ⟨he,hb⟩=>⟨hb,.inr ⟨fun h=>hs h.1,he⟩⟩
def Has (bs:List UInt8) (a:Nat) (l:List UInt8):Prop:=∃ p r,bs=p++(l++r)∧p.length=a
theorem Has.le (h:Has bs a l):a+l.length≤bs.length:=by
 obtain⟨p,r,rfl,rfl⟩:=h;simp
theorem Has.left {l m:List UInt8} (h:Has bs a (l++m)):Has bs a l:=by
 obtain⟨p,r,rfl,rfl⟩:=h;exact⟨p,m++r,by simp,rfl⟩
theorem Has.right {l m:List UInt8} (h:Has bs a (l++m)):Has bs (a+l.length) m:=by
 obtain⟨p,r,rfl,rfl⟩:=h;exact⟨p++l,r,by simp,by simp⟩
theorem Has.pos (h:Has bs a l) {k:Nat} (hk:k≤l.length):aT bs a k=a+k:=by
 have:=h.le;unfold aT;omega
theorem Has.getD (h:Has bs a l) {k:Nat} (hk:k<l.length):bs.getD (a+k) 0=l[k]:=by
 obtain⟨p,r,rfl,rfl⟩:=h
 simp [List.getD,List.getElem?_append_right,List.getElem?_append_left hk,List.getElem?_eq_getElem hk]
theorem Has.head {b:UInt8}  (h:Has bs a (b :: l)):bs.getD a 0=b:=by
 have:=h.getD (k:=0) (by simp);simpa using this
theorem Has.tail {b:UInt8}  (h:Has bs a (b :: l)):Has bs (a+1) l :=
 Has.right (l:=[b]) h
theorem Has.slice (h:Has bs a l):(bs.drop a).take l.length=l:=by
 obtain⟨p,r,rfl,rfl⟩:=h;simp
theorem byte_of (m:Int) (h0:0≤m) (h1:m<256):((UInt8.ofNat m.toNat).toNat:Int)=m:=by
 rw [UInt8.toNat_ofNat_of_lt' (by simp [UInt8.size];omega)];omega
theorem Um (n:Int) (m:Nat):((UInt8.ofNat ((n / 2 ^ m % 256).toNat)).toNat:Int)=n / 2 ^ m % 256:=byte_of _ (by omega) (by omega)
theorem Tj (h:Has bs a (beB 1 n)) (h0:0≤n) (h1:n<256):((bs.getD a 0).toNat:Int)=n:=by
 have e:=h.head
 rw [e,Um]
 simp only [Nat.mul_zero,Int.pow_zero]
 omega
theorem uZ (h:Has bs a (beB 2 n)) (h0:0≤n) (h1:n<65536):(gX bs a 2:Int)=n:=by
 have e0:=h.head
 have e1:=h.tail.head
 simp only [gX,Nat.add_zero,e0,e1,Nat.zero_mul,Nat.zero_add]
 rw [Int.natCast_add,Int.natCast_mul,Um,Um]
 simp only [Nat.mul_zero,Int.pow_zero,Nat.mul_one]
 omega
theorem Vx (h:Has bs a (beB 8 n)) (h0:0≤n) (h1:n<9223372036854775808):(gX bs a 8:Int)=n:=by
 have e0:=h.head
 have e1:=h.tail.head
 have e2:=h.tail.tail.head
 have e3:=h.tail.tail.tail.head
 have e4:=h.tail.tail.tail.tail.head
 have e5:=h.tail.tail.tail.tail.tail.head
 have e6:=h.tail.tail.tail.tail.tail.tail.head
 have e7:=h.tail.tail.tail.tail.tail.tail.tail.head
 simp only [Nat.add_assoc] at e0 e1 e2 e3 e4 e5 e6 e7
 simp only [Nat.reduceAdd] at e0 e1 e2 e3 e4 e5 e6 e7
 simp only [gX,Nat.add_zero,e0,e1,e2,e3,e4,e5,e6,e7,Nat.zero_mul,Nat.zero_add]
 simp only [Int.natCast_add,Int.natCast_mul,Um]
 simp only [Nat.mul_zero,Int.pow_zero,Nat.mul_one,Nat.reduceMul,Int.reducePow]
 omega
theorem Ph (s:ByteArray):(⟨s.data.toList.toArray⟩:ByteArray)=s:=by cases s;simp
theorem Jb (h:Has bs a (dM s)) (hs:s.size<256):(⟨(mC bs a).toArray⟩:ByteArray)=s∧(mC bs a).length=s.size∧gV bs a=a+(dM s).length:=by
 have e0:(bs.getD a 0).toNat=s.size:=by
  rw [Has.head (l:=s.data.toList) h,UInt8.toNat_ofNat_of_lt' (by simpa [UInt8.size] using hs)]
 have hp:aT bs a 1=a+1:=h.pos (by simp [dM])
 have h2:Has bs (a+1) s.data.toList:=Has.tail (b:=UInt8.ofNat s.size) h
 have hl:s.data.toList.length=s.size:=rQ s
 have e1:mC bs a=s.data.toList:=by
  unfold mC
  rw [hp,e0,← hl]
  exact h2.slice
 refine⟨by rw [e1,Ph],by rw [e1,hl],?_⟩
 have:=h2.le
 unfold gV
 rw [hp,e0]
 simp only [dM,List.length_append,List.length_cons,List.length_nil]
 omega
theorem vZ (h:s.toList.isEmpty=true):s=⟨#[]⟩:=by
 rw [ByteArray.toList_eq] at h
 have h2:s.data.toList=[]:=List.isEmpty_iff.1 h
 rw [← Ph s,h2]
theorem qFe {e:Ent} (h:Has bs a e.bytes) (hk:e.key.size≤24) (hv:oM e.val e.size e.over=true):qN bs a=e∧Ad bs a=a+e.bytes.length:=by
 obtain⟨k,v,n,o⟩:=e
 simp only [Ent.bytes,lB] at h hk hv ⊢
 obtain⟨t1,t2,t3⟩:=Jb h.left (by omega)
 have hr:=h.right
 by_cases ho:(o==0)=true
 ·rw [if_pos ho] at hr ⊢
  have hb:bs.getD (a+(dM k).length) 0=0:=hr.head
  have hp:aT bs (a+(dM k).length) 1=a+(dM k).length+1:=hr.pos (by simp)
  obtain rfl:o=0:=by simpa using ho
  simp [oM,nQ] at hv
  obtain⟨s1,s2,s3⟩:=Jb (Has.tail (b:=0) hr) (by omega)
  unfold qN Ad
  rw [t3,if_pos hb,if_pos hb,hp,t1,s1,s2,s3]
  refine⟨?_,by simp;omega⟩
  rw [hv.2]
 ·rw [if_neg ho] at hr ⊢
  have hb:¬ bs.getD (a+(dM k).length) 0=0:=by rw [Has.head (b:=1) (l:=beB 2 n++beB 2 o) (by simpa using hr)];decide
  have hp:aT bs (a+(dM k).length) 1=a+(dM k).length+1:=hr.pos (by simp)
  have ho':o≠0:=by simpa using ho
  simp only [oM,ho',aS,Bool.or_eq_true,Bool.and_eq_true,decide_eq_true_eq,beq_iff_eq,false_and,false_or] at hv
  have hr2:Has bs (a+(dM k).length+1) (beB 2 n++beB 2 o):=Has.tail (b:=1) (by simpa using hr)
  have n1:=uZ hr2.left (by omega) (by omega)
  have hp2:aT bs (a+(dM k).length+1) 2=a+(dM k).length+1+2:=hr2.pos (by simp [aI])
  have hr3:=hr2.right
  rw [aI] at hr3
  have n2:=uZ hr3 (by omega) (by omega)
  have hp3:aT bs (a+(dM k).length+1+2) 2=a+(dM k).length+1+2+2:=hr3.pos (by simp [aI])
  unfold qN Ad
  rw [t3,if_neg hb,if_neg hb,hp,hp2,hp3,t1,n1,n2]
  refine⟨?_,by simp [aI];omega⟩
  rw [vZ hv.1.1.2]
theorem Rh (bs:List UInt8) (a n:Nat):iJ bs a (n+1)=(⟨(mC bs a).toArray⟩:ByteArray) :: iJ bs (gV bs a) n:=by
 have hk:∀ j,kR bs a (j+1)=kR bs (gV bs a) j:=fun j=>by
  induction j with
  | zero=>rfl
  | succ j ih=>rw [kR,ih,← kR]
 simp only [iJ,List.range_succ_eq_map,List.map_cons,List.map_map]
 refine congrArg (List.cons _) (List.map_congr_left fun j _=>?_)
 simp only [Function.comp,Nat.succ_eq_add_one,hk]
theorem Ra (bs:List UInt8) (a n:Nat):iR bs a (n+1)=(gX bs (aT bs a 0) 2:Int) :: iR bs (aT bs a 2) n:=by
 simp only [iR,List.range_succ_eq_map,List.map_cons,List.map_map]
 refine congrArg (List.cons _) (List.map_congr_left fun j _=>?_)
 simp only [Function.comp,Nat.succ_eq_add_one,Gr]
 rw [show 2 * (j+1)=2+2 * j by omega]
theorem Ry (bs:List UInt8) (a n:Nat):eQ bs a (n+1)=qN bs a :: eQ bs (Ad bs a) n:=by
 have hk:∀ j,lE bs a (j+1)=lE bs (Ad bs a) j:=fun j=>by
  induction j with
  | zero=>rfl
  | succ j ih=>rw [lE,ih,← lE]
 simp only [eQ,List.range_succ_eq_map,List.map_cons,List.map_map]
 refine congrArg (List.cons _) (List.map_congr_left fun j _=>?_)
 simp only [Function.comp,Nat.succ_eq_add_one,hk]
theorem Tv:∀ {keys:List ByteArray} {a:Nat},Has bs a (keys.flatMap dM)→(∀ k∈keys,k.size<256)→iJ bs a keys.length=keys
 | [],_,_,_=>rfl
 | k :: l,a,h,hs=>by
  rw [List.flatMap_cons] at h
  obtain⟨t1,t2,t3⟩:=Jb h.left (hs k (by simp))
  rw [List.length_cons,Rh,t1,t3,Tv h.right (fun x hx=>hs x (by simp [hx]))]
theorem Tt:∀ {kids:List Int} {a:Nat},Has bs a (kids.flatMap (beB 2))→(∀ k∈kids,0≤k∧k<65536)→iR bs a kids.length=kids
 | [],_,_,_=>rfl
 | k :: l,a,h,hs=>by
  rw [List.flatMap_cons] at h
  have t1:=uZ h.left (hs k (by simp)).1 (hs k (by simp)).2
  have h0:aT bs a 0=a:=h.pos (Nat.zero_le _)
  have h2:aT bs a 2=a+2:=h.pos (by simp [aI])
  have hr:=h.right
  rw [aI] at hr
  rw [List.length_cons,Ra,h0,t1,h2,Tt hr (fun x hx=>hs x (by simp [hx]))]
theorem Uc:∀ {ents:List Ent} {a:Nat},Has bs a (ents.flatMap Ent.bytes)→(∀ e∈ents,e.key.size≤24∧oM e.val e.size e.over=true)→eQ bs a ents.length=ents
 | [],_,_,_=>rfl
 | e :: l,a,h,hs=>by
  rw [List.flatMap_cons] at h
  obtain⟨t1,t2⟩:=qFe h.left (hs e (by simp)).1 (hs e (by simp)).2
  rw [List.length_cons,Ry,t1,t2,Uc h.right (fun x hx=>hs x (by simp [hx]))]
theorem Dp:∀ (kids:List Int),(kids.flatMap (beB 2)).length=2 * kids.length
 | []=>rfl
 | k :: l=>by rw [List.flatMap_cons,List.length_append,aI,Dp l,List.length_cons];omega
theorem Bq:∀ {keys:List ByteArray} {l:ByteArray},fU l keys=true→∀ k∈keys,k.size≤24
 | [],_,_=>by simp
 | k :: r,l,h=>by
  simp only [fU,gP,Bool.and_eq_true,decide_eq_true_eq] at h
  intro x hx
  rcases List.mem_cons.1 hx with rfl|hx
  ·exact h.1.2
  ·exact Bq h.2 x hx
theorem Mh:∀ {ents:List Ent} {l:ByteArray},fS l ents=true→∀ e∈ents,e.key.size≤24∧oM e.val e.size e.over=true
 | [],_,_=>by simp
 | k :: r,l,h=>by
  simp only [fS,gP,Bool.and_eq_true,decide_eq_true_eq] at h
  intro x hx
  rcases List.mem_cons.1 hx with rfl|hx
  ·exact⟨h.1.1.2,h.1.2⟩
  ·exact Mh h.2 x hx
theorem qA {l:List α} (h:((l.length:Int)==0)=true):l=[]:=List.eq_nil_of_length_eq_zero (by simpa using h)
theorem Jz (f:α→List UInt8):∀ (l:List α),(∀ x∈l,1≤(f x).length)→l.length≤(l.flatMap f).length
 | [],_=>by simp
 | x :: l,h=>by
  have h1:=h x (by simp)
  have h2:=Jz f l (fun y hy=>h y (by simp [hy]))
  rw [List.flatMap_cons,List.length_append,List.length_cons]
  omega
theorem Gh (s:ByteArray):1≤(dM s).length:=by simp [dM]
theorem Yg (e:Ent):1≤e.bytes.length:=by
 have:=Gh e.key
 simp only [Ent.bytes,lB,List.length_append];omega
theorem Iv (h0:0≤n) (h1:n<9223372036854775808):wrap64 n=n:=by unfold wrap64;omega
theorem Qb (g:Pg) (hver:g.ver<9223372036854775808) (hE:g.encE=0):dD g.encS.data.toList=g:=by
 obtain⟨kind,ver,root,next,keys,kids,ents,data⟩:=g
 simp only [Pg.encE,Pg.encS,Pages.cM,Pages.encS] at hE hver ⊢
 split at hE
 case isFalse=>simp at hE
 case isTrue hT =>
 rw [if_pos hT]
 simp only [Bool.and_eq_true,decide_eq_true_eq] at hT
 obtain⟨hR,hL⟩:=hT
 have hAll:Has (tC (fieldsB kind ver root next keys kids ents data)) 0 (fieldsB kind ver root next keys kids ents data) :=
  ⟨[],_,by rw [tC,Ez,List.append_assoc];rfl,rfl⟩
 have hdata:((⟨(tC (fieldsB kind ver root next keys kids ents data)).toArray⟩:ByteArray)).data.toList=tC (fieldsB kind ver root next keys kids ents data):=by simp
 rw [hdata]
 clear hdata
 generalize tC (fieldsB kind ver root next keys kids ents data)=bs at hAll ⊢
 unfold dD
 unfold dX at hR
 by_cases h1:kind=1
 ·subst h1
  rw [if_pos rfl] at hR
  simp only [fM,kQ,kE,Hd,Bool.and_eq_true,decide_eq_true_eq,Bool.or_eq_true,aS] at hR
  obtain⟨⟨⟨⟨k1,k2⟩,k3⟩,k4,k5⟩,k6,k7⟩:=hR
  rw [fieldsB,if_pos rfl] at hAll
  have hk:bs.getD 0 0=1:=hAll.left.left.head
  have hp1:aT bs 0 1=1:=hAll.pos (by simp [aI])
  have hv:=hAll.left.right
  rw [aI] at hv
  have hp2:aT bs 1 8=9:=hv.pos (by simp [aI])
  have hr:=hAll.right
  rw [List.length_append,aI,aI] at hr
  have hroot:0≤root∧root<65536:=by
   rcases k7 with k7|k7
   ·have:=beq_iff_eq.1 k7;omega
   ·omega
  rw [hk,show kX bs (1:UInt8).toNat=_ from if_pos rfl,hp1,hp2,uZ hr hroot.1 hroot.2]
  rw [Vx hv k6 hver,Iv k6 hver,qA k1,qA k2,qA k3,vZ k5,beq_iff_eq.1 k4]
 by_cases h2:kind=2
 ·subst h2
  rw [if_neg h1,if_pos rfl] at hR
  simp only [kF,kQ,kE,gQ,Bool.and_eq_true,decide_eq_true_eq] at hR
  obtain⟨⟨⟨⟨k1,k2⟩,k3⟩,k4,k5⟩,⟨⟨k6,k7⟩,k8⟩,k9⟩:=hR
  rw [fieldsB,if_neg h1,if_pos rfl] at hAll hL
  have hkn:keys.length<256:=by
   have:=Jz dM keys (fun x _=>Gh x)
   rw [eE] at hL
   simp only [List.length_append] at hL
   omega
  have hk:bs.getD 0 0=2:=hAll.left.head
  have hp1:aT bs 0 1=1:=hAll.pos (by simp [aI])
  have hB:=hAll.right
  rw [aI,eE] at hB
  have hn:=Tj hB.left.left (by omega) (by omega)
  have hn':(bs.getD 1 0).toNat=keys.length:=by have h:((bs.getD 1 0).toNat:Int)=keys.length:=hn;omega
  have hp2:aT bs 1 1=2:=hB.pos (by simp [aI])
  have hI:=hB.left.right
  rw [aI] at hI
  have hp3:aT bs 2 (2 * (keys.length+1))=2+2 * (keys.length+1):=hI.pos (by rw [Dp,k7];omega)
  have hK:=hB.right
  rw [List.length_append,aI,Dp,k7] at hK
  have e1:=Tv hK (fun k hk=>by have:=Bq k9 k hk;omega)
  have e2:=Tt hI (fun k hk=>by have:=List.all_eq_true.1 k8 k hk;simp [aS] at this;omega)
  rw [hk,show kX bs (2:UInt8).toNat=_ from (if_neg (by decide)).trans (if_pos rfl),hp1,hn',hp2,hp3,← k7,e2,k7]
  rw [show 2+2 * (keys.length+1)=0+1+(1+2 * (keys.length+1)) by omega,e1]
  rw [beq_iff_eq.1 k1,beq_iff_eq.1 k2,qA k3,beq_iff_eq.1 k4,vZ k5]
 by_cases h3:kind=3
 ·subst h3
  rw [if_neg h1,if_neg h2,if_pos rfl] at hR
  simp only [kF,fM,kE,Bool.and_eq_true,decide_eq_true_eq] at hR
  obtain⟨⟨⟨⟨k1,k2⟩,k3,k3b⟩,k4,k5⟩,k6,k7⟩:=hR
  rw [fieldsB,if_neg h1,if_neg h2,if_pos rfl] at hAll hL
  have hkn:ents.length<256:=by
   have:=Jz Ent.bytes ents (fun x _=>Yg x)
   rw [lK] at hL
   simp only [List.length_append] at hL
   omega
  have hk:bs.getD 0 0=3:=hAll.left.head
  have hp1:aT bs 0 1=1:=hAll.pos (by simp [aI])
  have hB:=hAll.right
  rw [aI,lK] at hB
  have hn:=Tj hB.left (by omega) (by omega)
  have hn':(bs.getD 1 0).toNat=ents.length:=by have h:((bs.getD 1 0).toNat:Int)=ents.length:=hn;omega
  have hp2:aT bs 1 1=2:=hB.pos (by simp [aI])
  have hI:=hB.right
  rw [aI] at hI
  have e1:=Uc hI (Mh k7)
  rw [hk,show kX bs (3:UInt8).toNat=_ from (if_neg (by decide)).trans ((if_neg (by decide)).trans (if_pos rfl)),hp1,hn',hp2]
  rw [show 2=0+1+1 from rfl,e1]
  rw [beq_iff_eq.1 k1,beq_iff_eq.1 k2,qA k3,qA k3b,beq_iff_eq.1 k4,vZ k5]
 by_cases h4:kind=4
 ·subst h4
  rw [if_neg h1,if_neg h2,if_neg h3,if_pos rfl] at hR
  simp only [kF,fM,kQ,Ce,Bool.and_eq_true,decide_eq_true_eq,Bool.or_eq_true,aS] at hR
  obtain⟨⟨⟨⟨k1,k2⟩,k3,k3b⟩,k4⟩,k5,k6,k7⟩:=hR
  rw [fieldsB,if_neg h1,if_neg h2,if_neg h3] at hAll
  have hk:bs.getD 0 0=4:=hAll.left.left.head
  have hp1:aT bs 0 1=1:=hAll.pos (by simp [aI])
  have hv:=hAll.left.right
  rw [aI] at hv
  have hp2:aT bs 1 2=3:=hv.pos (by simp [aI])
  have hr:=hAll.right
  rw [List.length_append,aI,aI] at hr
  have hnext:0≤next∧next<65536:=by
   rcases k5 with k5|k5
   ·have:=beq_iff_eq.1 k5;omega
   ·omega
  obtain⟨t1,t2,t3⟩:=Jb hr (by omega)
  rw [hk,show kX bs (4:UInt8).toNat=_ from (if_neg (by decide)).trans ((if_neg (by decide)).trans ((if_neg (by decide)).trans (if_pos rfl))),hp1,hp2,uZ hv hnext.1 hnext.2]
  rw [show 3=0+(1+2) from rfl,t1,beq_iff_eq.1 k1,beq_iff_eq.1 k2,qA k3,qA k3b,qA k4]
 ·simp [h1,h2,h3,h4] at hR
theorem Zn (c n:Int) (w:World) (h0 : -9223372036854775808≤c) (h1:c≤9223372036854775807) (hn:0<n) :
  Calls Tryz.prog 22 #[.int .i64 c,.int .i64 n] w fun e w'=>∃ m:Int,0≤m∧m<n∧e=.returned (.int .i64 m)∧w'=w:=by
 have hn0:n≠0:=by omega
 by_cases hc:c<0
 ·go_enter Tryz.func22,Tryz.ntmps22
  go_wp2
  go_ret
  have e : -((c+1).tmod n)=(-(c+1)) % n:=by rw [← Int.neg_tmod,Int.tmod_eq_emod_of_nonneg (by omega)]
  exact⟨_,by rw [e];exact Int.emod_nonneg _ hn0,by rw [e];exact Int.emod_lt_of_pos _ hn,rfl,rfl⟩
 ·go_enter Tryz.func22,Tryz.ntmps22
  go_wp2
  go_ret
  exact⟨_,Int.emod_nonneg _ hn0,Int.emod_lt_of_pos _ hn,rfl,rfl⟩
