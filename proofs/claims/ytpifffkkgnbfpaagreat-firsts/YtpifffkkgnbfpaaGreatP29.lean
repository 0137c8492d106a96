import Derived.Test.YtpifffkkgnbfpaaGreatP17
import Derived.Test.YtpifffkkgnbfpaaGreatP22
import Derived.Test.YtpifffkkgnbfpaaGreatP25
set_option linter.unusedSimpArgs false
set_option linter.unusedVariables false
set_option maxRecDepth 100000
set_option maxHeartbeats 8000000
namespace Go.Proofs.YtpifffkkgnbfpaaGreat.Tree
open Go.RowKit Pages
theorem Sm (cs:List Ch):(cs.flatMap Ch.cells).length=cs.length * 3:=by
 induction cs with
 | nil=>rfl
 | cons c cs ih=>rw [List.flatMap_cons,jK,ih,jB];simp [Ch.cells];omega
theorem Ki:∀ (cs:List Ch) (i:Nat),(cs.flatMap Ch.cells).take (i * 3)=(cs.take i).flatMap Ch.cells
 | [],i=>by simp
 | c :: cs,0=>by simp
 | c :: cs,i+1=>by
  rw [List.take_succ_cons,List.flatMap_cons,List.flatMap_cons,← Ki cs i,List.take_append,List.take_of_length_le (by simp [Ch.cells];omega)]
  congr 2
  simp [Ch.cells];omega
theorem Kj:∀ (cs:List Ch) (i:Nat),(cs.flatMap Ch.cells).drop (i * 3)=(cs.drop i).flatMap Ch.cells
 | [],i=>by simp
 | c :: cs,0=>by simp
 | c :: cs,i+1=>by
  rw [List.drop_succ_cons,List.flatMap_cons,← Kj cs i,List.drop_append,List.drop_eq_nil_of_le (by simp [Ch.cells];omega),jE]
  congr 1
  simp [Ch.cells];omega
theorem qBv (cs:List Ch):∀ u∈cs.flatMap Ch.cells,u.oneCell'=true:=by
 intro u hu
 obtain⟨c,_,hc⟩:=List.mem_flatMap.1 hu
 simp [Ch.cells] at hc
 rcases hc with rfl|rfl|rfl<;>rfl
theorem qFp (cs:List Ch) (i:Nat) (c:Ch) (hi:i<cs.length):(((cs.flatMap Ch.cells).set (i * 3) (.string c.key)).set (i * 3+1) (.string c.val)).set (i * 3+2) (.bool c.gone)=(cs.set i c).flatMap Ch.cells:=by
 have hl:=Sm cs
 apply List.ext_getElem?
 intro t
 have e:cs.set i c=cs.take i++c :: cs.drop (i+1):=by rw [List.set_eq_take_append_cons_drop,if_pos hi]
 have hR:((cs.set i c).flatMap Ch.cells)[t]?=if t<i * 3 then (cs.flatMap Ch.cells)[t]? else if t<i * 3+3 then (Ch.cells c)[t-i * 3]? else (cs.flatMap Ch.cells)[t]?:=by
  rw [e,List.flatMap_append,List.flatMap_cons,← Ki,← Kj]
  have h1:((cs.flatMap Ch.cells).take (i * 3)).length=i * 3:=by rw [List.length_take];omega
  by_cases h:t<i * 3
  ·rw [if_pos h,List.getElem?_append_left (by omega),List.getElem?_take,if_pos h]
  ·rw [if_neg h,List.getElem?_append_right (by omega),h1]
   by_cases h2:t<i * 3+3
   ·rw [if_pos h2,List.getElem?_append_left (by simp [Ch.cells];omega)]
   ·rw [if_neg h2,List.getElem?_append_right (by simp [Ch.cells];omega),List.getElem?_drop]
    congr 1
    simp [Ch.cells];omega
 rw [hR]
 simp only [List.getElem?_set,List.length_set]
 by_cases h:t<i * 3
 ·rw [if_pos h,if_neg (by omega),if_neg (by omega),if_neg (by omega)]
 ·rw [if_neg h]
  by_cases h2:t<i * 3+3
  ·rw [if_pos h2]
   have:t=i * 3∨t=i * 3+1∨t=i * 3+2:=by omega
   rcases this with rfl|rfl|rfl
   ·rw [if_neg (by omega),if_neg (by omega),if_pos rfl,if_pos (by omega)];simp [Ch.cells]
   ·rw [if_neg (by omega),if_pos rfl,if_pos (by omega)];simp [Ch.cells]
   ·rw [if_pos rfl,if_pos (by omega)];simp [Ch.cells]
  ·rw [if_neg h2,if_neg (by omega),if_neg (by omega),if_neg (by omega)]
theorem Yo (v:Value) (cs:List Ch) (c:Ch) (w:World) (h:w.ownsRow 0 106 3 v cs.length (cs.flatMap Ch.cells)) (hr:cI cs) (hn:cs.length≤1000) :
  Calls Tryz.prog 70 #[v,.agg #[.string c.key,.string c.val,.bool c.gone]] w fun e w'=>∃ v',e=.returned v'∧w'.ownsRow 0 106 3 v' (bM cs c).length ((bM cs c).flatMap Ch.cells)∧Fr (fun k=>v.ownBlock=some k) w w'∧∀ k,v'.ownBlock=some k→v.ownBlock=some k∨w.heap.size≤k:=by
 obtain⟨ca,cc,rfl,hcc,hrow⟩:=cO h
 obtain⟨W1,hW1⟩:=nM (w.alloc (.cells #[.string c.key,.string c.val,.bool c.gone] 106))
 have B1:Below w.heap.size w W1:=hW1▸(bA _ _)
 have x1:W1.heap[w.heap.size]?=some (.cells #[.string c.key,.string c.val,.bool c.gone] 106):=hW1▸aA w _
 have z1:w.heap.size<W1.heap.size:=(gL x1)
 have hS:∀ k,(Value.slice ca cs.length cc).ownBlock=some k→k<w.heap.size:=fun k hk=>aX h hk
 have hSe:=mF ca cc cs c.key (fun k=>(Value.slice ca cs.length cc).ownBlock=some k) W1 (hrow.on (vV B1 hS)) (fun k hk=>jY (hS k hk) B1.size) hr (by omega) hcc
 obtain⟨c0,c1,c2⟩:=eU x1
 have HX:Hid (∀ X,Below W1.heap.size W1 X→X.ownsRow 0 106 3 (.slice ca cs.length cc) cs.length (cs.flatMap Ch.cells)∧X.heap[w.heap.size]?=some (.cells #[.string c.key,.string c.val,.bool c.gone] 106)∧Below w.heap.size w X):=by
  intro X hX
  have hb:=B1.trans (hX.mono B1.size)
  exact⟨bK h (vV hb (Y:=fun k=>(Value.slice ca cs.length cc).ownBlock=some k) hS) (fun k hk=>hk),(hX.block _ z1).trans x1,hb⟩
 by_cases hf:fnd cs c.key=true
 ·obtain⟨h0,_⟩:=uB hf hr
  have HW:Hid (bM cs c=cs.set (cS cs c.key) c):=by show _=_;unfold bM;rw [if_pos hf]
  rw [hf] at hSe
  obtain⟨i,hi⟩:=nM (cS cs c.key)
  rw [hi] at hSe h0 HW
  have hii:(i:Int)<(cs.length:Int):=by omega
  rcases iH h with⟨e1,e2,e3⟩|⟨g,c',cur,e1,hg,hnc,hcm,hcs,htake⟩
  ·omega
  simp only [Value.slice.injEq,true_and] at e1
  obtain⟨rfl,rfl⟩:=e1
  clear hi hf hrow
  go_enter Tryz.func70,Tryz.ntmps70
  go_wp2_with (go_at_call 72;(with_reducible refine jC hSe ?_);rintro e X ⟨rfl,hX⟩;obtain⟨hoX,xX,hbX⟩:=HX.out X hX;obtain⟨d0,d1,d2⟩:=eU xX;have q0:=bN hoX (i * 3) (by omega);have q1:=bN hoX (i * 3+1) (by omega);have q2:=bN hoX (i * 3+2) (by omega);obtain⟨u0,hu0⟩:=Option.isSome_iff_exists.1 q0.1;obtain⟨u1,hu1⟩:=Option.isSome_iff_exists.1 q1.1;obtain⟨u2,hu2⟩:=Option.isSome_iff_exists.1 q2.1;have f0:=q0.2;have f1:=q1.2;have f2:=q2.2;clear q0 q1 q2)
  go_ret
  have hl:=Sm cs
  have s1:=uW hoX (i * 3) (by omega) (.string c.key)
  have s2:=uW s1 (i * 3+1) (by rw [List.length_set];omega) (.string c.val)
  have s3:=uW s2 (i * 3+2) (by rw [List.length_set,List.length_set];omega) (.bool c.gone)
  rw [qFp cs i c h0] at s3
  refine⟨_,rfl,?_,?_,fun k hk=>.inl hk⟩
  ·rw [HW.out,List.length_set];exact s3
  ·exact(((Fr.of_below (Y:=fun k=>(Value.slice (some ⟨g,0,none⟩) cs.length cc).ownBlock=some k) hbX).setCell (p:=⟨g,i * 3,none⟩) (.inl rfl) _).setCell (p:=⟨g,i * 3+1,none⟩) (.inl rfl) _).setCell (p:=⟨g,i * 3+2,none⟩) (.inl rfl) _
 ·have HW:Hid (bM cs c=cs.take (cS cs c.key)++c :: cs.drop (cS cs c.key)):=by show _=_;unfold bM;rw [if_neg hf]
  have hfe:fnd cs c.key=false:=by simpa using hf
  rw [hfe] at hSe
  obtain⟨i,hi⟩:=nM (cS cs c.key)
  have hile:i≤cs.length:=hi▸pT cs c.key
  rw [hi] at hSe HW
  have hl:=Sm cs
  clear hi hf hfe hrow
  go_enter Tryz.func70,Tryz.ntmps70
  go_wp2_with (first
   | (go_at_call 72;(with_reducible refine jC hSe ?_);rintro e X ⟨rfl,hX⟩;obtain⟨hoX,xX,hbX⟩:=HX.out X hX;obtain⟨d0,d1,d2⟩:=eU xX;obtain⟨Y,hY⟩:=nM (X.alloc (.cells #[.string c.key,.string c.val,.bool c.gone] 106));have bY:Below X.heap.size X Y:=hY▸(bA _ _);have yY:Y.heap[X.heap.size]?=some (.cells (Ch.cells c).toArray 106):=hY▸aA X _;have hoY:Y.ownsRow 0 106 3 (.slice ca cs.length cc) cs.length (cs.flatMap Ch.cells):=bK hoX (vV bY (Y:=fun k=>(Value.slice ca cs.length cc).ownBlock=some k) (fun k hk=>aX hoX hk)) (fun k hk=>hk);have hIn:=Rl (.slice ca cs.length cc) cs.length i X.heap.size (cs.flatMap Ch.cells) (Ch.cells c) Y hoY (qBv cs) rfl yY (fun u hu=>qBv [c] u (by simpa using hu)) (fun e=>by have h1:=aX hoX e;omega) (by omega) hile)
   | (go_at_call 100;(try rw [hY]);(with_reducible refine jC hIn ?_);rintro e Z ⟨v',rfl,hoZ,hFZ,hli⟩))
  go_ret
  refine⟨_,rfl,?_,((Fr.of_below hbX).trans (Fr.of_below bY)).trans hFZ,fun k hk=>(hli k hk).imp id (fun h=>by have h1:=hbX.size;have h2:=bY.size;omega)⟩
  rw [HW.out,jK,jB,List.length_take,List.length_drop,List.flatMap_append,List.flatMap_cons,← Ki,← Kj,← List.append_assoc]
  rw [show min i cs.length+(cs.length-i+1)=cs.length+1 by omega]
  exact hoZ
