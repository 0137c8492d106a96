/-
  Joined: KFile, KeptW, OpenN, FirstsW, FrozenW.
-/
import Derived.Test.YtngpplmndpmgiaaGreatZ52
import Derived.Test.YtngpplmndpmgiaaGreatZ53
import Derived.Test.YtngpplmndpmgiaaGreatZ25
import Derived.Test.YtngpplmndpmgiaaGreatZ16
set_option maxHeartbeats 8000000
namespace Go.Proofs.YtngpplmndpmgiaaGreat.Tree
open Go.RowKit Go.Proofs.YtngpplmndpmgiaaGreat.Pages
set_option linter.unusedSimpArgs false
set_option linter.unusedVariables false
theorem fresh_k {n:Nat} (hn:40≤n) (hn2:n≤4096) (w:World) :
  Calls Tryz.prog 8 #[.int .i64 (n:Nat)] w fun e w'=>∃ d b,e=.returned (.tuple #[.pointer (some ⟨d,0,none⟩),.pointer (some ⟨b,0,none⟩)])∧SkL keyL n (fun k=>k<w.heap.size) w w' d b 0 0 none none:=by
 refine(fresh_st (K:=keyL) hn hn2 w).mono ?_
 rintro e w' ⟨D,rfl,h,hi⟩
 exact⟨_,_,rfl,D,⟨h.db,h.well,h.failed,h.ver,h.root,h.aroot,h.last0,h.last1,h.store,fun k hk hp=>by have:=h.new k hk;omega,On.of_below h.below (fun k hk=>hk),fun k hk=>hk⟩,hi,rfl,rfl⟩
theorem partL_mem {raw:List Int} {i size:Nat} {x:Int} (h:x∈partL raw i size):x∈raw:=List.mem_of_mem_drop (List.mem_of_mem_take h)
structure NumsAt (w:World) (B:Nat) (ra:Option Addr) (rc:Nat) (raw:List Int):Prop where
 row:RowAt w B ra (raw.map (.int .i64))
 cap:raw.length≤rc
 some':rc=0∨∃ b off,ra=some ⟨b,off,none⟩
 big:rc≤9223372036854775807
 i64:∀ x∈raw,-9223372036854775808≤x∧x≤9223372036854775807
theorem NumsAt.on {w w':World} {B:Nat} {ra:Option Addr} {rc:Nat} {raw:List Int} (h:NumsAt w B ra rc raw) (ho:On (fun k=>k<B) w w'):NumsAt w' B ra rc raw:=⟨RowAt.onK h.row ho (fun k hk=>hk),h.cap,h.some',h.big,h.i64⟩
theorem part_n {w:World} {B:Nat} {ra:Option Addr} {rc:Nat} {raw:List Int} (h:NumsAt w B ra rc raw) (i size:Nat) (hi:i≤1000) (hs:size≤1000) :
  Calls Tryz.prog 10 #[.slice ra raw.length rc,.int .i64 (i:Nat),.int .i64 (size:Nat)] w fun e w'=>∃ ra' rc',e=.returned (.slice ra' (partL raw i size).length rc')∧RowAt w B ra' ((partL raw i size).map (.int .i64))∧w'=w :=
 part_any ra rc raw i size B w h.row h.cap h.some' hi hs (Nat.le_trans h.cap h.big) h.big
end Go.Proofs.YtngpplmndpmgiaaGreat.Tree
namespace Go.Proofs.YtngpplmndpmgiaaGreat.Tree
open Go.RowKit Go.ChangeShapes Go.WideShapes Go.ChangeAt Go.Proofs.YtngpplmndpmgiaaGreat.Pages
set_option linter.unusedSimpArgs false
set_option linter.unusedVariables false
set_option maxRecDepth 100000 in
theorem open_numsAt {H:Type} {enc:TypeId×Value→H} {W:World} {base:Nat} {v:Value} {d:DataW H} {p:List MemPlace} (hv:Value.okWide Tryz.prog W .any base 22 v) (h:DataW.Trod enc Tryz.prog W 0 (fun _=>true) true 22 v d p) :
  ∃ (a:Option Addr) (c:Nat) (ns:List Int),v=.slice a ns.length c∧NumsAt W W.heap.size a c ns:=by
 have hm63:maxLen≤9223372036854775807:=by decide +kernel
 obtain⟨a0,len0,cap0,rfl⟩:=okWide_slice Tryz.underlying22 hv
 obtain⟨fuel,hf⟩:=h
 rcases Go.ChangeShapes.open_ints Tryz.underlying22 Tryz.underlying3 cells3' hf with⟨hcs,hx⟩|⟨a,len,cap,ss,hcs,_,hl,hm,hz,hx,hcell,hws⟩
 ·simp [Value.cells] at hcs
  obtain⟨rfl,rfl,rfl⟩:=hcs
  exact⟨none,0,[],rfl,.inl rfl,Nat.zero_le _,.inl rfl,by omega,by simp⟩
 ·have hlen:(ss.take len).length=len:=by simp at hz ⊢;omega
  simp [Value.cells] at hcs
  obtain⟨rfl,rfl,rfl⟩:=hcs
  have hrow:RowAt W W.heap.size (some a) ((ss.take len0).map (Value.int .i64)):=row_of3 fun i u hu=>by
   simp only [List.getElem?_map,Option.map_eq_some_iff] at hu
   obtain⟨s,hs,rfl⟩:=hu
   rw [List.getElem?_take] at hs
   split at hs
   ·have hi:=(List.getElem?_eq_some_iff.1 hs).1
    rw [hcell i hi]
    simp [List.getD,hs]
   ·cases hs
  have hspot:(0<cap0)→∃ b off,a=⟨b,off,none⟩:=fun hc0=>by
   simp only [if_true] at hz
   have h0:=hcell 0 (by omega)
   obtain⟨b,off,spot⟩:=a
   have hs:spot=none:=by simpa [Addr.add] using World.cell?_spot h0
   exact⟨b,off,by rw [hs]⟩
  refine⟨some a,cap0,ss.take len0,by rw [hlen],hrow,by rw [hlen];exact hl,?_,Nat.le_trans hm hm63,fun x hx=>i64_of3 (hws x (List.mem_of_mem_take hx))⟩
  rcases Nat.eq_zero_or_pos cap0 with h0|h0
  ·exact .inl h0
  ·obtain⟨b,off,rfl⟩:=hspot h0
   exact .inr ⟨b,off,rfl⟩
end Go.Proofs.YtngpplmndpmgiaaGreat.Tree
namespace Go.Proofs.YtngpplmndpmgiaaGreat.Tree
open Go.RowKit Go.Proofs.YtngpplmndpmgiaaGreat.Pages
set_option linter.unusedSimpArgs false
set_option linter.unusedVariables false
theorem wp_book_g {ops:Array Oper} {rest:List Oper} {op:Oper} {a:Act} {w:World} {Q:Exit→Act→World→Prop} (hw:Region.wanted op (yielded ops a.tmps)=true) (x:Operand) (ho:op.op=.load 30 x) (q:Nat) (hx:a.eval x=.pointer (some ⟨q,0,none⟩)) {th:List Bool} {vs:List ByteArray} (hb:BookAt w q th vs)
  (h:wpList Tryz.prog ops Q rest (a.put op.dst (.agg (bookC th vs))) w):wpList Tryz.prog ops Q (op :: rest) a w:=by
 obtain⟨d,h1,h2⟩:=bookRow
 simp only [wpList,hw,if_true]
 exact .inl (wp_load_mid _ x ho q 0 hx (bookC th vs).toList d hb.range h1 h2 (by rw [infoBook,Array.length_toList,bookC_size hb.lt hb.lv]) (by simpa using h))
theorem SkL.g {K:List ByteArray} {n:Nat} {Kp:Bl} {w wq:World} {d b j m:Nat} {o ao:Option (Nat×T)} (h:SkL K n Kp w wq d b j m o ao):∃ z:Int,0≤z∧z≤(m:Nat)∧SkG K n Kp w wq d b j m z o ao []:=by
 obtain⟨D,h,hi,rfl,rfl⟩:=h
 exact⟨D.last,h.last0,h.last1,D,h,⟨by rw [hi];rfl,fun i hi' _=>by rw [hi] at hi';simp at hi',.nil,by simp⟩,rfl,rfl,rfl⟩
structure FrozSt (Kp:Bl) (wq:World) (d b j m:Nat) (z:Int) (o ao:Option (Nat×T)) (u:Ut) (q r:Nat) (th:List Bool) (vs:List ByteArray) (ths:List Bool) (vss:List ByteArray) (x:Int) (write:Bool) (oh:Option (Nat×T)):Prop where
 st:SkG keyL 600 Kp wq wq d b j m z o ao [u]
 x:u.x=x
 wr:u.wr=write
 ot:u.ot=oh
 ok:CsOk keyL u.cs
 bq:BookAt wq q th vs
 tq:Told (oents o) th vs
 br:BookAt wq r ths vss
 tr:Told (overE (oents oh) u.cs) ths vss
theorem FrozSt.grow {Kp:Bl} {wq w':World} {d b j m j' m':Nat} {z z':Int} {o ao o' ao':Option (Nat×T)} {u:Ut} {q r:Nat} {th th':List Bool} {vs vs':List ByteArray} {ths:List Bool} {vss:List ByteArray} {x:Int} {write:Bool} {oh:Option (Nat×T)} (h:FrozSt Kp wq d b j m z o ao u q r th vs ths vss x write oh) {us':List Ut} (hB:BookG 600 Kp w' d b j' m' z' o' ao' us' q th' vs') (hS:SameU [u] us') (hO:On (fun k=>Kp k∧k≠q) wq w') (hr:Kp r) (hn:r≠q):∃ u',FrozSt Kp w' d b j' m' z' o' ao' u' q r th' vs' ths vss x write oh∧u'.cs=u.cs:=by
 obtain⟨f,hf,rfl⟩:=hS
 obtain⟨f1,f2,f3,f4⟩:=hf u
 exact⟨f u,⟨hB.st,f1.trans h.x,f2.trans h.wr,f3.trans h.ot,by rw [f4];exact h.ok,hB.book,hB.told,h.br.on hO ⟨hr,hn⟩,by rw [f4];exact h.tr⟩,f4⟩
theorem FrozSt.deed {Kp:Bl} {wq:World} {d b j m:Nat} {z:Int} {o ao:Option (Nat×T)} {u:Ut} {q r:Nat} {th:List Bool} {vs:List ByteArray} {ths:List Bool} {vss:List ByteArray} {x:Int} {oh:Option (Nat×T)} (h:FrozSt Kp wq d b j m z o ao u q r th vs ths vss x true oh) (hr:Kp r) (hq:Kp q) (hn:r≠q) (c:Int) (h0 : -9223372036854775808≤c) (h1:c≤9223372036854775807) (hl:u.cs.length<100) :
  Calls Tryz.prog 17 #[.pointer (some ⟨d,0,none⟩),.int .i64 x,.pointer (some ⟨r,0,none⟩),.int .i64 c] wq fun e w'=>e=.returned (.bool true)∧∃ u' ths' vss',FrozSt Kp w' d b j m z o ao u' q r th vs ths' vss' x true oh∧u'.cs.length≤u.cs.length+1∧On (fun k=>Kp k∧k≠r) wq w':=by
 have hD:DeedG 600 Kp wq d b j m z o ao [u] 0 u r ths vss:=⟨h.st,rfl,by simp,h.wr,h.ok,h.br,hr,by rw [h.ot];exact h.tr⟩
 have:=deed_g hD c h0 h1 hl
 rw [h.x] at this
 refine this.mono ?_
 rintro e w' ⟨rfl,us',u',ths',vss',hD',rfl,hx,ho,hk,hle,hO⟩
 exact⟨rfl,u',ths',vss',⟨hD'.st,hx.trans h.x,hD'.wr,ho.trans h.ot,hD'.ok,h.bq.on hO ⟨hq,Ne.symm hn⟩,h.tq,hD'.book,by rw [← h.ot,← ho];exact hD'.told⟩,hle,hO⟩
theorem FrozSt.sees {Kp:Bl} {wq:World} {d b j m:Nat} {z:Int} {o ao:Option (Nat×T)} {u:Ut} {q r:Nat} {th:List Bool} {vs:List ByteArray} {ths:List Bool} {vss:List ByteArray} {x:Int} {write:Bool} {oh:Option (Nat×T)} (h:FrozSt Kp wq d b j m z o ao u q r th vs ths vss x write oh) :
  Calls Tryz.prog 18 #[.pointer (some ⟨d,0,none⟩),.int .i64 x,.agg (bookC ths vss)] wq fun e w'=>e=.returned (.bool true)∧SkG keyL 600 Kp wq w' d b j m z o ao [u]:=by
 have:=sees_g h.st (i:=0) rfl (by simp) h.ok ths vss (by rw [h.ot];exact h.tr)
 rw [h.x] at this
 exact this
theorem FrozSt.to {Kp:Bl} {wq w':World} {d b j m m':Nat} {z z':Int} {o ao:Option (Nat×T)} {u:Ut} {q r:Nat} {th:List Bool} {vs:List ByteArray} {ths:List Bool} {vss:List ByteArray} {x:Int} {write:Bool} {oh:Option (Nat×T)} (h:FrozSt Kp wq d b j m z o ao u q r th vs ths vss x write oh) (hS:SkG keyL 600 Kp wq w' d b j m' z' o ao [u]) (hr:Kp r) (hq:Kp q):FrozSt Kp w' d b j m' z' o ao u q r th vs ths vss x write oh :=
 ⟨hS.now,h.x,h.wr,h.ot,h.ok,h.bq.on hS.kept hq,h.tq,h.br.on hS.kept hr,h.tr⟩
theorem sameU_nil {us:List Ut} (h:SameU [] us):us=[]:=by
 obtain⟨f,_,rfl⟩:=h;rfl
set_option maxRecDepth 100000 in
theorem frozen_walk (ra ka:Option Addr) (rc kc:Nat) (raw mine:List Int) (write:Bool) (w:World) (hR:NumsAt w w.heap.size ra rc raw) (hK:NumsAt w w.heap.size ka kc mine) :
  Calls Tryz.prog 4 #[.slice ra raw.length rc,.slice ka mine.length kc,.bool write] w fun e w'=>e=.returned (.bool true)∧Below w.heap.size w w':=by
 have hFr:=fresh_k (n:=600) (by omega) (by omega) w
 have HR:Hid (NumsAt w w.heap.size ra rc raw):=hR
 have HK:Hid (NumsAt w w.heap.size ka kc mine):=hK
 have hkc:mine.length≤9223372036854775807:=Nat.le_trans hK.cap hK.big
 clear hR hK
 go_enter Tryz.func4,Tryz.ntmps4
 go_wp2_with (first
  | (go_at_call 8;(with_reducible refine Calls.mono hFr ?_);rintro e X0 ⟨d,b,rfl,hL0⟩;obtain⟨z0,hz0,hz1,hG0⟩:=(hL0.make zeroBook).g;have HB0:Hid (BookG 600 (Bl.or (fun k=>k<w.heap.size) (Bl.one X0.heap.size)) (X0.alloc zeroBook) d b 0 0 z0 none none [] X0.heap.size (List.replicate 12 false) (List.replicate 12 ⟨#[]⟩)):=⟨hG0,book_zero X0,.inr rfl,told_none⟩;have HO0:Hid (On (fun k=>k<w.heap.size) w (X0.alloc zeroBook)):=hL0.kept.alloc (fun k hk=>Nat.lt_of_lt_of_le hk hL0.kept.size) _;have HQ:Hid (w.heap.size≤X0.heap.size):=hL0.kept.size;have hP0:=part_n (HR.out.on HO0.out) 0 8 (by omega) (by omega);rw [show ((8:Nat):Int)=8 from rfl,show ((0:Nat):Int)=0 from rfl] at hP0;clear hFr hG0)
  | (go_at_call 10;(with_reducible refine Calls.mono hP0 ?_);rintro e X ⟨ra1,rc1,rfl,hR1,hX⟩;subst X;have hCm:=commit_g (kOk (n:=600) (by omega) (by omega)) HB0.out (by simp) (by simp) (by omega) (by omega) ra1 rc1 (partL raw 0 8) w.heap.size hR1 (fun i hi=>⟨.inl hi,fun e=>by have:=HQ.out;omega⟩) (fun x hx=>HR.out.i64 x (partL_mem hx));clear hP0)
  | (go_at_call 9;(with_reducible refine Calls.mono hCm ?_);rintro e X1 ⟨rfl,j1,o1,ao1,us1,th,vs,hB1,hSm,hj1,hO1⟩;obtain rfl:=sameU_nil hSm;have hBg:=begin_g hB1.st write (by omega) (by simp);clear hCm hSm)
  | (go_at_call 16;(with_reducible refine Calls.mono hBg ?_);rintro e X2 ⟨rfl,hG2⟩;have x2:BookAt X2 X0.heap.size th vs:=hB1.book.on hG2.kept (.inr rfl);have xz:=book_zero X2;clear hBg)
  | (refine wp_book rfl (.tmp 9) rfl X0.heap.size rfl x2 ?_)
  | (refine wp_bookst rfl (.tmp 13) (.tmp 43) rfl X2.heap.size rfl rfl xz x2.lt x2.lv ?_;intro X3 hB3 hF3))
 have hz2:X1.heap.size≤X2.heap.size:=hG2.kept.size
 have hq1:X0.heap.size<X1.heap.size:=(Array.getElem?_eq_some_iff.1 hB1.book.box).1
 have bA:Below X2.heap.size X2 (X2.alloc zeroBook):=(Below.refl _ _).alloc (Nat.le_refl _) _
 have o23:∀ {Y:Bl},(∀ k,Y k→k<X2.heap.size)→On Y X2 X3:=fun hY=>(On.of_below bA hY).trans (hF3.on (fun k hk=>⟨Nat.lt_of_lt_of_le (hY k hk) bA.size,fun e=>by simp only [Bl.one] at e;have:=hY k hk;omega⟩))
 have HZ3:Hid (FrozSt (Bl.or (Bl.or (fun k=>k<w.heap.size) (Bl.one X0.heap.size)) (Bl.one X2.heap.size)) X3 d b j1 (0+1+1) (z0+1+1) o1 ao1 ⟨z0+1+1,write,o1,[],fun _=>False⟩ X0.heap.size X2.heap.size th vs th vs (z0+1+1) write o1):=⟨(hG2.make zeroBook).touch hF3 (.inr rfl),rfl,rfl,rfl,csOk_nil keyL,x2.on (o23 (Y:=Bl.one X0.heap.size) (fun k hk=>by simp only [Bl.one] at hk;omega)) rfl,hB1.told,hB3,by show Told (overE (oents o1) []) th vs;rw [over_none hB1.told.rise];exact hB1.told⟩
 have HO3:Hid (On (fun k=>k<w.heap.size) w X3):=((HO0.out.trans (hO1.mono (fun i hi=>⟨.inl hi,fun e=>by have:=HQ.out;omega⟩))).trans (hG2.kept.mono (fun i hi=>.inl hi))).trans (o23 (fun i hi=>by have:=HQ.out;have:i<w.heap.size:=hi;omega))
 obtain⟨q,hq⟩:∃ q,X0.heap.size=q:=⟨_,rfl⟩
 obtain⟨r,hr⟩:∃ r,X2.heap.size=r:=⟨_,rfl⟩
 obtain⟨x,hx⟩:∃ x,z0+1+1=x:=⟨_,rfl⟩
 have hrq:r≠q:=by omega
 have hHQ:=HQ.out
 have HWQ:Hid (w.heap.size≤q∧w.heap.size≤r):=⟨by omega,by omega⟩
 have HRQ:Hid (r≠q):=hrq
 rw [hq,hr,hx] at HZ3 ⊢
 have HJ1:Hid (j1≤0+1):=hj1
 clear hG2 x2 xz hB3 hF3 bA o23 hB1 hO1 HB0 HO0 HQ hL0 hz2 hq1 hq hr hrq hx hj1 hz0 hz1 hR1 hHQ
 go_loopw [14] (fun i wr=>∃ (k j m:Nat) (z:Int) (o ao:Option (Nat×T)) (u:Ut) (th:List Bool) (vs:List ByteArray) (ths:List Bool) (vss:List ByteArray),i=.int .i64 ((k:Int)+1)∧k≤5∧Hid (j≤k+1∧m≤2 * k+2∧u.cs.length≤k)∧Hid (FrozSt (Bl.or (Bl.or (fun k=>k<w.heap.size) (Bl.one q)) (Bl.one r)) wr d b j m z o ao u q r th vs ths vss x write o1)∧Hid (On (fun k=>k<w.heap.size) w wr)) (fun i _=>7-(intOf i).toNat)
 case atStart=>exact⟨0,j1,0+1+1,_,o1,ao1,_,th,vs,th,vs,rfl,by omega,⟨by have:=HJ1.out;omega,by omega,by simp⟩,HZ3,HO3⟩
 case round =>
  obtain⟨k,j,m,z,o,ao,u,th,vs,ths,vss,rfl,hk5,HM,HZ,HO⟩:=hrel
  clear HZ3 HO3 HJ1
  have hw8:IntKind.i64.wrap (8 * ((k:Int)+1))=8 * ((k:Int)+1):=by rw [IntKind.wrap_i64];omega
  have hwk:IntKind.i64.wrap (k:Int)=(k:Int):=by rw [IntKind.wrap_i64];omega
  have hwk1:IntKind.i64.wrap ((k:Int)+1-1)=(k:Int):=by rw [IntKind.wrap_i64];omega
  by_cases hlt:k<5∧8 * (k+1)≤raw.length
  ·have hki:(k:Int)+1<6:=by omega
   have h8i:8 * ((k:Int)+1)≤(raw.length:Int):=by omega
   have hP1:=part_n (HR.out.on HO.out) (k+1) 8 (by omega) (by omega)
   rw [show ((8:Nat):Int)=8 from rfl,show ((k+1:Nat):Int)=(k:Int)+1 by simp] at hP1
   cases write with
   | false =>
    go_wp2_with (first
     | (go_at_call 10;(with_reducible refine Calls.mono hP1 ?_);rintro e X ⟨ra1,rc1,rfl,hR1,hX⟩;subst X;have hCm:=commit_g (kOk (n:=600) (by omega) (by omega)) (⟨HZ.out.st,HZ.out.bq,.inl (.inr rfl),HZ.out.tq⟩:BookG 600 (Bl.or (Bl.or (fun k=>k<w.heap.size) (Bl.one q)) (Bl.one r)) wr d b j m z o ao [u] q th vs) (by simp) (by show (1+3) * (1+3 * 12)+2≤600;omega) (by have:=HM.out;omega) (by have:=HM.out;omega) ra1 rc1 (partL raw (k+1) 8) w.heap.size hR1 (fun i hi=>⟨.inl (.inl hi),fun e=>by have:=HWQ.out;omega⟩) (fun y hy=>HR.out.i64 y (partL_mem hy));clear hP1)
     | (go_at_call 9;(with_reducible refine Calls.mono hCm ?_);rintro e X5 ⟨rfl,j5,o5,ao5,us5,th5,vs5,hB5,hSm,hj5,hO5⟩;obtain⟨u5,hZ5,hcs5⟩:=HZ.out.grow hB5 hSm hO5 (.inr rfl) HRQ.out;have HL5:Hid (u5.cs.length≤k):=(by show _≤_;rw [hcs5];exact HM.out.2.2);have HO5:Hid (On (fun k=>k<w.heap.size) w X5):=HO.out.trans (hO5.mono (fun i hi=>⟨.inl (.inl hi),fun e=>by have:=HWQ.out;have:i<w.heap.size:=hi;omega⟩));have hSe:=hZ5.sees;have xr:=hZ5.br;clear hCm hB5 hSm hcs5 hO5)
     | (refine wp_book rfl (.tmp 13) rfl r rfl xr ?_)
     | (go_at_call 18;(with_reducible refine Calls.mono hSe ?_);rintro e X7 ⟨rfl,hS7⟩;have hZ7:=hZ5.to hS7 (.inr rfl) (.inl (.inr rfl));have HO7:Hid (On (fun k=>k<w.heap.size) w X7):=HO5.out.trans (hS7.kept.mono (fun i hi=>.inl (.inl hi)));have hSh:=shows_g hZ7.st (by simp) th5 vs5 hZ7.tq (by have:=HM.out;omega);have xq:=hZ7.bq;clear hSe hS7)
     | (refine wp_book rfl (.tmp 9) rfl q rfl xq ?_)
     | (go_at_call 11;(with_reducible refine Calls.mono hSh ?_);rintro e X8 ⟨rfl,hS8⟩;have hZ8:=hZ7.to hS8 (.inr rfl) (.inl (.inr rfl));have HO8:Hid (On (fun k=>k<w.heap.size) w X8):=HO7.out.trans (hS8.kept.mono (fun i hi=>.inl (.inl hi)));clear hSh hS8))
    exact⟨⟨k+1,j5,m+1+1,_,o5,ao5,u5,th5,vs5,ths,vss,by go_num,by omega,⟨by have:=HM.out;omega,by have:=HM.out;omega,by have:=HL5.out;omega⟩,hZ8,HO8⟩,by simp [intOf];omega⟩
   | true =>
    by_cases hmi:k<mine.length
    ·have hmii:(k:Int)<(mine.length:Int):=by omega
     obtain⟨y,hy⟩:∃ y,mine[k]'hmi=y:=⟨_,rfl⟩
     have hyr:=HK.out.i64 y (hy▸List.getElem_mem hmi)
     obtain⟨rb,off,rfl,HCL⟩:∃ rb off,ka=some ⟨rb,off,none⟩∧Hid (∀ X,On (fun k=>k<w.heap.size) w X→X.cell? ⟨rb,off+k,none⟩=some (.int .i64 y)):=by
      rcases HK.out.row with h0|⟨rb,off,rfl,hrb,hRc⟩
      ·have:=congrArg List.length h0
       simp at this
       rw [this] at hmi
       simp at hmi
      ·refine⟨rb,off,rfl,fun X hX=>?_⟩
       rcases RowAt.onK HK.out.row hX (fun k hk=>hk) with h0|⟨rb',off',he,_,hRc'⟩
       ·have:=congrArg List.length h0
        simp at this
        rw [this] at hmi
        simp at hmi
       ·simp only [Option.some.injEq,Addr.mk.injEq,and_true] at he
        obtain⟨rfl,rfl⟩:=he
        exact hRc' k _ (by rw [List.getElem?_map,List.getElem?_eq_getElem hmi,hy];rfl)
     clear hy
     go_wp2_with (first
      | (go_at_call 10;(with_reducible refine Calls.mono hP1 ?_);rintro e X ⟨ra1,rc1,rfl,hR1,hX⟩;subst X;have hCm:=commit_g (kOk (n:=600) (by omega) (by omega)) (⟨HZ.out.st,HZ.out.bq,.inl (.inr rfl),HZ.out.tq⟩:BookG 600 (Bl.or (Bl.or (fun k=>k<w.heap.size) (Bl.one q)) (Bl.one r)) wr d b j m z o ao [u] q th vs) (by simp) (by show (1+3) * (1+3 * 12)+2≤600;omega) (by have:=HM.out;omega) (by have:=HM.out;omega) ra1 rc1 (partL raw (k+1) 8) w.heap.size hR1 (fun i hi=>⟨.inl (.inl hi),fun e=>by have:=HWQ.out;omega⟩) (fun y hy=>HR.out.i64 y (partL_mem hy));clear hP1)
      | (go_at_call 9;(with_reducible refine Calls.mono hCm ?_);rintro e X5 ⟨rfl,j5,o5,ao5,us5,th5,vs5,hB5,hSm,hj5,hO5⟩;obtain⟨u5,hZ5,hcs5⟩:=HZ.out.grow hB5 hSm hO5 (.inr rfl) HRQ.out;have HL5:Hid (u5.cs.length≤k):=(by show _≤_;rw [hcs5];exact HM.out.2.2);have HO5:Hid (On (fun k=>k<w.heap.size) w X5):=HO.out.trans (hO5.mono (fun i hi=>⟨.inl (.inl hi),fun e=>by have:=HWQ.out;have:i<w.heap.size:=hi;omega⟩));have hDe:=hZ5.deed (.inr rfl) (.inl (.inr rfl)) HRQ.out y hyr.1 hyr.2 (by have:=HL5.out;omega);have hcell:X5.cell? ⟨rb,off+k,none⟩=some (.int .i64 y):=HCL.out X5 HO5.out;clear hCm hB5 hSm hcs5 hO5)
      | (go_at_call 17;(with_reducible refine Calls.mono hDe ?_);rintro e X6 ⟨rfl,u6,ths6,vss6,hZ6,hl6,hO6⟩;have HL6:Hid (u6.cs.length≤k+1):=(by have:=HL5.out;show _≤_;omega);have HO6:Hid (On (fun k=>k<w.heap.size) w X6):=HO5.out.trans (hO6.mono (fun i hi=>⟨.inl (.inl hi),fun e=>by have:=HWQ.out;have:i<w.heap.size:=hi;omega⟩));have hSe:=hZ6.sees;have xr:=hZ6.br;clear hDe hl6 hO6)
      | (refine wp_book rfl (.tmp 13) rfl r rfl xr ?_)
      | (go_at_call 18;(with_reducible refine Calls.mono hSe ?_);rintro e X7 ⟨rfl,hS7⟩;have hZ7:=hZ6.to hS7 (.inr rfl) (.inl (.inr rfl));have HO7:Hid (On (fun k=>k<w.heap.size) w X7):=HO6.out.trans (hS7.kept.mono (fun i hi=>.inl (.inl hi)));have hSh:=shows_g hZ7.st (by simp) th5 vs5 hZ7.tq (by have:=HM.out;omega);have xq:=hZ7.bq;clear hSe hS7)
      | (refine wp_book rfl (.tmp 9) rfl q rfl xq ?_)
      | (go_at_call 11;(with_reducible refine Calls.mono hSh ?_);rintro e X8 ⟨rfl,hS8⟩;have hZ8:=hZ7.to hS8 (.inr rfl) (.inl (.inr rfl));have HO8:Hid (On (fun k=>k<w.heap.size) w X8):=HO7.out.trans (hS8.kept.mono (fun i hi=>.inl (.inl hi)));clear hSh hS8))
     exact⟨⟨k+1,j5,m+1+1,_,o5,ao5,u6,th5,vs5,ths6,vss6,by go_num,by omega,⟨by have:=HM.out;omega,by have:=HM.out;omega,by have:=HL6.out;omega⟩,hZ8,HO8⟩,by simp [intOf];omega⟩
    ·have hmii:¬ ((k:Int)<(mine.length:Int)):=by omega
     go_wp2_with (first
      | (go_at_call 10;(with_reducible refine Calls.mono hP1 ?_);rintro e X ⟨ra1,rc1,rfl,hR1,hX⟩;subst X;have hCm:=commit_g (kOk (n:=600) (by omega) (by omega)) (⟨HZ.out.st,HZ.out.bq,.inl (.inr rfl),HZ.out.tq⟩:BookG 600 (Bl.or (Bl.or (fun k=>k<w.heap.size) (Bl.one q)) (Bl.one r)) wr d b j m z o ao [u] q th vs) (by simp) (by show (1+3) * (1+3 * 12)+2≤600;omega) (by have:=HM.out;omega) (by have:=HM.out;omega) ra1 rc1 (partL raw (k+1) 8) w.heap.size hR1 (fun i hi=>⟨.inl (.inl hi),fun e=>by have:=HWQ.out;omega⟩) (fun y hy=>HR.out.i64 y (partL_mem hy));clear hP1)
      | (go_at_call 9;(with_reducible refine Calls.mono hCm ?_);rintro e X5 ⟨rfl,j5,o5,ao5,us5,th5,vs5,hB5,hSm,hj5,hO5⟩;obtain⟨u5,hZ5,hcs5⟩:=HZ.out.grow hB5 hSm hO5 (.inr rfl) HRQ.out;have HL5:Hid (u5.cs.length≤k):=(by show _≤_;rw [hcs5];exact HM.out.2.2);have HO5:Hid (On (fun k=>k<w.heap.size) w X5):=HO.out.trans (hO5.mono (fun i hi=>⟨.inl (.inl hi),fun e=>by have:=HWQ.out;have:i<w.heap.size:=hi;omega⟩));have hSe:=hZ5.sees;have xr:=hZ5.br;clear hCm hB5 hSm hcs5 hO5)
      | (refine wp_book rfl (.tmp 13) rfl r rfl xr ?_)
      | (go_at_call 18;(with_reducible refine Calls.mono hSe ?_);rintro e X7 ⟨rfl,hS7⟩;have hZ7:=hZ5.to hS7 (.inr rfl) (.inl (.inr rfl));have HO7:Hid (On (fun k=>k<w.heap.size) w X7):=HO5.out.trans (hS7.kept.mono (fun i hi=>.inl (.inl hi)));have hSh:=shows_g hZ7.st (by simp) th5 vs5 hZ7.tq (by have:=HM.out;omega);have xq:=hZ7.bq;clear hSe hS7)
      | (refine wp_book rfl (.tmp 9) rfl q rfl xq ?_)
      | (go_at_call 11;(with_reducible refine Calls.mono hSh ?_);rintro e X8 ⟨rfl,hS8⟩;have hZ8:=hZ7.to hS8 (.inr rfl) (.inl (.inr rfl));have HO8:Hid (On (fun k=>k<w.heap.size) w X8):=HO7.out.trans (hS8.kept.mono (fun i hi=>.inl (.inl hi)));clear hSh hS8))
     exact⟨⟨k+1,j5,m+1+1,_,o5,ao5,u5,th5,vs5,ths,vss,by go_num,by omega,⟨by have:=HM.out;omega,by have:=HM.out;omega,by have:=HL5.out;omega⟩,hZ8,HO8⟩,by simp [intOf];omega⟩
  ·have hAb:=abort_g HZ.out.st (i:=0) rfl (by simp)
   rw [HZ.out.x] at hAb
   rcases (by omega:5≤k∨(k<5∧raw.length<8 * (k+1))) with hx|hx
   all_goals
    have hx1:(6:Int)≤(k:Int)+1∨((k:Int)+1<6∧(raw.length:Int)<8 * ((k:Int)+1)):=by omega
    go_wp2_with (first
     | (go_at_call 19;(with_reducible refine Calls.mono hAb ?_);rintro e X5 ⟨rfl,hG5⟩;have hAc:=abort_no hG5 x;clear hAb)
     | (go_at_call 19;(with_reducible refine Calls.mono hAc ?_);rintro e X6 ⟨rfl,hG6⟩;have xq:BookAt X6 q th vs:=HZ.out.bq.on hG6.kept (.inl (.inr rfl));have hSh:=shows_g hG6 (by simp) th vs HZ.out.tq (by have:=HM.out;omega);clear hAc)
     | (refine wp_book_g (by rfl) (.tmp 9) rfl q rfl xq ?_)
     | (go_at_call 11;(with_reducible refine Calls.mono hSh ?_);rintro e X7 ⟨rfl,hS7⟩;clear hSh))
    go_ret
    have OF:On (fun k=>k<w.heap.size) w X7:=HO.out.trans (hS7.kept.mono (fun i hi=>.inl (.inl hi)))
    exact⟨rfl,OF.os,OF.tape,OF.output,OF.size,OF.block⟩
end Go.Proofs.YtngpplmndpmgiaaGreat.Tree
