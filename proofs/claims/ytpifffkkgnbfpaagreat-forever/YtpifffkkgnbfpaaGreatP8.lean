import Derived.BigQuiet
import Derived.Test.YtpifffkkgnbfpaaGreatP7
set_option linter.unusedSimpArgs false
set_option linter.unusedVariables false
set_option maxHeartbeats 8000000
namespace Go.Proofs.YtpifffkkgnbfpaaGreat.Pages
open Go.RowKit
variable {a b:Value} {e:TypeId} {j β ρ:Nat} {w:World} {α:Type}
theorem bT {a b:Bool} (h:a=b):Ending.returned (.bool a)=.returned (.bool b):=by rw [h]
def aS (n:Int):Bool:=decide (2≤n)&&decide (n<4096)
theorem kY (n:Int) (w:World) :
  Calls Tryz.prog 169 #[.int .i64 n] w fun e w'=>e=.returned (.bool (aS n))∧w'=w:=by
 go_enter Tryz.func169,Tryz.ntmps169
 go_wp2
 all_goals go_ret
 all_goals refine⟨bT ?_,rfl⟩
 all_goals (rw [Bool.eq_iff_iff];simp only [aS,Bool.and_eq_true,decide_eq_true_eq,Bool.false_eq_true,false_iff];omega)
def gP (last key:ByteArray):Bool:=Op.bytesLess last.toList key.toList&&decide (key.size≤24)
theorem kZ (last key:ByteArray) (w:World) :
  Calls Tryz.prog 170 #[.string last,.string key] w fun e w'=>e=.returned (.bool (gP last key))∧w'=w:=by
 go_enter Tryz.func170,Tryz.ntmps170
 go_wp2
 all_goals go_ret
 all_goals refine⟨bT ?_,rfl⟩
 all_goals (rw [Bool.eq_iff_iff];simp only [gP,Bool.and_eq_true,decide_eq_true_eq,Bool.false_eq_true,false_iff,not_and, *,true_and,false_implies];try omega)
theorem vO (k v:ByteArray) (n o:Int) (w:World) :
  Calls Tryz.prog 172 #[.agg #[.string k,.string v,.int .i64 n,.int .i64 o]] w fun e w'=>e=.returned (.bool (o==0))∧Below w.heap.size w w':=by
 go_enter Tryz.func172,Tryz.ntmps172
 go_wp2
 go_ret
 exact⟨rfl,(Below.refl _ _).alloc (Nat.le_refl _) _⟩
theorem qCc {W w1:World} (hb:Below W.heap.size W w1):(∀ b o,b<W.heap.size→w1.cell? ⟨b,o,none⟩=W.cell? ⟨b,o,none⟩)∧(∀ b o,b<W.heap.size→w1.frozen? ⟨b,o,none⟩=W.frozen? ⟨b,o,none⟩) :=
 ⟨fun b o h=>hb.cell (p:=⟨b,o,none⟩) h,fun b o h=>hb.frozen (p:=⟨b,o,none⟩) h⟩
theorem nQ:aS 0=false:=rfl
def oM (v:ByteArray) (n o:Int):Bool:=(o==0&&decide ((v.size:Int)≤60)&&n==(v.size:Int))||(aS o&&v.toList.isEmpty&&decide (60<n)&&decide (n≤400))
theorem qT (k v:ByteArray) (n o:Int) (w:World) :
  Calls Tryz.prog 171 #[.agg #[.string k,.string v,.int .i64 n,.int .i64 o]] w fun e w'=>e=.returned (.bool (oM v n o))∧Below w.heap.size w w':=by
 go_enter Tryz.func171,Tryz.ntmps171
 go_wp2_with (first|(go_at_call 172;refine(vO _ _ _ _ _).mono ?_;rintro e w1 ⟨rfl,hb⟩;obtain⟨hc,hf⟩:=qCc hb)|(go_at_call 169;refine(kY _ _).mono ?_;rintro e w' ⟨rfl,rfl⟩))
 all_goals go_ret
 all_goals refine⟨bT ?_,((Below.refl _ _).alloc (Nat.le_refl _) _).trans (hb.mono (by simp))⟩
 all_goals clear hb hc hf
 all_goals simp_all [oM,nQ]
 all_goals omega
def dM (s:ByteArray):List UInt8:=[UInt8.ofNat s.size]++s.data.toList
def lB (k v:ByteArray) (n o:Int):List UInt8 :=
 dM k++(if (o==0)=true then [0]++dM v else [1]++beB 2 n++beB 2 o)
theorem aA (w:World) (o:Obj):(w.alloc o).heap[w.heap.size]?=some o:=by
 show (w.heap.push o)[w.heap.size]?=_
 simp
theorem iE {a b c d:Value}  (h:w.heap[β]?=some (.cells #[a,b,c,d] e)) :
  w.cell? ⟨β,0,none⟩=some a∧w.cell? ⟨β,1,none⟩=some b∧w.cell? ⟨β,2,none⟩=some c∧w.cell? ⟨β,3,none⟩=some d:=by
 simp [World.cell?,h]
theorem Ae (b:Value) (k v:ByteArray) (n o:Int) (bs:List UInt8) (B:Nat) (w:World) (hv:Buf w B b bs) (hB:B≤w.heap.size) (hl:bs.length+k.size+v.size+20≤140737488355328) :
  Calls Tryz.prog 159 #[b,.agg #[.string k,.string v,.int .i64 n,.int .i64 o]] w fun e w'=>∃ b',e=.returned b'∧Buf w' B b' (bs++lB k v n o)∧cJ B w w':=by
 have hBW:B≤(w.alloc (.cells #[.string k,.string v,.int .i64 n,.int .i64 o] 108)).heap.size:=by simp;omega
 have hbox:=aA w (.cells #[.string k,.string v,.int .i64 n,.int .i64 o] 108)
 have gW:=(cJ.refl B w).alloc hB (.cells #[.string k,.string v,.int .i64 n,.int .i64 o] 108)
 have hvW:=hv.alloc (.cells #[.string k,.string v,.int .i64 n,.int .i64 o] 108)
 have l0:bs.length+k.size+1≤140737488355328:=by omega
 have l1:(bs++[UInt8.ofNat k.size]++k.data.toList).length+1≤140737488355328:=by simp;omega
 have l4:(bs++[UInt8.ofNat k.size]++k.data.toList++[0]).length+v.size+1≤140737488355328:=by simp;omega
 cases ho:(o==0)
 all_goals
  go_enter Tryz.func159,Tryz.ntmps159
  go_wp2_with (first
   | (go_at_call 160;refine(nA _ _ _ B _ (by assumption) (by assumption) (by first|exact l0|exact l4)).mono ?_;rintro e wn ⟨bn,rfl,hbn,gn⟩;have hxn:=gn.other _ _ (by assumption) rfl;obtain⟨e0,e1,e2,e3⟩:=iE hxn;have Gn:=cJ.trans (show cJ B w _ by assumption) gn;have hBn:B≤wn.heap.size:=Nat.le_trans hB Gn.size;clear gn)
   | (go_at_call 172;refine(vO _ _ _ _ _).mono ?_;rintro e wn ⟨rfl,hbl⟩;have gn:=cJ.of_below hbl (by assumption);have hbm:=Buf.below (by assumption) hbl;clear hbl;have hxn:=gn.other _ _ (by assumption) rfl;obtain⟨e0,e1,e2,e3⟩:=iE hxn;have Gn:=cJ.trans (show cJ B w _ by assumption) gn;have hBn:B≤wn.heap.size:=Nat.le_trans hB Gn.size;clear gn)
   | (at_builtin;refine jW _ rfl (.tmp 18) (.tmp 19) rfl B _ _ rfl (by assumption) (by assumption) _ 1 rfl rfl l1 ?_;intro bn wn hbn gn;have hxn:=gn.other _ _ (by assumption) rfl;obtain⟨e0,e1,e2,e3⟩:=iE hxn;have Gn:=cJ.trans (show cJ B w _ by assumption) gn;have hBn:B≤wn.heap.size:=Nat.le_trans hB Gn.size;clear gn)
   | (at_builtin;refine jW _ rfl (.tmp 11) (.tmp 12) rfl B _ _ rfl (by assumption) (by assumption) _ 0 rfl rfl l1 ?_;intro bn wn hbn gn;have hxn:=gn.other _ _ (by assumption) rfl;obtain⟨e0,e1,e2,e3⟩:=iE hxn;have Gn:=cJ.trans (show cJ B w _ by assumption) gn;have hBn:B≤wn.heap.size:=Nat.le_trans hB Gn.size;clear gn)
   | (go_at_call 143;refine(eG _ _ _ _ B _ (by assumption) (by assumption) (by decide) (by decide) (by simp [aI];omega)).mono ?_;rintro e wn ⟨bn,rfl,hbn,gn⟩;have hxn:=gn.other _ _ (by assumption) rfl;obtain⟨e0,e1,e2,e3⟩:=iE hxn;have Gn:=cJ.trans (show cJ B w _ by assumption) gn;have hBn:B≤wn.heap.size:=Nat.le_trans hB Gn.size;clear gn))
  go_ret
  exact⟨_,rfl,by simpa [lB,dM,ho] using hbn,Gn⟩
theorem sP (f:α→List UInt8) (l:List α) (j:Nat) (h:j<l.length):(l.take (j+1)).flatMap f=(l.take j).flatMap f++f l[j]:=by
 rw [List.take_succ_eq_append_getElem h];simp only [List.flatMap_append,List.flatMap_cons,List.flatMap_nil,List.append_nil]
theorem Jy (f:α→List UInt8) (l:List α) (j:Nat) (h:j<l.length):((l.take j).flatMap f).length+(f l[j]).length≤(l.flatMap f).length:=by
 have e:l.flatMap f=(l.take (j+1)).flatMap f++(l.drop (j+1)).flatMap f:=by rw [← List.flatMap_append,List.take_append_drop]
 rw [e,sP f l j h];simp
theorem bL {a b c d a' b' c' d':Value}  (h:w.heap[β]?=some (.cells #[a,b,c,d,a',b',c',d'] e)) :
  w.cell? ⟨β,0,none⟩=some a∧w.cell? ⟨β,1,none⟩=some b∧w.cell? ⟨β,2,none⟩=some c∧w.cell? ⟨β,3,none⟩=some d ∧
  w.cell? ⟨β,4,none⟩=some a'∧w.cell? ⟨β,5,none⟩=some b'∧w.cell? ⟨β,6,none⟩=some c'∧w.cell? ⟨β,7,none⟩=some d':=by
 simp [World.cell?,h]
def eE (keys:List ByteArray) (kids:List Int):List UInt8:=beB 1 keys.length++kids.flatMap (beB 2)++keys.flatMap dM
theorem cT.at {f:α→Value}  {B:Nat} {a:Option Addr} {l:List α}  (h:cT w B a (l.map f)) (hj:j<l.length):∃ b off,a=some ⟨b,off,none⟩∧b<B∧w.cell? ⟨b,off+j,none⟩=some (f l[j]):=by
 rcases h with h|⟨b,off,ha,hb,hc⟩
 ·simp at h;subst h;simp at hj
 ·exact⟨b,off,ha,hb,hc j _ (by simp [List.getElem?_eq_getElem hj])⟩
theorem xV (b:Value) (kind ver root next:Int) (ka ia ea:Option Addr) (kc ic el ec:Nat) (data:ByteArray) (keys:List ByteArray) (kids:List Int) (bs:List UInt8) (B:Nat) (w:World)
  (hv:Buf w B b bs) (hB:B≤w.heap.size) (hK:cT w B ka (keys.map .string)) (hI:cT w B ia (kids.map (.int .i64))) (hkn:keys.length≤1073741824) (hin:kids.length≤1073741824) (hl:bs.length+(eE keys kids).length+8≤140737488355328) :
  Calls Tryz.prog 158 #[b,.agg #[.int .i64 kind,.int .i64 ver,.int .i64 root,.int .i64 next,.slice ka keys.length kc,.slice ia kids.length ic,.slice ea el ec,.string data]] w fun e w'=>∃ b',e=.returned b'∧Buf w' B b' (bs++eE keys kids)∧cJ B w w':=by
 have hBW:B≤(w.alloc (.cells #[.int .i64 kind,.int .i64 ver,.int .i64 root,.int .i64 next,.slice ka keys.length kc,.slice ia kids.length ic,.slice ea el ec,.string data] 85)).heap.size:=by simp;omega
 have hbox:=aA w (.cells #[.int .i64 kind,.int .i64 ver,.int .i64 root,.int .i64 next,.slice ka keys.length kc,.slice ia kids.length ic,.slice ea el ec,.string data] 85)
 have gW:=(cJ.refl B w).alloc hB (.cells #[.int .i64 kind,.int .i64 ver,.int .i64 root,.int .i64 next,.slice ka keys.length kc,.slice ia kids.length ic,.slice ea el ec,.string data] 85)
 have hvW:=hv.alloc (.cells #[.int .i64 kind,.int .i64 ver,.int .i64 root,.int .i64 next,.slice ka keys.length kc,.slice ia kids.length ic,.slice ea el ec,.string data] 85)
 have l0:bs.length+8≤140737488355328:=by omega
 go_enter Tryz.func158,Tryz.ntmps158
 go_wp2_with (go_at_call 143;refine(eG _ _ _ _ B _ (by assumption) (by assumption) (by decide) (by decide) l0).mono ?_;rintro e wn ⟨bn,rfl,hbn,gn⟩;have hxn:=gn.other _ _ (by assumption) rfl;obtain⟨e0,e1,e2,e3,e4,e5,e6,e7⟩:=bL hxn;have Gn:=cJ.trans (show cJ B w _ by assumption) gn;have hBn:B≤wn.heap.size:=Nat.le_trans hB Gn.size;clear gn)
 clear hv hvW hbox gW hBW
 go_loopw [0,17] (fun u i wr=>∃ j:Nat,j≤kids.length∧i=.int .i64 j∧Buf wr B u (bs++beB 1 keys.length++(kids.take j).flatMap (beB 2))∧cJ B w wr∧wr.heap[w.heap.size]?=some (.cells #[.int .i64 kind,.int .i64 ver,.int .i64 root,.int .i64 next,.slice ka keys.length kc,.slice ia kids.length ic,.slice ea el ec,.string data] 85)) (fun _ i _=>kids.length-(intOf i).toNat)
 case atStart=>exact⟨0,Nat.zero_le _,rfl,by simpa using hbn,Gn,hxn⟩
 case round =>
  clear hbn Gn hxn e0 e1 e2 e3 e4 e5 e6 e7 hBn
  obtain⟨j,hj,rfl,hbr,gr,hxr⟩:=hrel
  have hBr:B≤wr.heap.size:=Nat.le_trans hB gr.size
  by_cases hlt:j<kids.length
  ·obtain⟨ib,io,hia,hib,hic⟩:=(hI.below gr.below).at hlt
   have lj:=Jy (beB 2) kids j hlt
   have l1:(bs++beB 1 keys.length++(kids.take j).flatMap (beB 2)).length+8≤140737488355328:=by simp only [eE,aI,List.length_append] at hl lj ⊢;omega
   subst hia
   clear hK hI hl
   go_wp2_with (go_at_call 143;refine(eG _ _ _ _ B _ (by assumption) (by assumption) (by decide) (by decide) l1).mono ?_;rintro e wn ⟨bn,rfl,hbn,gn⟩;have hxn:=gn.other _ _ (by assumption) rfl;obtain⟨e0,e1,e2,e3,e4,e5,e6,e7⟩:=bL hxn;have Gn:=cJ.trans (show cJ B w _ by assumption) gn;have hBn:B≤wn.heap.size:=Nat.le_trans hB Gn.size;clear gn)
   go_roundw
   case rel=>exact⟨j+1,by omega,by go_num,by rw [sP _ _ _ hlt,← List.append_assoc];exact hbn,Gn,hxn⟩
   case measure=>simp [intOf];omega
  ·obtain rfl:j=kids.length:=by omega
   rw [List.take_length] at hbr
   obtain⟨e0,e1,e2,e3,e4,e5,e6,e7⟩:=bL hxr
   go_wp2
   go_loopw [0,28] (fun u i wr=>∃ j:Nat,j≤keys.length∧i=.int .i64 j∧Buf wr B u (bs++beB 1 keys.length++kids.flatMap (beB 2)++(keys.take j).flatMap dM)∧cJ B w wr∧wr.heap[w.heap.size]?=some (.cells #[.int .i64 kind,.int .i64 ver,.int .i64 root,.int .i64 next,.slice ka keys.length kc,.slice ia kids.length ic,.slice ea el ec,.string data] 85)) (fun _ i _=>keys.length-(intOf i).toNat)
   case atStart=>exact⟨0,Nat.zero_le _,rfl,by simpa using hbr,gr,hxr⟩
   case round =>
    clear hbr gr hxr e0 e1 e2 e3 e4 e5 e6 e7 hBr
    obtain⟨j,hj,rfl,hbr,gr,hxr⟩:=hrel
    have hBr:B≤wr.heap.size:=Nat.le_trans hB gr.size
    by_cases hlt:j<keys.length
    ·obtain⟨kb,ko,hka,hkb,hkc⟩:=(hK.below gr.below).at hlt
     have lj:=Jy dM keys j hlt
     have l1:(bs++beB 1 keys.length++kids.flatMap (beB 2)++(keys.take j).flatMap dM).length+keys[j].size+1≤140737488355328:=by simp only [eE,dM,aI,List.length_append,rQ,List.length_cons,List.length_nil] at hl lj ⊢;omega
     subst hka
     clear hK hI hl
     go_wp2_with (go_at_call 160;refine(nA _ _ _ B _ (by assumption) (by assumption) l1).mono ?_;rintro e wn ⟨bn,rfl,hbn,gn⟩;have hxn:=gn.other _ _ (by assumption) rfl;obtain⟨e0,e1,e2,e3,e4,e5,e6,e7⟩:=bL hxn;have Gn:=cJ.trans (show cJ B w _ by assumption) gn;have hBn:B≤wn.heap.size:=Nat.le_trans hB Gn.size;clear gn)
     go_roundw
     case rel=>exact⟨j+1,by omega,by go_num,by rw [sP _ _ _ hlt];simpa [dM] using hbn,Gn,hxn⟩
     case measure=>simp [intOf];omega
    ·obtain rfl:j=keys.length:=by omega
     rw [List.take_length] at hbr
     clear hK hI hl
     go_wp2
     go_ret
     exact⟨_,rfl,by simpa [eE] using hbr,gr⟩
structure dQ (ρ:Nat) (w w':World):Prop where
 os:w'.os=w.os
 tape:w'.tape=w.tape
 output:w'.output=w.output
 size:w.heap.size≤w'.heap.size
 block:∀ (k:Nat),k<w.heap.size→k≠ρ→w'.heap[k]?=w.heap[k]?
theorem dQ.refl (ρ:Nat) (w:World):dQ ρ w w:=⟨rfl,rfl,rfl,Nat.le_refl _,fun _ _ _=>rfl⟩
theorem dQ.trans {a b c:World} (h:dQ ρ a b) (k:dQ ρ b c):dQ ρ a c :=
 ⟨k.os.trans h.os,k.tape.trans h.tape,k.output.trans h.output,Nat.le_trans h.size k.size,fun i hi hr=>(k.block i (Nat.lt_of_lt_of_le hi h.size) hr).trans (h.block i hi hr)⟩
theorem dQ.drewN {a w:World} (h:dQ ρ a w) (n:Nat):dQ ρ a (w.drewN n):=h.trans ⟨rfl,rfl,rfl,Nat.le_refl _,fun _ _ _=>rfl⟩
theorem dQ.setCell {a w:World} (h:dQ ρ a w) (i:Nat) (v:Value):dQ ρ a (w.setCell ⟨ρ,i,none⟩ v) :=
 h.trans ⟨rfl,rfl,rfl,by simp [World.setCell],fun k _ hr=>Below.heap_setCell _ _ _ _ hr⟩
theorem dQ.of_below {w w':World} (h:Below w.heap.size w w'):dQ ρ w w':=⟨h.os,h.tape,h.output,h.size,fun k hk _=>h.block k hk⟩
structure Rd (w:World) (ρ g c:Nat) (bs:List UInt8) (at_:Nat):Prop where
 box:w.heap[ρ]?=some (.cells #[.slice (some ⟨g,0,none⟩) bs.length c,.int .i64 at_] 228)
 bytes:∀ (j:Nat) (hj:j<bs.length),w.cell? ⟨g,j,none⟩=some (eC bs[j])
 ne:g≠ρ
 lt:g<w.heap.size
 le:at_≤bs.length
 len:bs.length≤1000
 cap:bs.length≤c
theorem cG (h:w.heap[β]?=some (.cells #[a,b] e)):w.cell? ⟨β,0,none⟩=some a∧w.cell? ⟨β,1,none⟩=some b:=by simp [World.cell?,h]
theorem aF {cs:Array Value}  (h:w.heap[β]?=some (.cells cs e)) (i:Nat):w.frozen? ⟨β,i,none⟩=false:=by simp [World.frozen?,h]
theorem aD {cs:Array Value}  (h:w.heap[β]?=some (.cells cs e)) (i:Nat) (v:Value):(w.setCell ⟨β,i,none⟩ v).heap[β]?=some (.cells (cs.setIfInBounds i v) e):=by
 simp only [World.setCell]
 rw [Array.getElem?_modify,if_pos rfl,h]
 rfl
theorem Rd.only {w w':World} {ρ g c:Nat} {bs:List UInt8} {a a':Nat} (h:Rd w ρ g c bs a) (ho:dQ ρ w w') (hr:w'.heap[ρ]?=some (.cells #[.slice (some ⟨g,0,none⟩) bs.length c,.int .i64 a'] 228)) (hle:a'≤bs.length):Rd w' ρ g c bs a' :=
 ⟨hr,fun j hj=>by rw [World.cell?_of_block (w:=w) (ho.block g h.lt h.ne)];exact h.bytes j hj,h.ne,Nat.lt_of_lt_of_le h.lt ho.size,hle,h.len,h.cap⟩
theorem yI {u v:Value} (h:u=v):Ending.returned u=.returned v:=by rw [h]
def yN (bs:List UInt8) (a:Nat):UInt8:=bs.getD a 0
def yO (bs:List UInt8) (a:Nat):Nat:=min (a+1) bs.length
theorem qAb (ρ g c:Nat) (bs:List UInt8) (a:Nat) (w:World) (h:Rd w ρ g c bs a) :
  Calls Tryz.prog 168 #[.pointer (some ⟨ρ,0,none⟩)] w fun e w'=>e=.returned (eC (yN bs a))∧Rd w' ρ g c bs (yO bs a)∧dQ ρ w w':=by
 obtain⟨r0,r1⟩:=cG h.box
 have hle:=h.le
 have hln:=h.len
 have hfr:=aF h.box
 by_cases hlt:a<bs.length
 ·have hb:=h.bytes a hlt
  have ha1:(a:Int)<(bs.length:Int):=by omega
  have hs:∀ n,((w.drewN n).setCell ⟨ρ,1,none⟩ (.int .i64 ((a:Int)+1))).heap[ρ]?=some (.cells #[.slice (some ⟨g,0,none⟩) bs.length c,.int .i64 ((a:Int)+1)] 228):=fun n=>by
   have:=aD (w:=w.drewN n) h.box 1 (.int .i64 ((a:Int)+1));simpa using this
  have q0:=fun n=>(cG (hs n)).1
  have q1:=fun n=>(cG (hs n)).2
  have hb2:∀ n,((w.drewN n).setCell ⟨ρ,1,none⟩ (.int .i64 ((a:Int)+1))).cell? ⟨g,a,none⟩=some (eC bs[a]):=fun n=>by rw [World.cell?_of_block (w:=w.drewN n) (Below.heap_setCell _ _ _ _ h.ne)];exact hb
  have e1:yN bs a=bs[a]:=by simp [yN,List.getD,List.getElem?_eq_getElem hlt]
  have e2:yO bs a=a+1:=by unfold yO;omega
  have HE1:Hid (yN bs a=bs[a]):=e1
  have HE2:Hid (yO bs a=a+1):=e2
  have HS:Hid (∀ n,((w.drewN n).setCell ⟨ρ,1,none⟩ (.int .i64 ((a:Int)+1))).heap[ρ]?=some (.cells #[.slice (some ⟨g,0,none⟩) bs.length c,.int .i64 ((a:Int)+1)] 228)):=hs
  clear e1 e2 hs
  go_enter Tryz.func168,Tryz.ntmps168
  go_wp2
  go_quiet (fail)
  go_wp2
  go_quiet (fail)
  go_wp2
  go_ret
  exact⟨yI (u:=eC bs[a]) (congrArg eC HE1.out.symm),by rw [HE2.out];exact h.only ((((dQ.refl ρ w).drewN _).setCell 1 _).drewN _) (HS.out _) (by omega),(((dQ.refl ρ w).drewN _).setCell 1 _).drewN _⟩
 ·have ha1:(bs.length:Int)≤(a:Int):=by omega
  go_enter Tryz.func168,Tryz.ntmps168
  go_wp2
  go_quiet (fail)
  go_wp2
  go_ret
  have e1:yN bs a=0:=by simp [yN,List.getD,List.getElem?_eq_none (by omega:bs.length≤a)]
  have e2:yO bs a=a:=by unfold yO;omega
  exact⟨yI (by rw [e1];rfl),by rw [e2];exact h.only ((dQ.refl ρ w).drewN _) h.box hle,(dQ.refl ρ w).drewN _⟩
def gX (bs:List UInt8) (a:Nat):Nat→Nat
 | 0=>0
 | k+1=>gX bs a k * 256+(bs.getD (a+k) 0).toNat
def aT (bs:List UInt8) (a k:Nat):Nat:=min (a+k) bs.length
theorem Tl (bs:List UInt8) (a k:Nat):gX bs a k<256 ^ k:=by
 induction k with
 | zero=>simp [gX]
 | succ k ih =>
  have:=(bs.getD (a+k) 0).toNat_lt
  simp only [gX,Nat.pow_succ]
  omega
theorem qCs (h:j≤7):256 ^ j≤72057594037927936:=by
 have:256 ^ j≤256 ^ 7:=Nat.pow_le_pow_right (by omega) h
 simpa using this
theorem Vz (bs:List UInt8) (a j:Nat) (h:a≤bs.length):yN bs (aT bs a j)=bs.getD (a+j) 0:=by
 unfold yN aT
 by_cases hl:a+j≤bs.length
 ·rw [Nat.min_eq_left hl]
 ·rw [Nat.min_eq_right (by omega)]
  simp [List.getD,List.getElem?_eq_none (by omega:bs.length≤a+j)]
theorem Gq {bs:List UInt8} {a:Nat} (h:a≤bs.length):aT bs a 0=a:=by unfold aT;omega
theorem Wj (bs:List UInt8) (a j:Nat):yO bs (aT bs a j)=aT bs a (j+1):=by unfold yO aT;omega
theorem qCu {V n:Nat} (hV:V<72057594037927936) (hn:n<2 ^ 8):bits BinOp.or IntKind.u64 ((V:Int) * 256) (n:Int)=((V * 256+n:Nat):Int):=by
 have e:(V:Int) * 256=((V * 256:Nat):Int):=by omega
 rw [e,u64_or_nat _ _ (by omega) (by omega),nat_join 8 _ _ (by omega) hn]
theorem tQ (ρ g c:Nat) (bs:List UInt8) (a k:Nat) (w:World) (h:Rd w ρ g c bs a) (hk:k≤8) :
  Calls Tryz.prog 150 #[.pointer (some ⟨ρ,0,none⟩),.int .i64 k] w fun e w'=>e=.returned (.int .i64 (wrap64 (gX bs a k)))∧Rd w' ρ g c bs (aT bs a k)∧dQ ρ w w':=by
 have hle:=h.le
 go_enter Tryz.func150,Tryz.ntmps150
 go_wp2
 go_loopw [5,7] (fun u i wr=>∃ j:Nat,j≤k∧i=.int .i64 j∧u=.int .u64 (gX bs a j:Nat)∧Rd wr ρ g c bs (aT bs a j)∧dQ ρ w wr) (fun _ i _=>k-(intOf i).toNat)
 case atStart=>exact⟨0,Nat.zero_le _,rfl,rfl,by rw [Gq hle];exact h,dQ.refl _ _⟩
 case round =>
  obtain⟨j,hj,rfl,rfl,hr,ho⟩:=hrel
  have hv:=Tl bs a j
  by_cases hlt:j<k
  ·have hp:=qCs (show j≤7 by omega)
   have hN:=qAb ρ g c bs (aT bs a j) wr hr
   rw [Vz bs a j hle,Wj] at hN
   have hbt:=(bs.getD (a+j) 0).toNat_lt
   obtain⟨b,hb⟩:∃ b,b=bs.getD (a+j) 0:=⟨_,rfl⟩
   have HB:Hid (gX bs a (j+1)=gX bs a j * 256+b.toNat):=by show _=_;rw [hb];rfl
   rw [← hb] at hN hbt
   obtain⟨V,hV⟩:∃ V,V=gX bs a j:=⟨_,rfl⟩
   rw [← hV] at hv HB
   rw [← hV]
   clear hb hV
   unfold eC at hN
   go_wp2_with (go_at_call 168;refine hN.mono ?_;rintro e wn ⟨rfl,hrn,hon⟩)
   go_roundw
   case rel=>exact⟨j+1,by omega,by go_num,by rw [HB.out,qCu (by omega) hbt],hrn,ho.trans hon⟩
   case measure=>simp [intOf];omega
  ·obtain rfl:j=k:=by omega
   go_wp2
   go_ret
   exact⟨rfl,hr,ho⟩
theorem kD (ρ g c:Nat) (bs:List UInt8) (a:Nat) (w:World) (h:Rd w ρ g c bs a) :
  Calls Tryz.prog 150 #[.pointer (some ⟨ρ,0,none⟩),.int .i64 1] w fun e w'=>e=.returned (.int .i64 ((bs.getD a 0).toNat:Nat))∧Rd w' ρ g c bs (aT bs a 1)∧dQ ρ w w':=by
 refine(tQ ρ g c bs a 1 w h (by omega)).mono fun e w' ⟨he,hr,ho⟩=>⟨?_,hr,ho⟩
 rw [he]
 refine yI (congrArg (Value.int .i64) ?_)
 have:=(bs.getD a 0).toNat_lt
 simp only [gX,Nat.add_zero,Nat.zero_mul,Nat.zero_add]
 unfold wrap64
 omega
theorem wB (u:World) (g p S c:Nat) (bs:List UInt8) (hb:∀ (j:Nat) (hj:j<bs.length),u.cell? ⟨g,j,none⟩=some (eC bs[j])) (h1:p+S≤bs.length) (h2:bs.length≤c) :
  (convert 115 9 (.slice (if c=p then some ⟨g,0,none⟩ else some ⟨g,p,none⟩) S (c-p))).run Tryz.prog u=.ok (.string ⟨((bs.drop p).take S).toArray⟩) u:=by
 have hl:((bs.drop p).take S).length=S:=by simp;omega
 by_cases hc:c=p
 ·have hS:S=0:=by omega
  subst hS
  rw [if_pos hc]
  have:=run_convert_bytes_back (P:=Tryz.prog) u 115 9 5 ⟨g,0,none⟩ (c-p) [] Tryz.underlying115 Tryz.underlying5 Tryz.underlying9 (fun j hj=>by simp at hj)
  simpa using this
 ·rw [if_neg hc]
  have:=run_convert_bytes_back (P:=Tryz.prog) u 115 9 5 ⟨g,p,none⟩ (c-p) ((bs.drop p).take S) Tryz.underlying115 Tryz.underlying5 Tryz.underlying9 (fun j hj=>by
   have e:(⟨g,p,none⟩:Addr).add j=⟨g,p+j,none⟩:=by unfold Addr.add;split<;>simp_all
   rw [hl] at hj
   rw [e,hb (p+j) (by omega)]
   simp [eC])
  rw [hl] at this
  exact this
theorem Va {l:List UInt8} {p S:Nat} (h:l.length≤p+S):(l.drop p).take (l.length-p)=(l.drop p).take S:=by
 rw [List.take_of_length_le (by simp),List.take_of_length_le (by simp;omega)]
def mC (bs:List UInt8) (a:Nat):List UInt8:=(bs.drop (aT bs a 1)).take (bs.getD a 0).toNat
def gV (bs:List UInt8) (a:Nat):Nat:=min (aT bs a 1+(bs.getD a 0).toNat) bs.length
theorem sC (ρ g c:Nat) (bs:List UInt8) (a:Nat) (w:World) (h:Rd w ρ g c bs a) :
  Calls Tryz.prog 153 #[.pointer (some ⟨ρ,0,none⟩)] w fun e w'=>e=.returned (.string ⟨(mC bs a).toArray⟩)∧Rd w' ρ g c bs (gV bs a)∧dQ ρ w w':=by
 have hln:=h.len
 have hcp:=h.cap
 have hst:=(bs.getD a 0).toNat_lt
 obtain⟨S,hS⟩:∃ S,S=(bs.getD a 0).toNat:=⟨_,rfl⟩
 obtain⟨p,hp⟩:∃ p,p=aT bs a 1:=⟨_,rfl⟩
 have hN:=kD ρ g c bs a w h
 rw [← hS,← hp] at hN
 have hple:p≤bs.length:=by rw [hp];unfold aT;omega
 rw [← hS] at hst
 have HB:Hid (mC bs a=(bs.drop p).take S):=by show _=_;rw [hS,hp];rfl
 have HA:Hid (gV bs a=min (p+S) bs.length):=by show _=_;rw [hS,hp];rfl
 clear hS hp
 by_cases ht:p+S≤bs.length
 ·have ht':(p:Int)+(S:Int)≤(bs.length:Int):=by omega
  have ht2:(p:Int)≤(p:Int)+(S:Int):=by omega
  have ht3:(p:Int)+(S:Int)≤(c:Int):=by omega
  have hcv:∀ (u:World),(∀ (j:Nat) (hj:j<bs.length),u.cell? ⟨g,j,none⟩=some (eC bs[j]))→(convert 115 9 (.slice (if c=p then some ⟨g,0,none⟩ else some ⟨g,p,none⟩) (((p:Int)+(S:Int)).toNat-p) (c-p))).run Tryz.prog u=.ok (.string ⟨((bs.drop p).take S).toArray⟩) u:=fun u hu=>by
   rw [show ((p:Int)+(S:Int)).toNat-p=S by omega]
   exact wB u g p S c bs hu (by omega) hcp
  by_cases hc:c=p
  ·have hc':p=c:=hc.symm
   subst hc'
   clear hcv
   have hcv:∀ (u:World),(∀ (j:Nat) (hj:j<bs.length),u.cell? ⟨g,j,none⟩=some (eC bs[j]))→(convert 115 9 (.slice (some ⟨g,0,none⟩) 0 0)).run Tryz.prog u=.ok (.string ⟨((bs.drop p).take S).toArray⟩) u:=fun u hu=>by
    have h0:=wB u g p S p bs hu (by omega) (by omega)
    have e:S=0:=by omega
    rw [if_pos rfl,Nat.sub_self] at h0
    rw [e] at h0 ⊢
    exact h0
   go_enter Tryz.func153,Tryz.ntmps153
   go_wp2_with (go_at_call 150;refine hN.mono ?_;rintro e w1 ⟨rfl,hr1,ho1⟩;obtain⟨r0,r1⟩:=cG hr1.box;have hfr:=aF hr1.box;have hs:=aD hr1.box 1 (.int .i64 ((p:Int)+(S:Int)));have q0:=(cG hs).1;have q1:=(cG hs).2;have HS2:Hid _:=hs;clear hs;have hcw:=fun n=>hcv ((w1.setCell ⟨ρ,1,none⟩ (.int .i64 ((p:Int)+(S:Int)))).drewN n) (fun j hj=>(World.cell?_of_block (w:=w1) (Below.heap_setCell _ _ _ _ hr1.ne)).trans (hr1.bytes j hj)))
   clear hcv
   go_quiet (fail)
   go_wp2
   all_goals go_ret
   all_goals exact⟨yI (u:=.string ⟨((bs.drop p).take S).toArray⟩) (by rw [HB.out]),by rw [HA.out,show min (p+S) bs.length=p+S by omega];exact hr1.only (((dQ.refl ρ w1).setCell 1 _).drewN _) (by first|simpa using HS2.out|(rw [show ((p+S:Nat):Int)=(p:Int)+(S:Int) by omega];simpa using HS2.out)) (by omega),(ho1.setCell 1 (.int .i64 ((p:Int)+(S:Int)))).drewN _⟩
  ·simp only [if_neg hc] at hcv
   go_enter Tryz.func153,Tryz.ntmps153
   go_wp2_with (go_at_call 150;refine hN.mono ?_;rintro e w1 ⟨rfl,hr1,ho1⟩;obtain⟨r0,r1⟩:=cG hr1.box;have hfr:=aF hr1.box;have hs:=aD hr1.box 1 (.int .i64 ((p:Int)+(S:Int)));have q0:=(cG hs).1;have q1:=(cG hs).2;have HS2:Hid _:=hs;clear hs;have hcw:=fun n=>hcv ((w1.setCell ⟨ρ,1,none⟩ (.int .i64 ((p:Int)+(S:Int)))).drewN n) (fun j hj=>(World.cell?_of_block (w:=w1) (Below.heap_setCell _ _ _ _ hr1.ne)).trans (hr1.bytes j hj)))
   clear hcv
   go_quiet (fail)
   go_wp2
   all_goals go_ret
   all_goals exact⟨yI (u:=.string ⟨((bs.drop p).take S).toArray⟩) (by rw [HB.out]),by rw [HA.out,show min (p+S) bs.length=p+S by omega];exact hr1.only (((dQ.refl ρ w1).setCell 1 _).drewN _) (by first|simpa using HS2.out|(rw [show ((p+S:Nat):Int)=(p:Int)+(S:Int) by omega];simpa using HS2.out)) (by omega),(ho1.setCell 1 (.int .i64 ((p:Int)+(S:Int)))).drewN _⟩
 ·have ht':(bs.length:Int)<(p:Int)+(S:Int):=by omega
  have ht2:(p:Int)≤(bs.length:Int):=by omega
  have ht3:(bs.length:Int)≤(c:Int):=by omega
  have hcv:∀ (u:World),(∀ (j:Nat) (hj:j<bs.length),u.cell? ⟨g,j,none⟩=some (eC bs[j]))→(convert 115 9 (.slice (if c=p then some ⟨g,0,none⟩ else some ⟨g,p,none⟩) (bs.length-p) (c-p))).run Tryz.prog u=.ok (.string ⟨((bs.drop p).take (bs.length-p)).toArray⟩) u:=fun u hu=>by
   rw [show bs.length-p=(bs.length-p) by omega]
   exact wB u g p (bs.length-p) c bs hu (by omega) hcp
  by_cases hc:c=p
  ·have hc':p=c:=hc.symm
   subst hc'
   clear hcv
   have hcv:∀ (u:World),(∀ (j:Nat) (hj:j<bs.length),u.cell? ⟨g,j,none⟩=some (eC bs[j]))→(convert 115 9 (.slice (some ⟨g,0,none⟩) 0 0)).run Tryz.prog u=.ok (.string ⟨((bs.drop p).take (bs.length-p)).toArray⟩) u:=fun u hu=>by
    have h0:=wB u g p (bs.length-p) p bs hu (by omega) (by omega)
    have e:(bs.length-p)=0:=by omega
    rw [if_pos rfl,Nat.sub_self] at h0
    rw [e] at h0 ⊢
    exact h0
   go_enter Tryz.func153,Tryz.ntmps153
   go_wp2_with (go_at_call 150;refine hN.mono ?_;rintro e w1 ⟨rfl,hr1,ho1⟩;obtain⟨r0,r1⟩:=cG hr1.box;have hfr:=aF hr1.box;have hs:=aD hr1.box 1 (.int .i64 (bs.length:Int));have q0:=(cG hs).1;have q1:=(cG hs).2;have HS2:Hid _:=hs;clear hs;have hcw:=fun n=>hcv ((w1.setCell ⟨ρ,1,none⟩ (.int .i64 (bs.length:Int))).drewN n) (fun j hj=>(World.cell?_of_block (w:=w1) (Below.heap_setCell _ _ _ _ hr1.ne)).trans (hr1.bytes j hj)))
   clear hcv
   go_quiet (fail)
   go_wp2
   all_goals go_ret
   all_goals exact⟨yI (u:=.string ⟨#[]⟩) (by rw [HB.out,List.drop_eq_nil_of_le (by omega)];simp),by rw [HA.out,show min (p+S) bs.length=bs.length by omega];exact hr1.only (((dQ.refl ρ w1).setCell 1 _).drewN _) (by first|simpa using HS2.out|(rw [show ((p+S:Nat):Int)=(p:Int)+(S:Int) by omega];simpa using HS2.out)) (by omega),(ho1.setCell 1 (.int .i64 (bs.length:Int))).drewN _⟩
  ·simp only [if_neg hc] at hcv
   go_enter Tryz.func153,Tryz.ntmps153
   go_wp2_with (go_at_call 150;refine hN.mono ?_;rintro e w1 ⟨rfl,hr1,ho1⟩;obtain⟨r0,r1⟩:=cG hr1.box;have hfr:=aF hr1.box;have hs:=aD hr1.box 1 (.int .i64 (bs.length:Int));have q0:=(cG hs).1;have q1:=(cG hs).2;have HS2:Hid _:=hs;clear hs;have hcw:=fun n=>hcv ((w1.setCell ⟨ρ,1,none⟩ (.int .i64 (bs.length:Int))).drewN n) (fun j hj=>(World.cell?_of_block (w:=w1) (Below.heap_setCell _ _ _ _ hr1.ne)).trans (hr1.bytes j hj)))
   clear hcv
   go_quiet (fail)
   go_wp2
   all_goals go_ret
   all_goals exact⟨yI (u:=.string ⟨((bs.drop p).take (bs.length-p)).toArray⟩) (by rw [HB.out];rw [Va (S:=S) (by omega)]),by rw [HA.out,show min (p+S) bs.length=bs.length by omega];exact hr1.only (((dQ.refl ρ w1).setCell 1 _).drewN _) (by first|simpa using HS2.out|(rw [show ((p+S:Nat):Int)=(p:Int)+(S:Int) by omega];simpa using HS2.out)) (by omega),(ho1.setCell 1 (.int .i64 (bs.length:Int))).drewN _⟩
structure Ent where
 key:ByteArray
 val:ByteArray
 size:Int
 over:Int
def Ent.cells (e:Ent):List Value:=[.string e.key,.string e.val,.int .i64 e.size,.int .i64 e.over]
def Ent.bytes (e:Ent):List UInt8:=lB e.key e.val e.size e.over
theorem qBw (ents:List Ent) (j i:Nat) (hj:j<ents.length) (hi:i<4):(ents.flatMap Ent.cells)[4 * j+i]?=(ents[j].cells)[i]?:=by
 induction ents generalizing j with
 | nil=>simp at hj
 | cons e l ih =>
  cases j with
  | zero =>
   simp only [List.flatMap_cons,Nat.mul_zero,Nat.zero_add,List.getElem_cons_zero]
   rw [List.getElem?_append_left (by simp [Ent.cells];omega)]
  | succ j =>
   simp only [List.flatMap_cons,List.getElem_cons_succ]
   have h4:e.cells.length=4:=rfl
   rw [List.getElem?_append_right (by omega),h4,show 4 * (j+1)+i-4=4 * j+i by omega]
   exact ih j (by simpa using hj)
theorem cT.ent {B:Nat} {a:Option Addr} {l:List Ent}  (h:cT w B a (l.flatMap Ent.cells)) (hj:j<l.length):∃ b off,a=some ⟨b,off,none⟩∧b<B ∧
  w.cell? ⟨b,off+j * 4,none⟩=some (.string l[j].key)∧w.cell? ⟨b,off+j * 4+1,none⟩=some (.string l[j].val)∧w.cell? ⟨b,off+j * 4+2,none⟩=some (.int .i64 l[j].size)∧w.cell? ⟨b,off+j * 4+3,none⟩=some (.int .i64 l[j].over):=by
 have c:=fun i (hi:i<4)=>qBw l j i hj hi
 rcases h with h|⟨b,off,ha,hb,hc⟩
 ·have:=c 0 (by omega);rw [h] at this;simp [Ent.cells] at this
 ·refine⟨b,off,ha,hb,?_,?_,?_,?_⟩
  ·rw [Nat.mul_comm];exact hc (4 * j) _ (c 0 (by omega))
  ·rw [Nat.mul_comm,Nat.add_assoc];exact hc (4 * j+1) _ (c 1 (by omega))
  ·rw [Nat.mul_comm,Nat.add_assoc];exact hc (4 * j+2) _ (c 2 (by omega))
  ·rw [Nat.mul_comm,Nat.add_assoc];exact hc (4 * j+3) _ (c 3 (by omega))
def lK (ents:List Ent):List UInt8:=beB 1 ents.length++ents.flatMap Ent.bytes
theorem Nu (ver root next:Int) (ka ia ea:Option Addr) (kc ic ec:Nat) (data:ByteArray) (keys:List ByteArray) (kids:List Int) (ents:List Ent) (B:Nat) (w:World) (hB:B≤w.heap.size) :
  Calls Tryz.prog 142 #[.agg #[.int .i64 1,.int .i64 ver,.int .i64 root,.int .i64 next,.slice ka keys.length kc,.slice ia kids.length ic,.slice ea ents.length ec,.string data]] w fun e w'=>∃ b',e=.returned b'∧Buf w' B b' (beB 1 1++beB 8 ver++beB 2 root)∧cJ B w w':=by
 have hBW:B≤(w.alloc (.cells #[.int .i64 1,.int .i64 ver,.int .i64 root,.int .i64 next,.slice ka keys.length kc,.slice ia kids.length ic,.slice ea ents.length ec,.string data] 85)).heap.size:=by simp;omega
 have hbox:=aA w (.cells #[.int .i64 1,.int .i64 ver,.int .i64 root,.int .i64 next,.slice ka keys.length kc,.slice ia kids.length ic,.slice ea ents.length ec,.string data] 85)
 have gW:=(cJ.refl B w).alloc hB (.cells #[.int .i64 1,.int .i64 ver,.int .i64 root,.int .i64 next,.slice ka keys.length kc,.slice ia kids.length ic,.slice ea ents.length ec,.string data] 85)
 have hvW:=Buf.nil (w.alloc (.cells #[.int .i64 1,.int .i64 ver,.int .i64 root,.int .i64 next,.slice ka keys.length kc,.slice ia kids.length ic,.slice ea ents.length ec,.string data] 85)) B
 go_enter Tryz.func142,Tryz.ntmps142
 go_wp2_with (go_at_call 143;refine(eG _ _ _ _ B _ (by assumption) (by assumption) (by decide) (by decide) (by simp [aI])).mono ?_;rintro e wn ⟨bn,rfl,hbn,gn⟩;have hxn:=gn.other _ _ (by assumption) rfl;obtain⟨e0,e1,e2,e3,e4,e5,e6,e7⟩:=bL hxn;have Gn:=cJ.trans (show cJ B w _ by assumption) gn;have hBn:B≤wn.heap.size:=Nat.le_trans hB Gn.size;clear gn)
 go_ret
 exact⟨_,rfl,by simpa using hbn,Gn⟩
theorem Fl (ver root next:Int) (ka ia ea:Option Addr) (kc ic ec:Nat) (data:ByteArray) (keys:List ByteArray) (kids:List Int) (ents:List Ent) (B:Nat) (w:World) (hB:B≤w.heap.size) (hK:cT w B ka (keys.map .string)) (hI:cT w B ia (kids.map (.int .i64))) (hkn:keys.length≤1073741824) (hin:kids.length≤1073741824) (hl:(eE keys kids).length+20≤140737488355328) :
  Calls Tryz.prog 142 #[.agg #[.int .i64 2,.int .i64 ver,.int .i64 root,.int .i64 next,.slice ka keys.length kc,.slice ia kids.length ic,.slice ea ents.length ec,.string data]] w fun e w'=>∃ b',e=.returned b'∧Buf w' B b' (beB 1 2++eE keys kids)∧cJ B w w':=by
 have hBW:B≤(w.alloc (.cells #[.int .i64 2,.int .i64 ver,.int .i64 root,.int .i64 next,.slice ka keys.length kc,.slice ia kids.length ic,.slice ea ents.length ec,.string data] 85)).heap.size:=by simp;omega
 have hbox:=aA w (.cells #[.int .i64 2,.int .i64 ver,.int .i64 root,.int .i64 next,.slice ka keys.length kc,.slice ia kids.length ic,.slice ea ents.length ec,.string data] 85)
 have gW:=(cJ.refl B w).alloc hB (.cells #[.int .i64 2,.int .i64 ver,.int .i64 root,.int .i64 next,.slice ka keys.length kc,.slice ia kids.length ic,.slice ea ents.length ec,.string data] 85)
 have hvW:=Buf.nil (w.alloc (.cells #[.int .i64 2,.int .i64 ver,.int .i64 root,.int .i64 next,.slice ka keys.length kc,.slice ia kids.length ic,.slice ea ents.length ec,.string data] 85)) B
 have l2:([]++beB (Int.toNat 1) 2).length+(eE keys kids).length+8≤140737488355328:=by simp only [List.length_append,List.length_nil,aI];omega
 go_enter Tryz.func142,Tryz.ntmps142
 go_wp2_with (first
  | (go_at_call 143;refine(eG _ _ _ _ B _ (by assumption) (by assumption) (by decide) (by decide) (by simp [aI])).mono ?_;rintro e wn ⟨bn,rfl,hbn,gn⟩;have hxn:=gn.other _ _ (by assumption) rfl;obtain⟨e0,e1,e2,e3,e4,e5,e6,e7⟩:=bL hxn;have Gn:=cJ.trans (show cJ B w _ by assumption) gn;have hBn:B≤wn.heap.size:=Nat.le_trans hB Gn.size;clear gn;have hKn:=hK.below Gn.below;have hIn:=hI.below Gn.below)
  | (go_at_call 158;refine(xV _ _ _ _ _ _ _ _ _ _ _ _ _ _ _ _ B _ (by assumption) (by assumption) hKn hIn hkn hin l2).mono ?_;rintro e wn ⟨bn,rfl,hbn,gn⟩;have hxn:=gn.other _ _ (by assumption) rfl;obtain⟨e0,e1,e2,e3,e4,e5,e6,e7⟩:=bL hxn;have Gn:=cJ.trans (show cJ B w _ by assumption) gn;have hBn:B≤wn.heap.size:=Nat.le_trans hB Gn.size;clear gn))
 go_ret
 exact⟨_,rfl,by simpa using hbn,Gn⟩
theorem Nt (ver root next:Int) (ka ia ea:Option Addr) (kc ic ec:Nat) (data:ByteArray) (keys:List ByteArray) (kids:List Int) (ents:List Ent) (B:Nat) (w:World) (hB:B≤w.heap.size) (hl:data.size+4≤140737488355328) :
  Calls Tryz.prog 142 #[.agg #[.int .i64 4,.int .i64 ver,.int .i64 root,.int .i64 next,.slice ka keys.length kc,.slice ia kids.length ic,.slice ea ents.length ec,.string data]] w fun e w'=>∃ b',e=.returned b'∧Buf w' B b' (beB 1 4++beB 2 next++dM data)∧cJ B w w':=by
 have hBW:B≤(w.alloc (.cells #[.int .i64 4,.int .i64 ver,.int .i64 root,.int .i64 next,.slice ka keys.length kc,.slice ia kids.length ic,.slice ea ents.length ec,.string data] 85)).heap.size:=by simp;omega
 have hbox:=aA w (.cells #[.int .i64 4,.int .i64 ver,.int .i64 root,.int .i64 next,.slice ka keys.length kc,.slice ia kids.length ic,.slice ea ents.length ec,.string data] 85)
 have gW:=(cJ.refl B w).alloc hB (.cells #[.int .i64 4,.int .i64 ver,.int .i64 root,.int .i64 next,.slice ka keys.length kc,.slice ia kids.length ic,.slice ea ents.length ec,.string data] 85)
 have hvW:=Buf.nil (w.alloc (.cells #[.int .i64 4,.int .i64 ver,.int .i64 root,.int .i64 next,.slice ka keys.length kc,.slice ia kids.length ic,.slice ea ents.length ec,.string data] 85)) B
 go_enter Tryz.func142,Tryz.ntmps142
 go_wp2_with (first
  | (go_at_call 143;refine(eG _ _ _ _ B _ (by assumption) (by assumption) (by decide) (by decide) (by simp [aI])).mono ?_;rintro e wn ⟨bn,rfl,hbn,gn⟩;have hxn:=gn.other _ _ (by assumption) rfl;obtain⟨e0,e1,e2,e3,e4,e5,e6,e7⟩:=bL hxn;have Gn:=cJ.trans (show cJ B w _ by assumption) gn;have hBn:B≤wn.heap.size:=Nat.le_trans hB Gn.size;clear gn)
  | (go_at_call 160;refine(nA _ _ _ B _ (by assumption) (by assumption) (by simp [aI];omega)).mono ?_;rintro e wn ⟨bn,rfl,hbn,gn⟩;have hxn:=gn.other _ _ (by assumption) rfl;obtain⟨e0,e1,e2,e3,e4,e5,e6,e7⟩:=bL hxn;have Gn:=cJ.trans (show cJ B w _ by assumption) gn;have hBn:B≤wn.heap.size:=Nat.le_trans hB Gn.size;clear gn))
 go_ret
 exact⟨_,rfl,by simpa [dM] using hbn,Gn⟩
theorem Nv (ver root next:Int) (ka ia ea:Option Addr) (kc ic ec:Nat) (data:ByteArray) (keys:List ByteArray) (kids:List Int) (ents:List Ent) (B:Nat) (w:World) (hB:B≤w.heap.size) (hE:cT w B ea (ents.flatMap Ent.cells)) (hen:ents.length≤1073741824) (hsm:∀ e∈ents,e.key.size≤1073741824∧e.val.size≤1073741824) (hl:1+(lK ents).length≤1407374883553) :
  Calls Tryz.prog 142 #[.agg #[.int .i64 3,.int .i64 ver,.int .i64 root,.int .i64 next,.slice ka keys.length kc,.slice ia kids.length ic,.slice ea ents.length ec,.string data]] w fun e w'=>∃ b',e=.returned b'∧Buf w' B b' (beB 1 3++lK ents)∧cJ B w w':=by
 have hBW:B≤(w.alloc (.cells #[.int .i64 3,.int .i64 ver,.int .i64 root,.int .i64 next,.slice ka keys.length kc,.slice ia kids.length ic,.slice ea ents.length ec,.string data] 85)).heap.size:=by simp;omega
 have hbox:=aA w (.cells #[.int .i64 3,.int .i64 ver,.int .i64 root,.int .i64 next,.slice ka keys.length kc,.slice ia kids.length ic,.slice ea ents.length ec,.string data] 85)
 have gW:=(cJ.refl B w).alloc hB (.cells #[.int .i64 3,.int .i64 ver,.int .i64 root,.int .i64 next,.slice ka keys.length kc,.slice ia kids.length ic,.slice ea ents.length ec,.string data] 85)
 have hvW:=Buf.nil (w.alloc (.cells #[.int .i64 3,.int .i64 ver,.int .i64 root,.int .i64 next,.slice ka keys.length kc,.slice ia kids.length ic,.slice ea ents.length ec,.string data] 85)) B
 go_enter Tryz.func142,Tryz.ntmps142
 go_wp2_with (go_at_call 143;refine(eG _ _ _ _ B _ (by assumption) (by assumption) (by decide) (by decide) (by simp [aI])).mono ?_;rintro e wn ⟨bn,rfl,hbn,gn⟩;have hxn:=gn.other _ _ (by assumption) rfl;obtain⟨e0,e1,e2,e3,e4,e5,e6,e7⟩:=bL hxn;have Gn:=cJ.trans (show cJ B w _ by assumption) gn;have hBn:B≤wn.heap.size:=Nat.le_trans hB Gn.size;clear gn)
 clear hvW hbox gW hBW
 go_loopw [3,36] (fun u i wr=>∃ j:Nat,j≤ents.length∧i=.int .i64 j∧Buf wr B u (beB 1 3++beB 1 ents.length++(ents.take j).flatMap Ent.bytes)∧cJ B w wr) (fun _ i _=>ents.length-(intOf i).toNat)
 case atStart=>exact⟨0,Nat.zero_le _,rfl,by simpa using hbn,Gn⟩
 case round =>
  clear hbn Gn hxn e0 e1 e2 e3 e4 e5 e6 e7 hBn
  obtain⟨j,hj,rfl,hbr,gr⟩:=hrel
  have hBr:B≤wr.heap.size:=Nat.le_trans hB gr.size
  by_cases hlt:j<ents.length
  ·obtain⟨ib,io,hia,hib,d0,d1,d2,d3⟩:=(hE.below gr.below).ent hlt
   have lj:=Jy Ent.bytes ents j hlt
   have sj:=hsm ents[j] (List.getElem_mem hlt)
   have l3:(beB 1 3++beB 1 ents.length++(ents.take j).flatMap Ent.bytes).length+ents[j].key.size+ents[j].val.size+20≤140737488355328:=by simp only [lK,aI,List.length_append] at hl lj ⊢;omega
   subst hia
   clear hE hl hsm
   have hjw:j * 4≤4294967296:=by omega
   have hBa:∀ o:Obj,B≤(wr.alloc o).heap.size:=fun o=>by simp;omega
   go_wp2_with (go_at_call 159;refine(Ae _ _ _ _ _ _ B _ (hbr.alloc _) (hBa _) l3).mono ?_;rintro e wn ⟨bn,rfl,hbn,gn⟩)
   have Gn:=gr.trans (((cJ.refl B wr).alloc hBr _).trans gn)
   go_roundw
   case rel=>exact⟨j+1,by omega,by go_num,by rw [sP _ _ _ hlt,← List.append_assoc];exact hbn,Gn⟩
   case measure=>simp [intOf];omega
  ·obtain rfl:j=ents.length:=by omega
   rw [List.take_length] at hbr
   clear hE hl hsm
   go_wp2
   go_ret
   exact⟨_,rfl,by simpa [lK] using hbr,gr⟩
theorem qFq {p:α→Bool} {l:List α}  (h:j<l.length) (hp:p l[j]=false):(l.drop j).all p=false:=by
 rw [List.drop_eq_getElem_cons h,List.all_cons,hp];rfl
theorem qDx {p:α→Bool} {l:List α}  (h:j<l.length) (hp:p l[j]=true):(l.drop j).all p=(l.drop (j+1)).all p:=by
 rw [List.drop_eq_getElem_cons h,List.all_cons,hp];rfl
def Hd (ver root:Int):Bool:=decide (0≤ver)&&(root==0||aS root)
def Ce (next:Int) (data:ByteArray):Bool:=(next==0||aS next)&&(decide (1≤data.size)&&decide (data.size≤240))
theorem Ex (kind:Int) (ver root next:Int) (ka ia ea:Option Addr) (kc ic ec:Nat) (data:ByteArray) (keys:List ByteArray) (kids:List Int) (ents:List Ent) (w:World) :
  Calls Tryz.prog 154 #[.agg #[.int .i64 kind,.int .i64 ver,.int .i64 root,.int .i64 next,.slice ka keys.length kc,.slice ia kids.length ic,.slice ea ents.length ec,.string data]] w fun e w'=>e=.returned (.bool (Hd ver root))∧Below w.heap.size w w':=by
 go_enter Tryz.func154,Tryz.ntmps154
 go_wp2_with (go_at_call 169;refine(kY _ _).mono ?_;rintro e w' ⟨rfl,rfl⟩)
 all_goals go_ret
 all_goals refine⟨bT ?_,(Below.refl _ _).alloc (Nat.le_refl _) _⟩
 all_goals simp_all [Hd,nQ]
 all_goals omega
theorem Ew (kind:Int) (ver root next:Int) (ka ia ea:Option Addr) (kc ic ec:Nat) (data:ByteArray) (keys:List ByteArray) (kids:List Int) (ents:List Ent) (w:World) :
  Calls Tryz.prog 157 #[.agg #[.int .i64 kind,.int .i64 ver,.int .i64 root,.int .i64 next,.slice ka keys.length kc,.slice ia kids.length ic,.slice ea ents.length ec,.string data]] w fun e w'=>e=.returned (.bool (Ce next data))∧Below w.heap.size w w':=by
 go_enter Tryz.func157,Tryz.ntmps157
 go_wp2_with (go_at_call 169;refine(kY _ _).mono ?_;rintro e w' ⟨rfl,rfl⟩)
 all_goals go_ret
 all_goals refine⟨bT ?_,(Below.refl _ _).alloc (Nat.le_refl _) _⟩
 all_goals simp_all [Ce,nQ]
 all_goals first|omega|(rw [Bool.eq_iff_iff];simp;omega)
def fU:ByteArray→List ByteArray→Bool
 | _,[]=>true
 | last,k :: r=>gP last k&&fU k r
def gQ (keys:List ByteArray) (kids:List Int):Bool:=decide (keys.length≠0)&&decide (kids.length=keys.length+1)&&kids.all aS&&fU ⟨#[]⟩ keys
theorem Aa (kind:Int) (ver root next:Int) (ka ia ea:Option Addr) (kc ic ec:Nat) (data:ByteArray) (keys:List ByteArray) (kids:List Int) (ents:List Ent) (w:World) (hK:cT w w.heap.size ka (keys.map .string)) (hI:cT w w.heap.size ia (kids.map (.int .i64))) (hkn:keys.length≤1073741824) (hin:kids.length≤1073741824) :
  Calls Tryz.prog 155 #[.agg #[.int .i64 kind,.int .i64 ver,.int .i64 root,.int .i64 next,.slice ka keys.length kc,.slice ia kids.length ic,.slice ea ents.length ec,.string data]] w fun e w'=>e=.returned (.bool (gQ keys kids))∧Below w.heap.size w w':=by
 have hb:=(Below.refl w.heap.size w).alloc (Nat.le_refl _) (.cells #[.int .i64 kind,.int .i64 ver,.int .i64 root,.int .i64 next,.slice ka keys.length kc,.slice ia kids.length ic,.slice ea ents.length ec,.string data] 85)
 by_cases h0:keys.length=0
 ·have h0':((keys.length:Int)==0)=true:=beq_iff_eq.2 (by omega)
  have H0:Hid (keys.length=0):=h0
  clear h0
  go_enter Tryz.func155,Tryz.ntmps155
  go_wp2
  go_ret
  exact⟨bT (by simp [gQ,H0.out]),hb⟩
 have h0':((keys.length:Int)==0)=false:=beq_eq_false_iff_ne.2 (by omega)
 by_cases h1:kids.length=keys.length+1
 ·have h1':((kids.length:Int) != (keys.length:Int)+1)=false:=by simp;omega
  have H1:Hid (kids.length=keys.length+1):=h1
  clear h1
  go_enter Tryz.func155,Tryz.ntmps155
  go_wp2
  go_loop [25] (fun i=>∃ j:Nat,j≤kids.length∧i=.int .i64 j∧Hid (kids.all aS=(kids.drop j).all aS)) (fun i=>kids.length-(intOf i).toNat)
  case atStart=>exact⟨0,Nat.zero_le _,rfl,by show _=_;simp⟩
  case round =>
   obtain⟨j,hj,rfl,HA⟩:=hrel
   by_cases hlt:j<kids.length
   ·have hd:=List.drop_eq_getElem_cons hlt
    obtain⟨ib,io,hia,hib,hic⟩:=(hI.below hb).at hlt
    have hib':ib<w.heap.size:=hib
    subst hia
    cases hp:aS kids[j]
    ·have HN:Hid (kids.all aS=false):=HA.out.trans (qFq hlt hp)
     clear HA hd hK hI
     go_wp2_with (go_at_call 169;refine(kY _ _).mono ?_;rintro e w' ⟨rfl,rfl⟩)
     go_ret
     exact⟨bT (by simp [gQ,HN.out]),hb⟩
    ·have HA2:Hid (kids.all aS=(kids.drop (j+1)).all aS):=HA.out.trans (qDx hlt hp)
     clear HA hd hK hI
     go_wp2_with (go_at_call 169;refine(kY _ _).mono ?_;rintro e w' ⟨rfl,rfl⟩)
     go_round
     case rel=>exact⟨j+1,by omega,by go_num,HA2⟩
     case measure=>simp [intOf];omega
   ·have HA2:Hid (kids.all aS=true):=by show _=_;rw [HA.out,List.drop_eq_nil_of_le (by omega)];rfl
    clear HA
    go_wp2
    go_loop [5,36] (fun u i=>∃ (j:Nat) (l:ByteArray),j≤keys.length∧i=.int .i64 j∧u=.string l∧Hid (fU ⟨#[]⟩ keys=fU l (keys.drop j))) (fun _ i=>keys.length-(intOf i).toNat)
    case atStart=>exact⟨0,_,Nat.zero_le _,rfl,rfl,by show _=_;simp⟩
    case round =>
     obtain⟨j,l,hj,rfl,rfl,HR⟩:=hrel
     by_cases hlt:j<keys.length
     ·have hd:=List.drop_eq_getElem_cons hlt
      obtain⟨kb,ko,hka,hkb,hkc⟩:=(hK.below hb).at hlt
      have hkb':kb<w.heap.size:=hkb
      subst hka
      cases hp:gP l keys[j]
      ·have HN:Hid (fU ⟨#[]⟩ keys=false):=by show _=_;rw [HR.out,hd];simp [fU,hp]
       clear HR hd hK hI
       go_wp2_with (go_at_call 170;refine(kZ _ _ _).mono ?_;rintro e w' ⟨rfl,rfl⟩)
       go_ret
       exact⟨bT (by simp [gQ,HN.out]),hb⟩
      ·have HR2:Hid (fU ⟨#[]⟩ keys=fU keys[j] (keys.drop (j+1))):=by show _=_;rw [HR.out,hd];simp [fU,hp]
       clear HR hd hK hI
       go_wp2_with (go_at_call 170;refine(kZ _ _ _).mono ?_;rintro e w' ⟨rfl,rfl⟩)
       go_round
       case rel=>exact⟨j+1,_,by omega,by go_num,rfl,HR2⟩
       case measure=>simp [intOf];omega
     ·have HR2:Hid (fU ⟨#[]⟩ keys=true):=by show _=_;rw [HR.out,List.drop_eq_nil_of_le (by omega)];rfl
      clear HR
      go_wp2
      go_ret
      exact⟨bT (by simp [gQ,HA2.out,HR2.out,H1.out,h0]),hb⟩
 ·have h1':((kids.length:Int) != (keys.length:Int)+1)=true:=bne_iff_ne.2 (by omega)
  have H1:Hid (¬ kids.length=keys.length+1):=h1
  clear h1
  go_enter Tryz.func155,Tryz.ntmps155
  go_wp2
  go_ret
  exact⟨bT (by simp [gQ,H1.out]),hb⟩
def fS:ByteArray→List Ent→Bool
 | _,[]=>true
 | last,e :: r=>gP last e.key&&oM e.val e.size e.over&&fS e.key r
theorem Ey (kind:Int) (ver root next:Int) (ka ia ea:Option Addr) (kc ic ec:Nat) (data:ByteArray) (keys:List ByteArray) (kids:List Int) (ents:List Ent) (w:World) (hE:cT w w.heap.size ea (ents.flatMap Ent.cells)) (hen:ents.length≤1073741824) :
  Calls Tryz.prog 156 #[.agg #[.int .i64 kind,.int .i64 ver,.int .i64 root,.int .i64 next,.slice ka keys.length kc,.slice ia kids.length ic,.slice ea ents.length ec,.string data]] w fun e w'=>e=.returned (.bool (decide (ents.length≠0)&&fS ⟨#[]⟩ ents))∧Below w.heap.size w w':=by
 have hb:=(Below.refl w.heap.size w).alloc (Nat.le_refl _) (.cells #[.int .i64 kind,.int .i64 ver,.int .i64 root,.int .i64 next,.slice ka keys.length kc,.slice ia kids.length ic,.slice ea ents.length ec,.string data] 85)
 by_cases h0:ents.length=0
 ·have h0':((ents.length:Int)==0)=true:=beq_iff_eq.2 (by omega)
  have H0:Hid (ents.length=0):=h0
  clear h0
  go_enter Tryz.func156,Tryz.ntmps156
  go_wp2
  go_ret
  exact⟨bT (by simp [H0.out]),hb⟩
 have h0':((ents.length:Int)==0)=false:=beq_eq_false_iff_ne.2 (by omega)
 go_enter Tryz.func156,Tryz.ntmps156
 go_wp2
 go_loopw [3,13] (fun u i wr=>∃ (j:Nat) (l:ByteArray),j≤ents.length∧i=.int .i64 j∧u=.string l∧Hid (fS ⟨#[]⟩ ents=fS l (ents.drop j))∧Below w.heap.size w wr) (fun _ i _=>ents.length-(intOf i).toNat)
 case atStart=>exact⟨0,_,Nat.zero_le _,rfl,rfl,by show _=_;simp,hb⟩
 case round =>
  obtain⟨j,l,hj,rfl,rfl,HR,hbr⟩:=hrel
  have hsz:=hbr.size
  by_cases hlt:j<ents.length
  ·have hd:=List.drop_eq_getElem_cons hlt
   obtain⟨ib,io,hia,hib,d0,d1,d2,d3⟩:=(hE.below hbr).ent hlt
   have hib':ib<w.heap.size:=hib
   have hjw:j * 4≤4294967296:=by omega
   subst hia
   cases hp:gP l ents[j].key
   ·have HN:Hid (fS ⟨#[]⟩ ents=false):=by show _=_;rw [HR.out,hd];simp [fS,hp]
    clear HR hd hE
    go_wp2_with (go_at_call 170;refine(kZ _ _ _).mono ?_;rintro e w' ⟨rfl,rfl⟩)
    go_ret
    exact⟨bT (by simp [HN.out]),hbr.alloc hsz _⟩
   ·cases hq:oM ents[j].val ents[j].size ents[j].over
    ·have HN:Hid (fS ⟨#[]⟩ ents=false):=by show _=_;rw [HR.out,hd];simp [fS,hq]
     clear HR hd hE
     go_wp2_with (first|(go_at_call 170;refine(kZ _ _ _).mono ?_;rintro e w' ⟨rfl,rfl⟩)|(go_at_call 171;refine(qT _ _ _ _ _).mono ?_;rintro e w2 ⟨rfl,hb2⟩;obtain⟨hc,hf⟩:=qCc hb2))
     go_ret
     exact⟨bT (by simp [HN.out]),(hbr.alloc hsz _).trans (hb2.mono (by simp;omega))⟩
    ·have HR2:Hid (fS ⟨#[]⟩ ents=fS ents[j].key (ents.drop (j+1))):=by show _=_;rw [HR.out,hd];simp [fS,hp,hq]
     clear HR hd hE
     go_wp2_with (first|(go_at_call 170;refine(kZ _ _ _).mono ?_;rintro e w' ⟨rfl,rfl⟩)|(go_at_call 171;refine(qT _ _ _ _ _).mono ?_;rintro e w2 ⟨rfl,hb2⟩;obtain⟨hc,hf⟩:=qCc hb2))
     go_roundw
     case rel=>exact⟨j+1,_,by omega,by go_num,rfl,HR2,(hbr.alloc hsz _).trans (hb2.mono (by simp;omega))⟩
     case measure=>simp [intOf];omega
  ·have HR2:Hid (fS ⟨#[]⟩ ents=true):=by show _=_;rw [HR.out,List.drop_eq_nil_of_le (by omega)];rfl
   clear HR
   go_wp2
   go_ret
   exact⟨bT (by simp [HR2.out,h0]),hbr⟩
