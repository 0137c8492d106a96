import Derived.BigQuiet
import Derived.Test.YtfnhmpcpeahfkaaGreatW7
set_option linter.unusedSimpArgs false
set_option linter.unusedVariables false
set_option maxHeartbeats 8000000
namespace Go.Proofs.YtfnhmpcpeahfkaaGreat.Pages
open Go.RowKit
variable {a b:Value} {e:TypeId} {j β ρ:Nat} {w:World} {α:Type}
theorem bS {a b:Bool} (h:a=b):Ending.returned (.bool a)=.returned (.bool b):=by rw [h]
def aQ (n:Int):Bool:=decide (2≤n)&&decide (n<4096)
theorem kX (n:Int) (w:World) :
  Calls Tryz.prog 169 #[.int .i64 n] w fun e w'=>e=.returned (.bool (aQ n))∧w'=w:=by
 go_enter Tryz.func169,Tryz.ntmps169
 go_wp2
 all_goals go_ret
 all_goals refine⟨bS ?_,rfl⟩
 all_goals (rw [Bool.eq_iff_iff];simp only [aQ,Bool.and_eq_true,decide_eq_true_eq,Bool.false_eq_true,false_iff];omega)
def gG (last key:ByteArray):Bool:=Op.bytesLess last.toList key.toList&&decide (key.size≤24)
theorem kY (last key:ByteArray) (w:World) :
  Calls Tryz.prog 170 #[.string last,.string key] w fun e w'=>e=.returned (.bool (gG last key))∧w'=w:=by
 go_enter Tryz.func170,Tryz.ntmps170
 go_wp2
 all_goals go_ret
 all_goals refine⟨bS ?_,rfl⟩
 all_goals (rw [Bool.eq_iff_iff];simp only [gG,Bool.and_eq_true,decide_eq_true_eq,Bool.false_eq_true,false_iff,not_and, *,true_and,false_implies];try omega)
theorem vS (k v:ByteArray) (n o:Int) (w:World) :
  Calls Tryz.prog 172 #[.agg #[.string k,.string v,.int .i64 n,.int .i64 o]] w fun e w'=>e=.returned (.bool (o==0))∧Below w.heap.size w w':=by
 go_enter Tryz.func172,Tryz.ntmps172
 go_wp2
 go_ret
 exact⟨rfl,(Below.refl _ _).alloc (Nat.le_refl _) _⟩
theorem qBy {W w1:World} (hb:Below W.heap.size W w1):(∀ b o,b<W.heap.size→w1.cell? ⟨b,o,none⟩=W.cell? ⟨b,o,none⟩)∧(∀ b o,b<W.heap.size→w1.frozen? ⟨b,o,none⟩=W.frozen? ⟨b,o,none⟩) :=
 ⟨fun b o h=>hb.cell (p:=⟨b,o,none⟩) h,fun b o h=>hb.frozen (p:=⟨b,o,none⟩) h⟩
theorem nJ:aQ 0=false:=rfl
def oH (v:ByteArray) (n o:Int):Bool:=(o==0&&decide ((v.size:Int)≤60)&&n==(v.size:Int))||(aQ o&&v.toList.isEmpty&&decide (60<n)&&decide (n≤400))
theorem qQ (k v:ByteArray) (n o:Int) (w:World) :
  Calls Tryz.prog 171 #[.agg #[.string k,.string v,.int .i64 n,.int .i64 o]] w fun e w'=>e=.returned (.bool (oH v n o))∧Below w.heap.size w w':=by
 go_enter Tryz.func171,Tryz.ntmps171
 go_wp2_with (first|(go_at_call 172;refine(vS _ _ _ _ _).mono ?_;rintro e w1 ⟨rfl,hb⟩;obtain⟨hc,hf⟩:=qBy hb)|(go_at_call 169;refine(kX _ _).mono ?_;rintro e w' ⟨rfl,rfl⟩))
 all_goals go_ret
 all_goals refine⟨bS ?_,((Below.refl _ _).alloc (Nat.le_refl _) _).trans (hb.mono (by simp))⟩
 all_goals clear hb hc hf
 all_goals simp_all [oH,nJ]
 all_goals omega
def dN (s:ByteArray):List UInt8:=[UInt8.ofNat s.size]++s.data.toList
def kZ (k v:ByteArray) (n o:Int):List UInt8 :=
 dN k++(if (o==0)=true then [0]++dN v else [1]++beB 2 n++beB 2 o)
theorem aA (w:World) (o:Obj):(w.alloc o).heap[w.heap.size]?=some o:=by
 show (w.heap.push o)[w.heap.size]?=_
 simp
theorem gK {a b c d:Value}  (h:w.heap[β]?=some (.cells #[a,b,c,d] e)) :
  w.cell? ⟨β,0,none⟩=some a∧w.cell? ⟨β,1,none⟩=some b∧w.cell? ⟨β,2,none⟩=some c∧w.cell? ⟨β,3,none⟩=some d:=by
 simp [World.cell?,h]
theorem zS (b:Value) (k v:ByteArray) (n o:Int) (bs:List UInt8) (B:Nat) (w:World) (hv:Buf w B b bs) (hB:B≤w.heap.size) (hl:bs.length+k.size+v.size+20≤140737488355328) :
  Calls Tryz.prog 159 #[b,.agg #[.string k,.string v,.int .i64 n,.int .i64 o]] w fun e w'=>∃ b',e=.returned b'∧Buf w' B b' (bs++kZ k v n o)∧cD B w w':=by
 have hBW:B≤(w.alloc (.cells #[.string k,.string v,.int .i64 n,.int .i64 o] 108)).heap.size:=by simp;omega
 have hbox:=aA w (.cells #[.string k,.string v,.int .i64 n,.int .i64 o] 108)
 have gW:=(cD.refl B w).alloc hB (.cells #[.string k,.string v,.int .i64 n,.int .i64 o] 108)
 have hvW:=hv.alloc (.cells #[.string k,.string v,.int .i64 n,.int .i64 o] 108)
 have l0:bs.length+k.size+1≤140737488355328:=by omega
 have l1:(bs++[UInt8.ofNat k.size]++k.data.toList).length+1≤140737488355328:=by simp;omega
 have l4:(bs++[UInt8.ofNat k.size]++k.data.toList++[0]).length+v.size+1≤140737488355328:=by simp;omega
 cases ho:(o==0)
 all_goals
  go_enter Tryz.func159,Tryz.ntmps159
  go_wp2_with (first
   | (go_at_call 160;refine(mZ _ _ _ B _ (by assumption) (by assumption) (by first|exact l0|exact l4)).mono ?_;rintro e wn ⟨bn,rfl,hbn,gn⟩;have hxn:=gn.other _ _ (by assumption) rfl;obtain⟨e0,e1,e2,e3⟩:=gK hxn;have Gn:=cD.trans (show cD B w _ by assumption) gn;have hBn:B≤wn.heap.size:=Nat.le_trans hB Gn.size;clear gn)
   | (go_at_call 172;refine(vS _ _ _ _ _).mono ?_;rintro e wn ⟨rfl,hbl⟩;have gn:=cD.of_below hbl (by assumption);have hbm:=Buf.below (by assumption) hbl;clear hbl;have hxn:=gn.other _ _ (by assumption) rfl;obtain⟨e0,e1,e2,e3⟩:=gK hxn;have Gn:=cD.trans (show cD B w _ by assumption) gn;have hBn:B≤wn.heap.size:=Nat.le_trans hB Gn.size;clear gn)
   | (at_builtin;refine iZ _ rfl (.tmp 18) (.tmp 19) rfl B _ _ rfl (by assumption) (by assumption) _ 1 rfl rfl l1 ?_;intro bn wn hbn gn;have hxn:=gn.other _ _ (by assumption) rfl;obtain⟨e0,e1,e2,e3⟩:=gK hxn;have Gn:=cD.trans (show cD B w _ by assumption) gn;have hBn:B≤wn.heap.size:=Nat.le_trans hB Gn.size;clear gn)
   | (at_builtin;refine iZ _ rfl (.tmp 11) (.tmp 12) rfl B _ _ rfl (by assumption) (by assumption) _ 0 rfl rfl l1 ?_;intro bn wn hbn gn;have hxn:=gn.other _ _ (by assumption) rfl;obtain⟨e0,e1,e2,e3⟩:=gK hxn;have Gn:=cD.trans (show cD B w _ by assumption) gn;have hBn:B≤wn.heap.size:=Nat.le_trans hB Gn.size;clear gn)
   | (go_at_call 143;refine(eE _ _ _ _ B _ (by assumption) (by assumption) (by decide) (by decide) (by simp [aJ];omega)).mono ?_;rintro e wn ⟨bn,rfl,hbn,gn⟩;have hxn:=gn.other _ _ (by assumption) rfl;obtain⟨e0,e1,e2,e3⟩:=gK hxn;have Gn:=cD.trans (show cD B w _ by assumption) gn;have hBn:B≤wn.heap.size:=Nat.le_trans hB Gn.size;clear gn))
  go_ret
  exact⟨_,rfl,by simpa [kZ,dN,ho] using hbn,Gn⟩
theorem sM (f:α→List UInt8) (l:List α) (j:Nat) (h:j<l.length):(l.take (j+1)).flatMap f=(l.take j).flatMap f++f l[j]:=by
 rw [List.take_succ_eq_append_getElem h];simp only [List.flatMap_append,List.flatMap_cons,List.flatMap_nil,List.append_nil]
theorem Jg (f:α→List UInt8) (l:List α) (j:Nat) (h:j<l.length):((l.take j).flatMap f).length+(f l[j]).length≤(l.flatMap f).length:=by
 have e:l.flatMap f=(l.take (j+1)).flatMap f++(l.drop (j+1)).flatMap f:=by rw [← List.flatMap_append,List.take_append_drop]
 rw [e,sM f l j h];simp
theorem bD {a b c d a' b' c' d':Value}  (h:w.heap[β]?=some (.cells #[a,b,c,d,a',b',c',d'] e)) :
  w.cell? ⟨β,0,none⟩=some a∧w.cell? ⟨β,1,none⟩=some b∧w.cell? ⟨β,2,none⟩=some c∧w.cell? ⟨β,3,none⟩=some d ∧
  w.cell? ⟨β,4,none⟩=some a'∧w.cell? ⟨β,5,none⟩=some b'∧w.cell? ⟨β,6,none⟩=some c'∧w.cell? ⟨β,7,none⟩=some d':=by
 simp [World.cell?,h]
def eA (keys:List ByteArray) (kids:List Int):List UInt8:=beB 1 keys.length++kids.flatMap (beB 2)++keys.flatMap dN
theorem cY.at {f:α→Value}  {B:Nat} {a:Option Addr} {l:List α}  (h:cY w B a (l.map f)) (hj:j<l.length):∃ b off,a=some ⟨b,off,none⟩∧b<B∧w.cell? ⟨b,off+j,none⟩=some (f l[j]):=by
 rcases h with h|⟨b,off,ha,hb,hc⟩
 ·simp at h;subst h;simp at hj
 ·exact⟨b,off,ha,hb,hc j _ (by simp [List.getElem?_eq_getElem hj])⟩
theorem xO (b:Value) (kind ver root next:Int) (ka ia ea:Option Addr) (kc ic el ec:Nat) (data:ByteArray) (keys:List ByteArray) (kids:List Int) (bs:List UInt8) (B:Nat) (w:World)
  (hv:Buf w B b bs) (hB:B≤w.heap.size) (hK:cY w B ka (keys.map .string)) (hI:cY w B ia (kids.map (.int .i64))) (hkn:keys.length≤1073741824) (hin:kids.length≤1073741824) (hl:bs.length+(eA keys kids).length+8≤140737488355328) :
  Calls Tryz.prog 158 #[b,.agg #[.int .i64 kind,.int .i64 ver,.int .i64 root,.int .i64 next,.slice ka keys.length kc,.slice ia kids.length ic,.slice ea el ec,.string data]] w fun e w'=>∃ b',e=.returned b'∧Buf w' B b' (bs++eA keys kids)∧cD B w w':=by
 have hBW:B≤(w.alloc (.cells #[.int .i64 kind,.int .i64 ver,.int .i64 root,.int .i64 next,.slice ka keys.length kc,.slice ia kids.length ic,.slice ea el ec,.string data] 85)).heap.size:=by simp;omega
 have hbox:=aA w (.cells #[.int .i64 kind,.int .i64 ver,.int .i64 root,.int .i64 next,.slice ka keys.length kc,.slice ia kids.length ic,.slice ea el ec,.string data] 85)
 have gW:=(cD.refl B w).alloc hB (.cells #[.int .i64 kind,.int .i64 ver,.int .i64 root,.int .i64 next,.slice ka keys.length kc,.slice ia kids.length ic,.slice ea el ec,.string data] 85)
 have hvW:=hv.alloc (.cells #[.int .i64 kind,.int .i64 ver,.int .i64 root,.int .i64 next,.slice ka keys.length kc,.slice ia kids.length ic,.slice ea el ec,.string data] 85)
 have l0:bs.length+8≤140737488355328:=by omega
 go_enter Tryz.func158,Tryz.ntmps158
 go_wp2_with (go_at_call 143;refine(eE _ _ _ _ B _ (by assumption) (by assumption) (by decide) (by decide) l0).mono ?_;rintro e wn ⟨bn,rfl,hbn,gn⟩;have hxn:=gn.other _ _ (by assumption) rfl;obtain⟨e0,e1,e2,e3,e4,e5,e6,e7⟩:=bD hxn;have Gn:=cD.trans (show cD B w _ by assumption) gn;have hBn:B≤wn.heap.size:=Nat.le_trans hB Gn.size;clear gn)
 clear hv hvW hbox gW hBW
 go_loopw [0,17] (fun u i wr=>∃ j:Nat,j≤kids.length∧i=.int .i64 j∧Buf wr B u (bs++beB 1 keys.length++(kids.take j).flatMap (beB 2))∧cD B w wr∧wr.heap[w.heap.size]?=some (.cells #[.int .i64 kind,.int .i64 ver,.int .i64 root,.int .i64 next,.slice ka keys.length kc,.slice ia kids.length ic,.slice ea el ec,.string data] 85)) (fun _ i _=>kids.length-(intOf i).toNat)
 case atStart=>exact⟨0,Nat.zero_le _,rfl,by simpa using hbn,Gn,hxn⟩
 case round =>
  clear hbn Gn hxn e0 e1 e2 e3 e4 e5 e6 e7 hBn
  obtain⟨j,hj,rfl,hbr,gr,hxr⟩:=hrel
  have hBr:B≤wr.heap.size:=Nat.le_trans hB gr.size
  by_cases hlt:j<kids.length
  ·obtain⟨ib,io,hia,hib,hic⟩:=(hI.below gr.below).at hlt
   have lj:=Jg (beB 2) kids j hlt
   have l1:(bs++beB 1 keys.length++(kids.take j).flatMap (beB 2)).length+8≤140737488355328:=by simp only [eA,aJ,List.length_append] at hl lj ⊢;omega
   subst hia
   clear hK hI hl
   go_wp2_with (go_at_call 143;refine(eE _ _ _ _ B _ (by assumption) (by assumption) (by decide) (by decide) l1).mono ?_;rintro e wn ⟨bn,rfl,hbn,gn⟩;have hxn:=gn.other _ _ (by assumption) rfl;obtain⟨e0,e1,e2,e3,e4,e5,e6,e7⟩:=bD hxn;have Gn:=cD.trans (show cD B w _ by assumption) gn;have hBn:B≤wn.heap.size:=Nat.le_trans hB Gn.size;clear gn)
   go_roundw
   case rel=>exact⟨j+1,by omega,by go_num,by rw [sM _ _ _ hlt,← List.append_assoc];exact hbn,Gn,hxn⟩
   case measure=>simp [intOf];omega
  ·obtain rfl:j=kids.length:=by omega
   rw [List.take_length] at hbr
   obtain⟨e0,e1,e2,e3,e4,e5,e6,e7⟩:=bD hxr
   go_wp2
   go_loopw [0,28] (fun u i wr=>∃ j:Nat,j≤keys.length∧i=.int .i64 j∧Buf wr B u (bs++beB 1 keys.length++kids.flatMap (beB 2)++(keys.take j).flatMap dN)∧cD B w wr∧wr.heap[w.heap.size]?=some (.cells #[.int .i64 kind,.int .i64 ver,.int .i64 root,.int .i64 next,.slice ka keys.length kc,.slice ia kids.length ic,.slice ea el ec,.string data] 85)) (fun _ i _=>keys.length-(intOf i).toNat)
   case atStart=>exact⟨0,Nat.zero_le _,rfl,by simpa using hbr,gr,hxr⟩
   case round =>
    clear hbr gr hxr e0 e1 e2 e3 e4 e5 e6 e7 hBr
    obtain⟨j,hj,rfl,hbr,gr,hxr⟩:=hrel
    have hBr:B≤wr.heap.size:=Nat.le_trans hB gr.size
    by_cases hlt:j<keys.length
    ·obtain⟨kb,ko,hka,hkb,hkc⟩:=(hK.below gr.below).at hlt
     have lj:=Jg dN keys j hlt
     have l1:(bs++beB 1 keys.length++kids.flatMap (beB 2)++(keys.take j).flatMap dN).length+keys[j].size+1≤140737488355328:=by simp only [eA,dN,aJ,List.length_append,rQ,List.length_cons,List.length_nil] at hl lj ⊢;omega
     subst hka
     clear hK hI hl
     go_wp2_with (go_at_call 160;refine(mZ _ _ _ B _ (by assumption) (by assumption) l1).mono ?_;rintro e wn ⟨bn,rfl,hbn,gn⟩;have hxn:=gn.other _ _ (by assumption) rfl;obtain⟨e0,e1,e2,e3,e4,e5,e6,e7⟩:=bD hxn;have Gn:=cD.trans (show cD B w _ by assumption) gn;have hBn:B≤wn.heap.size:=Nat.le_trans hB Gn.size;clear gn)
     go_roundw
     case rel=>exact⟨j+1,by omega,by go_num,by rw [sM _ _ _ hlt];simpa [dN] using hbn,Gn,hxn⟩
     case measure=>simp [intOf];omega
    ·obtain rfl:j=keys.length:=by omega
     rw [List.take_length] at hbr
     clear hK hI hl
     go_wp2
     go_ret
     exact⟨_,rfl,by simpa [eA] using hbr,gr⟩
structure dQ (ρ:Nat) (w w':World):Prop where
 os:w'.os=w.os
 tape:w'.tape=w.tape
 output:w'.output=w.output
 size:w.heap.size≤w'.heap.size
 block:∀ (k:Nat),k<w.heap.size→k≠ρ→w'.heap[k]?=w.heap[k]?
theorem dQ.refl (ρ:Nat) (w:World):dQ ρ w w:=⟨rfl,rfl,rfl,Nat.le_refl _,fun _ _ _=>rfl⟩
theorem dQ.trans {a b c:World} (h:dQ ρ a b) (k:dQ ρ b c):dQ ρ a c :=
 ⟨k.os.trans h.os,k.tape.trans h.tape,k.output.trans h.output,Nat.le_trans h.size k.size,fun i hi hr=>(k.block i (Nat.lt_of_lt_of_le hi h.size) hr).trans (h.block i hi hr)⟩
theorem dQ.drewN {a w:World} (h:dQ ρ a w) (n:Nat):dQ ρ a (w.drewN n):=h.trans ⟨rfl,rfl,rfl,Nat.le_refl _,fun _ _ _=>rfl⟩
theorem dQ.setCell {a w:World} (h:dQ ρ a w) (i:Nat) (v:Value):dQ ρ a (w.setCell ⟨ρ,i,none⟩ v) :=
 h.trans ⟨rfl,rfl,rfl,by simp [World.setCell],fun k _ hr=>Below.heap_setCell _ _ _ _ hr⟩
theorem dQ.of_below {w w':World} (h:Below w.heap.size w w'):dQ ρ w w':=⟨h.os,h.tape,h.output,h.size,fun k hk _=>h.block k hk⟩
structure Rd (w:World) (ρ g c:Nat) (bs:List UInt8) (at_:Nat):Prop where
 box:w.heap[ρ]?=some (.cells #[.slice (some ⟨g,0,none⟩) bs.length c,.int .i64 at_] 228)
 bytes:∀ (j:Nat) (hj:j<bs.length),w.cell? ⟨g,j,none⟩=some (cW bs[j])
 ne:g≠ρ
 lt:g<w.heap.size
 le:at_≤bs.length
 len:bs.length≤1000
 cap:bs.length≤c
theorem bO (h:w.heap[β]?=some (.cells #[a,b] e)):w.cell? ⟨β,0,none⟩=some a∧w.cell? ⟨β,1,none⟩=some b:=by simp [World.cell?,h]
theorem aG {cs:Array Value}  (h:w.heap[β]?=some (.cells cs e)) (i:Nat):w.frozen? ⟨β,i,none⟩=false:=by simp [World.frozen?,h]
theorem aF {cs:Array Value}  (h:w.heap[β]?=some (.cells cs e)) (i:Nat) (v:Value):(w.setCell ⟨β,i,none⟩ v).heap[β]?=some (.cells (cs.setIfInBounds i v) e):=by
 simp only [World.setCell]
 rw [Array.getElem?_modify,if_pos rfl,h]
 rfl
theorem Rd.only {w w':World} {ρ g c:Nat} {bs:List UInt8} {a a':Nat} (h:Rd w ρ g c bs a) (ho:dQ ρ w w') (hr:w'.heap[ρ]?=some (.cells #[.slice (some ⟨g,0,none⟩) bs.length c,.int .i64 a'] 228)) (hle:a'≤bs.length):Rd w' ρ g c bs a' :=
 ⟨hr,fun j hj=>by rw [World.cell?_of_block (w:=w) (ho.block g h.lt h.ne)];exact h.bytes j hj,h.ne,Nat.lt_of_lt_of_le h.lt ho.size,hle,h.len,h.cap⟩
theorem yB {u v:Value} (h:u=v):Ending.returned u=.returned v:=by rw [h]
def yG (bs:List UInt8) (a:Nat):UInt8:=bs.getD a 0
def yH (bs:List UInt8) (a:Nat):Nat:=min (a+1) bs.length
theorem Zv (ρ g c:Nat) (bs:List UInt8) (a:Nat) (w:World) (h:Rd w ρ g c bs a) :
  Calls Tryz.prog 168 #[.pointer (some ⟨ρ,0,none⟩)] w fun e w'=>e=.returned (cW (yG bs a))∧Rd w' ρ g c bs (yH bs a)∧dQ ρ w w':=by
 obtain⟨r0,r1⟩:=bO h.box
 have hle:=h.le
 have hln:=h.len
 have hfr:=aG h.box
 by_cases hlt:a<bs.length
 ·have hb:=h.bytes a hlt
  have ha1:(a:Int)<(bs.length:Int):=by omega
  have hs:∀ n,((w.drewN n).setCell ⟨ρ,1,none⟩ (.int .i64 ((a:Int)+1))).heap[ρ]?=some (.cells #[.slice (some ⟨g,0,none⟩) bs.length c,.int .i64 ((a:Int)+1)] 228):=fun n=>by
   have:=aF (w:=w.drewN n) h.box 1 (.int .i64 ((a:Int)+1));simpa using this
  have q0:=fun n=>(bO (hs n)).1
  have q1:=fun n=>(bO (hs n)).2
  have hb2:∀ n,((w.drewN n).setCell ⟨ρ,1,none⟩ (.int .i64 ((a:Int)+1))).cell? ⟨g,a,none⟩=some (cW bs[a]):=fun n=>by rw [World.cell?_of_block (w:=w.drewN n) (Below.heap_setCell _ _ _ _ h.ne)];exact hb
  have e1:yG bs a=bs[a]:=by simp [yG,List.getD,List.getElem?_eq_getElem hlt]
  have e2:yH bs a=a+1:=by unfold yH;omega
  have HE1:Hid (yG bs a=bs[a]):=e1
  have HE2:Hid (yH bs a=a+1):=e2
  have HS:Hid (∀ n,((w.drewN n).setCell ⟨ρ,1,none⟩ (.int .i64 ((a:Int)+1))).heap[ρ]?=some (.cells #[.slice (some ⟨g,0,none⟩) bs.length c,.int .i64 ((a:Int)+1)] 228)):=hs
  clear e1 e2 hs
  go_enter Tryz.func168,Tryz.ntmps168
  go_wp2
  go_quiet (fail)
  go_wp2
  go_quiet (fail)
  go_wp2
  go_ret
  exact⟨yB (u:=cW bs[a]) (congrArg cW HE1.out.symm),by rw [HE2.out];exact h.only ((((dQ.refl ρ w).drewN _).setCell 1 _).drewN _) (HS.out _) (by omega),(((dQ.refl ρ w).drewN _).setCell 1 _).drewN _⟩
 ·have ha1:(bs.length:Int)≤(a:Int):=by omega
  go_enter Tryz.func168,Tryz.ntmps168
  go_wp2
  go_quiet (fail)
  go_wp2
  go_ret
  have e1:yG bs a=0:=by simp [yG,List.getD,List.getElem?_eq_none (by omega:bs.length≤a)]
  have e2:yH bs a=a:=by unfold yH;omega
  exact⟨yB (by rw [e1];rfl),by rw [e2];exact h.only ((dQ.refl ρ w).drewN _) h.box hle,(dQ.refl ρ w).drewN _⟩
def iA (bs:List UInt8) (a:Nat):Nat→Nat
 | 0=>0
 | k+1=>iA bs a k * 256+(bs.getD (a+k) 0).toNat
def aU (bs:List UInt8) (a k:Nat):Nat:=min (a+k) bs.length
theorem Ti (bs:List UInt8) (a k:Nat):iA bs a k<256 ^ k:=by
 induction k with
 | zero=>simp [iA]
 | succ k ih =>
  have:=(bs.getD (a+k) 0).toNat_lt
  simp only [iA,Nat.pow_succ]
  omega
theorem qCo (h:j≤7):256 ^ j≤72057594037927936:=by
 have:256 ^ j≤256 ^ 7:=Nat.pow_le_pow_right (by omega) h
 simpa using this
theorem Vs (bs:List UInt8) (a j:Nat) (h:a≤bs.length):yG bs (aU bs a j)=bs.getD (a+j) 0:=by
 unfold yG aU
 by_cases hl:a+j≤bs.length
 ·rw [Nat.min_eq_left hl]
 ·rw [Nat.min_eq_right (by omega)]
  simp [List.getD,List.getElem?_eq_none (by omega:bs.length≤a+j)]
theorem Fq {bs:List UInt8} {a:Nat} (h:a≤bs.length):aU bs a 0=a:=by unfold aU;omega
theorem Vt (bs:List UInt8) (a j:Nat):yH bs (aU bs a j)=aU bs a (j+1):=by unfold yH aU;omega
theorem qCr {V n:Nat} (hV:V<72057594037927936) (hn:n<2 ^ 8):bits BinOp.or IntKind.u64 ((V:Int) * 256) (n:Int)=((V * 256+n:Nat):Int):=by
 have e:(V:Int) * 256=((V * 256:Nat):Int):=by omega
 rw [e,u64_or_nat _ _ (by omega) (by omega),nat_join 8 _ _ (by omega) hn]
theorem tU (ρ g c:Nat) (bs:List UInt8) (a k:Nat) (w:World) (h:Rd w ρ g c bs a) (hk:k≤8) :
  Calls Tryz.prog 150 #[.pointer (some ⟨ρ,0,none⟩),.int .i64 k] w fun e w'=>e=.returned (.int .i64 (wrap64 (iA bs a k)))∧Rd w' ρ g c bs (aU bs a k)∧dQ ρ w w':=by
 have hle:=h.le
 go_enter Tryz.func150,Tryz.ntmps150
 go_wp2
 go_loopw [5,7] (fun u i wr=>∃ j:Nat,j≤k∧i=.int .i64 j∧u=.int .u64 (iA bs a j:Nat)∧Rd wr ρ g c bs (aU bs a j)∧dQ ρ w wr) (fun _ i _=>k-(intOf i).toNat)
 case atStart=>exact⟨0,Nat.zero_le _,rfl,rfl,by rw [Fq hle];exact h,dQ.refl _ _⟩
 case round =>
  obtain⟨j,hj,rfl,rfl,hr,ho⟩:=hrel
  have hv:=Ti bs a j
  by_cases hlt:j<k
  ·have hp:=qCo (show j≤7 by omega)
   have hN:=Zv ρ g c bs (aU bs a j) wr hr
   rw [Vs bs a j hle,Vt] at hN
   have hbt:=(bs.getD (a+j) 0).toNat_lt
   obtain⟨b,hb⟩:∃ b,b=bs.getD (a+j) 0:=⟨_,rfl⟩
   have HB:Hid (iA bs a (j+1)=iA bs a j * 256+b.toNat):=by show _=_;rw [hb];rfl
   rw [← hb] at hN hbt
   obtain⟨V,hV⟩:∃ V,V=iA bs a j:=⟨_,rfl⟩
   rw [← hV] at hv HB
   rw [← hV]
   clear hb hV
   unfold cW at hN
   go_wp2_with (go_at_call 168;refine hN.mono ?_;rintro e wn ⟨rfl,hrn,hon⟩)
   go_roundw
   case rel=>exact⟨j+1,by omega,by go_num,by rw [HB.out,qCr (by omega) hbt],hrn,ho.trans hon⟩
   case measure=>simp [intOf];omega
  ·obtain rfl:j=k:=by omega
   go_wp2
   go_ret
   exact⟨rfl,hr,ho⟩
theorem jI (ρ g c:Nat) (bs:List UInt8) (a:Nat) (w:World) (h:Rd w ρ g c bs a) :
  Calls Tryz.prog 150 #[.pointer (some ⟨ρ,0,none⟩),.int .i64 1] w fun e w'=>e=.returned (.int .i64 ((bs.getD a 0).toNat:Nat))∧Rd w' ρ g c bs (aU bs a 1)∧dQ ρ w w':=by
 refine(tU ρ g c bs a 1 w h (by omega)).mono fun e w' ⟨he,hr,ho⟩=>⟨?_,hr,ho⟩
 rw [he]
 refine yB (congrArg (Value.int .i64) ?_)
 have:=(bs.getD a 0).toNat_lt
 simp only [iA,Nat.add_zero,Nat.zero_mul,Nat.zero_add]
 unfold wrap64
 omega
theorem vZ (u:World) (g p S c:Nat) (bs:List UInt8) (hb:∀ (j:Nat) (hj:j<bs.length),u.cell? ⟨g,j,none⟩=some (cW bs[j])) (h1:p+S≤bs.length) (h2:bs.length≤c) :
  (convert 115 9 (.slice (if c=p then some ⟨g,0,none⟩ else some ⟨g,p,none⟩) S (c-p))).run Tryz.prog u=.ok (.string ⟨((bs.drop p).take S).toArray⟩) u:=by
 have hl:((bs.drop p).take S).length=S:=by simp;omega
 by_cases hc:c=p
 ·have hS:S=0:=by omega
  subst hS
  rw [if_pos hc]
  have:=run_convert_bytes_back (P:=Tryz.prog) u 115 9 5 ⟨g,0,none⟩ (c-p) [] Tryz.underlying115 Tryz.underlying5 Tryz.underlying9 (fun j hj=>by simp at hj)
  simpa using this
 ·rw [if_neg hc]
  have:=run_convert_bytes_back (P:=Tryz.prog) u 115 9 5 ⟨g,p,none⟩ (c-p) ((bs.drop p).take S) Tryz.underlying115 Tryz.underlying5 Tryz.underlying9 (fun j hj=>by
   have e:(⟨g,p,none⟩:Addr).add j=⟨g,p+j,none⟩:=by unfold Addr.add;split<;>simp_all
   rw [hl] at hj
   rw [e,hb (p+j) (by omega)]
   simp [cW])
  rw [hl] at this
  exact this
theorem Us {l:List UInt8} {p S:Nat} (h:l.length≤p+S):(l.drop p).take (l.length-p)=(l.drop p).take S:=by
 rw [List.take_of_length_le (by simp),List.take_of_length_le (by simp;omega)]
def mB (bs:List UInt8) (a:Nat):List UInt8:=(bs.drop (aU bs a 1)).take (bs.getD a 0).toNat
def gP (bs:List UInt8) (a:Nat):Nat:=min (aU bs a 1+(bs.getD a 0).toNat) bs.length
theorem rX (ρ g c:Nat) (bs:List UInt8) (a:Nat) (w:World) (h:Rd w ρ g c bs a) :
  Calls Tryz.prog 153 #[.pointer (some ⟨ρ,0,none⟩)] w fun e w'=>e=.returned (.string ⟨(mB bs a).toArray⟩)∧Rd w' ρ g c bs (gP bs a)∧dQ ρ w w':=by
 have hln:=h.len
 have hcp:=h.cap
 have hst:=(bs.getD a 0).toNat_lt
 obtain⟨S,hS⟩:∃ S,S=(bs.getD a 0).toNat:=⟨_,rfl⟩
 obtain⟨p,hp⟩:∃ p,p=aU bs a 1:=⟨_,rfl⟩
 have hN:=jI ρ g c bs a w h
 rw [← hS,← hp] at hN
 have hple:p≤bs.length:=by rw [hp];unfold aU;omega
 rw [← hS] at hst
 have HB:Hid (mB bs a=(bs.drop p).take S):=by show _=_;rw [hS,hp];rfl
 have HA:Hid (gP bs a=min (p+S) bs.length):=by show _=_;rw [hS,hp];rfl
 clear hS hp
 by_cases ht:p+S≤bs.length
 ·have ht':(p:Int)+(S:Int)≤(bs.length:Int):=by omega
  have ht2:(p:Int)≤(p:Int)+(S:Int):=by omega
  have ht3:(p:Int)+(S:Int)≤(c:Int):=by omega
  have hcv:∀ (u:World),(∀ (j:Nat) (hj:j<bs.length),u.cell? ⟨g,j,none⟩=some (cW bs[j]))→(convert 115 9 (.slice (if c=p then some ⟨g,0,none⟩ else some ⟨g,p,none⟩) (((p:Int)+(S:Int)).toNat-p) (c-p))).run Tryz.prog u=.ok (.string ⟨((bs.drop p).take S).toArray⟩) u:=fun u hu=>by
   rw [show ((p:Int)+(S:Int)).toNat-p=S by omega]
   exact vZ u g p S c bs hu (by omega) hcp
  by_cases hc:c=p
  ·have hc':p=c:=hc.symm
   subst hc'
   clear hcv
   have hcv:∀ (u:World),(∀ (j:Nat) (hj:j<bs.length),u.cell? ⟨g,j,none⟩=some (cW bs[j]))→(convert 115 9 (.slice (some ⟨g,0,none⟩) 0 0)).run Tryz.prog u=.ok (.string ⟨((bs.drop p).take S).toArray⟩) u:=fun u hu=>by
    have h0:=vZ u g p S p bs hu (by omega) (by omega)
    have e:S=0:=by omega
    rw [if_pos rfl,Nat.sub_self] at h0
    rw [e] at h0 ⊢
    exact h0
   go_enter Tryz.func153,Tryz.ntmps153
   go_wp2_with (go_at_call 150;refine hN.mono ?_;rintro e w1 ⟨rfl,hr1,ho1⟩;obtain⟨r0,r1⟩:=bO hr1.box;have hfr:=aG hr1.box;have hs:=aF hr1.box 1 (.int .i64 ((p:Int)+(S:Int)));have q0:=(bO hs).1;have q1:=(bO hs).2;have HS2:Hid _:=hs;clear hs;have hcw:=fun n=>hcv ((w1.setCell ⟨ρ,1,none⟩ (.int .i64 ((p:Int)+(S:Int)))).drewN n) (fun j hj=>(World.cell?_of_block (w:=w1) (Below.heap_setCell _ _ _ _ hr1.ne)).trans (hr1.bytes j hj)))
   clear hcv
   go_quiet (fail)
   go_wp2
   all_goals go_ret
   all_goals exact⟨yB (u:=.string ⟨((bs.drop p).take S).toArray⟩) (by rw [HB.out]),by rw [HA.out,show min (p+S) bs.length=p+S by omega];exact hr1.only (((dQ.refl ρ w1).setCell 1 _).drewN _) (by first|simpa using HS2.out|(rw [show ((p+S:Nat):Int)=(p:Int)+(S:Int) by omega];simpa using HS2.out)) (by omega),(ho1.setCell 1 (.int .i64 ((p:Int)+(S:Int)))).drewN _⟩
  ·simp only [if_neg hc] at hcv
   go_enter Tryz.func153,Tryz.ntmps153
   go_wp2_with (go_at_call 150;refine hN.mono ?_;rintro e w1 ⟨rfl,hr1,ho1⟩;obtain⟨r0,r1⟩:=bO hr1.box;have hfr:=aG hr1.box;have hs:=aF hr1.box 1 (.int .i64 ((p:Int)+(S:Int)));have q0:=(bO hs).1;have q1:=(bO hs).2;have HS2:Hid _:=hs;clear hs;have hcw:=fun n=>hcv ((w1.setCell ⟨ρ,1,none⟩ (.int .i64 ((p:Int)+(S:Int)))).drewN n) (fun j hj=>(World.cell?_of_block (w:=w1) (Below.heap_setCell _ _ _ _ hr1.ne)).trans (hr1.bytes j hj)))
   clear hcv
   go_quiet (fail)
   go_wp2
   all_goals go_ret
   all_goals exact⟨yB (u:=.string ⟨((bs.drop p).take S).toArray⟩) (by rw [HB.out]),by rw [HA.out,show min (p+S) bs.length=p+S by omega];exact hr1.only (((dQ.refl ρ w1).setCell 1 _).drewN _) (by first|simpa using HS2.out|(rw [show ((p+S:Nat):Int)=(p:Int)+(S:Int) by omega];simpa using HS2.out)) (by omega),(ho1.setCell 1 (.int .i64 ((p:Int)+(S:Int)))).drewN _⟩
 ·have ht':(bs.length:Int)<(p:Int)+(S:Int):=by omega
  have ht2:(p:Int)≤(bs.length:Int):=by omega
  have ht3:(bs.length:Int)≤(c:Int):=by omega
  have hcv:∀ (u:World),(∀ (j:Nat) (hj:j<bs.length),u.cell? ⟨g,j,none⟩=some (cW bs[j]))→(convert 115 9 (.slice (if c=p then some ⟨g,0,none⟩ else some ⟨g,p,none⟩) (bs.length-p) (c-p))).run Tryz.prog u=.ok (.string ⟨((bs.drop p).take (bs.length-p)).toArray⟩) u:=fun u hu=>by
   rw [show bs.length-p=(bs.length-p) by omega]
   exact vZ u g p (bs.length-p) c bs hu (by omega) hcp
  by_cases hc:c=p
  ·have hc':p=c:=hc.symm
   subst hc'
   clear hcv
   have hcv:∀ (u:World),(∀ (j:Nat) (hj:j<bs.length),u.cell? ⟨g,j,none⟩=some (cW bs[j]))→(convert 115 9 (.slice (some ⟨g,0,none⟩) 0 0)).run Tryz.prog u=.ok (.string ⟨((bs.drop p).take (bs.length-p)).toArray⟩) u:=fun u hu=>by
    have h0:=vZ u g p (bs.length-p) p bs hu (by omega) (by omega)
    have e:(bs.length-p)=0:=by omega
    rw [if_pos rfl,Nat.sub_self] at h0
    rw [e] at h0 ⊢
    exact h0
   go_enter Tryz.func153,Tryz.ntmps153
   go_wp2_with (go_at_call 150;refine hN.mono ?_;rintro e w1 ⟨rfl,hr1,ho1⟩;obtain⟨r0,r1⟩:=bO hr1.box;have hfr:=aG hr1.box;have hs:=aF hr1.box 1 (.int .i64 (bs.length:Int));have q0:=(bO hs).1;have q1:=(bO hs).2;have HS2:Hid _:=hs;clear hs;have hcw:=fun n=>hcv ((w1.setCell ⟨ρ,1,none⟩ (.int .i64 (bs.length:Int))).drewN n) (fun j hj=>(World.cell?_of_block (w:=w1) (Below.heap_setCell _ _ _ _ hr1.ne)).trans (hr1.bytes j hj)))
   clear hcv
   go_quiet (fail)
   go_wp2
   all_goals go_ret
   all_goals exact⟨yB (u:=.string ⟨#[]⟩) (by rw [HB.out,List.drop_eq_nil_of_le (by omega)];simp),by rw [HA.out,show min (p+S) bs.length=bs.length by omega];exact hr1.only (((dQ.refl ρ w1).setCell 1 _).drewN _) (by first|simpa using HS2.out|(rw [show ((p+S:Nat):Int)=(p:Int)+(S:Int) by omega];simpa using HS2.out)) (by omega),(ho1.setCell 1 (.int .i64 (bs.length:Int))).drewN _⟩
  ·simp only [if_neg hc] at hcv
   go_enter Tryz.func153,Tryz.ntmps153
   go_wp2_with (go_at_call 150;refine hN.mono ?_;rintro e w1 ⟨rfl,hr1,ho1⟩;obtain⟨r0,r1⟩:=bO hr1.box;have hfr:=aG hr1.box;have hs:=aF hr1.box 1 (.int .i64 (bs.length:Int));have q0:=(bO hs).1;have q1:=(bO hs).2;have HS2:Hid _:=hs;clear hs;have hcw:=fun n=>hcv ((w1.setCell ⟨ρ,1,none⟩ (.int .i64 (bs.length:Int))).drewN n) (fun j hj=>(World.cell?_of_block (w:=w1) (Below.heap_setCell _ _ _ _ hr1.ne)).trans (hr1.bytes j hj)))
   clear hcv
   go_quiet (fail)
   go_wp2
   all_goals go_ret
   all_goals exact⟨yB (u:=.string ⟨((bs.drop p).take (bs.length-p)).toArray⟩) (by rw [HB.out];rw [Us (S:=S) (by omega)]),by rw [HA.out,show min (p+S) bs.length=bs.length by omega];exact hr1.only (((dQ.refl ρ w1).setCell 1 _).drewN _) (by first|simpa using HS2.out|(rw [show ((p+S:Nat):Int)=(p:Int)+(S:Int) by omega];simpa using HS2.out)) (by omega),(ho1.setCell 1 (.int .i64 (bs.length:Int))).drewN _⟩
structure Ent where
 key:ByteArray
 val:ByteArray
 size:Int
 over:Int
def Ent.cells (e:Ent):List Value:=[.string e.key,.string e.val,.int .i64 e.size,.int .i64 e.over]
def Ent.bytes (e:Ent):List UInt8:=kZ e.key e.val e.size e.over
theorem qBt (ents:List Ent) (j i:Nat) (hj:j<ents.length) (hi:i<4):(ents.flatMap Ent.cells)[4 * j+i]?=(ents[j].cells)[i]?:=by
 induction ents generalizing j with
 | nil=>simp at hj
 | cons e l ih =>
  cases j with
  | zero =>
   simp only [List.flatMap_cons,Nat.mul_zero,Nat.zero_add,List.getElem_cons_zero]
   rw [List.getElem?_append_left (by simp [Ent.cells];omega)]
  | succ j =>
   simp only [List.flatMap_cons,List.getElem_cons_succ]
   have h4:e.cells.length=4:=rfl
   rw [List.getElem?_append_right (by omega),h4,show 4 * (j+1)+i-4=4 * j+i by omega]
   exact ih j (by simpa using hj)
theorem cY.ent {B:Nat} {a:Option Addr} {l:List Ent}  (h:cY w B a (l.flatMap Ent.cells)) (hj:j<l.length):∃ b off,a=some ⟨b,off,none⟩∧b<B ∧
  w.cell? ⟨b,off+j * 4,none⟩=some (.string l[j].key)∧w.cell? ⟨b,off+j * 4+1,none⟩=some (.string l[j].val)∧w.cell? ⟨b,off+j * 4+2,none⟩=some (.int .i64 l[j].size)∧w.cell? ⟨b,off+j * 4+3,none⟩=some (.int .i64 l[j].over):=by
 have c:=fun i (hi:i<4)=>qBt l j i hj hi
 rcases h with h|⟨b,off,ha,hb,hc⟩
 ·have:=c 0 (by omega);rw [h] at this;simp [Ent.cells] at this
 ·refine⟨b,off,ha,hb,?_,?_,?_,?_⟩
  ·rw [Nat.mul_comm];exact hc (4 * j) _ (c 0 (by omega))
  ·rw [Nat.mul_comm,Nat.add_assoc];exact hc (4 * j+1) _ (c 1 (by omega))
  ·rw [Nat.mul_comm,Nat.add_assoc];exact hc (4 * j+2) _ (c 2 (by omega))
  ·rw [Nat.mul_comm,Nat.add_assoc];exact hc (4 * j+3) _ (c 3 (by omega))
def lH (ents:List Ent):List UInt8:=beB 1 ents.length++ents.flatMap Ent.bytes
theorem Ng (ver root next:Int) (ka ia ea:Option Addr) (kc ic ec:Nat) (data:ByteArray) (keys:List ByteArray) (kids:List Int) (ents:List Ent) (B:Nat) (w:World) (hB:B≤w.heap.size) :
  Calls Tryz.prog 142 #[.agg #[.int .i64 1,.int .i64 ver,.int .i64 root,.int .i64 next,.slice ka keys.length kc,.slice ia kids.length ic,.slice ea ents.length ec,.string data]] w fun e w'=>∃ b',e=.returned b'∧Buf w' B b' (beB 1 1++beB 8 ver++beB 2 root)∧cD B w w':=by
 have hBW:B≤(w.alloc (.cells #[.int .i64 1,.int .i64 ver,.int .i64 root,.int .i64 next,.slice ka keys.length kc,.slice ia kids.length ic,.slice ea ents.length ec,.string data] 85)).heap.size:=by simp;omega
 have hbox:=aA w (.cells #[.int .i64 1,.int .i64 ver,.int .i64 root,.int .i64 next,.slice ka keys.length kc,.slice ia kids.length ic,.slice ea ents.length ec,.string data] 85)
 have gW:=(cD.refl B w).alloc hB (.cells #[.int .i64 1,.int .i64 ver,.int .i64 root,.int .i64 next,.slice ka keys.length kc,.slice ia kids.length ic,.slice ea ents.length ec,.string data] 85)
 have hvW:=Buf.nil (w.alloc (.cells #[.int .i64 1,.int .i64 ver,.int .i64 root,.int .i64 next,.slice ka keys.length kc,.slice ia kids.length ic,.slice ea ents.length ec,.string data] 85)) B
 go_enter Tryz.func142,Tryz.ntmps142
 go_wp2_with (go_at_call 143;refine(eE _ _ _ _ B _ (by assumption) (by assumption) (by decide) (by decide) (by simp [aJ])).mono ?_;rintro e wn ⟨bn,rfl,hbn,gn⟩;have hxn:=gn.other _ _ (by assumption) rfl;obtain⟨e0,e1,e2,e3,e4,e5,e6,e7⟩:=bD hxn;have Gn:=cD.trans (show cD B w _ by assumption) gn;have hBn:B≤wn.heap.size:=Nat.le_trans hB Gn.size;clear gn)
 go_ret
 exact⟨_,rfl,by simpa using hbn,Gn⟩
theorem Ei (ver root next:Int) (ka ia ea:Option Addr) (kc ic ec:Nat) (data:ByteArray) (keys:List ByteArray) (kids:List Int) (ents:List Ent) (B:Nat) (w:World) (hB:B≤w.heap.size) (hK:cY w B ka (keys.map .string)) (hI:cY w B ia (kids.map (.int .i64))) (hkn:keys.length≤1073741824) (hin:kids.length≤1073741824) (hl:(eA keys kids).length+20≤140737488355328) :
  Calls Tryz.prog 142 #[.agg #[.int .i64 2,.int .i64 ver,.int .i64 root,.int .i64 next,.slice ka keys.length kc,.slice ia kids.length ic,.slice ea ents.length ec,.string data]] w fun e w'=>∃ b',e=.returned b'∧Buf w' B b' (beB 1 2++eA keys kids)∧cD B w w':=by
 have hBW:B≤(w.alloc (.cells #[.int .i64 2,.int .i64 ver,.int .i64 root,.int .i64 next,.slice ka keys.length kc,.slice ia kids.length ic,.slice ea ents.length ec,.string data] 85)).heap.size:=by simp;omega
 have hbox:=aA w (.cells #[.int .i64 2,.int .i64 ver,.int .i64 root,.int .i64 next,.slice ka keys.length kc,.slice ia kids.length ic,.slice ea ents.length ec,.string data] 85)
 have gW:=(cD.refl B w).alloc hB (.cells #[.int .i64 2,.int .i64 ver,.int .i64 root,.int .i64 next,.slice ka keys.length kc,.slice ia kids.length ic,.slice ea ents.length ec,.string data] 85)
 have hvW:=Buf.nil (w.alloc (.cells #[.int .i64 2,.int .i64 ver,.int .i64 root,.int .i64 next,.slice ka keys.length kc,.slice ia kids.length ic,.slice ea ents.length ec,.string data] 85)) B
 have l2:([]++beB (Int.toNat 1) 2).length+(eA keys kids).length+8≤140737488355328:=by simp only [List.length_append,List.length_nil,aJ];omega
 go_enter Tryz.func142,Tryz.ntmps142
 go_wp2_with (first
  | (go_at_call 143;refine(eE _ _ _ _ B _ (by assumption) (by assumption) (by decide) (by decide) (by simp [aJ])).mono ?_;rintro e wn ⟨bn,rfl,hbn,gn⟩;have hxn:=gn.other _ _ (by assumption) rfl;obtain⟨e0,e1,e2,e3,e4,e5,e6,e7⟩:=bD hxn;have Gn:=cD.trans (show cD B w _ by assumption) gn;have hBn:B≤wn.heap.size:=Nat.le_trans hB Gn.size;clear gn;have hKn:=hK.below Gn.below;have hIn:=hI.below Gn.below)
  | (go_at_call 158;refine(xO _ _ _ _ _ _ _ _ _ _ _ _ _ _ _ _ B _ (by assumption) (by assumption) hKn hIn hkn hin l2).mono ?_;rintro e wn ⟨bn,rfl,hbn,gn⟩;have hxn:=gn.other _ _ (by assumption) rfl;obtain⟨e0,e1,e2,e3,e4,e5,e6,e7⟩:=bD hxn;have Gn:=cD.trans (show cD B w _ by assumption) gn;have hBn:B≤wn.heap.size:=Nat.le_trans hB Gn.size;clear gn))
 go_ret
 exact⟨_,rfl,by simpa using hbn,Gn⟩
theorem Nf (ver root next:Int) (ka ia ea:Option Addr) (kc ic ec:Nat) (data:ByteArray) (keys:List ByteArray) (kids:List Int) (ents:List Ent) (B:Nat) (w:World) (hB:B≤w.heap.size) (hl:data.size+4≤140737488355328) :
  Calls Tryz.prog 142 #[.agg #[.int .i64 4,.int .i64 ver,.int .i64 root,.int .i64 next,.slice ka keys.length kc,.slice ia kids.length ic,.slice ea ents.length ec,.string data]] w fun e w'=>∃ b',e=.returned b'∧Buf w' B b' (beB 1 4++beB 2 next++dN data)∧cD B w w':=by
 have hBW:B≤(w.alloc (.cells #[.int .i64 4,.int .i64 ver,.int .i64 root,.int .i64 next,.slice ka keys.length kc,.slice ia kids.length ic,.slice ea ents.length ec,.string data] 85)).heap.size:=by simp;omega
 have hbox:=aA w (.cells #[.int .i64 4,.int .i64 ver,.int .i64 root,.int .i64 next,.slice ka keys.length kc,.slice ia kids.length ic,.slice ea ents.length ec,.string data] 85)
 have gW:=(cD.refl B w).alloc hB (.cells #[.int .i64 4,.int .i64 ver,.int .i64 root,.int .i64 next,.slice ka keys.length kc,.slice ia kids.length ic,.slice ea ents.length ec,.string data] 85)
 have hvW:=Buf.nil (w.alloc (.cells #[.int .i64 4,.int .i64 ver,.int .i64 root,.int .i64 next,.slice ka keys.length kc,.slice ia kids.length ic,.slice ea ents.length ec,.string data] 85)) B
 go_enter Tryz.func142,Tryz.ntmps142
 go_wp2_with (first
  | (go_at_call 143;refine(eE _ _ _ _ B _ (by assumption) (by assumption) (by decide) (by decide) (by simp [aJ])).mono ?_;rintro e wn ⟨bn,rfl,hbn,gn⟩;have hxn:=gn.other _ _ (by assumption) rfl;obtain⟨e0,e1,e2,e3,e4,e5,e6,e7⟩:=bD hxn;have Gn:=cD.trans (show cD B w _ by assumption) gn;have hBn:B≤wn.heap.size:=Nat.le_trans hB Gn.size;clear gn)
  | (go_at_call 160;refine(mZ _ _ _ B _ (by assumption) (by assumption) (by simp [aJ];omega)).mono ?_;rintro e wn ⟨bn,rfl,hbn,gn⟩;have hxn:=gn.other _ _ (by assumption) rfl;obtain⟨e0,e1,e2,e3,e4,e5,e6,e7⟩:=bD hxn;have Gn:=cD.trans (show cD B w _ by assumption) gn;have hBn:B≤wn.heap.size:=Nat.le_trans hB Gn.size;clear gn))
 go_ret
 exact⟨_,rfl,by simpa [dN] using hbn,Gn⟩
theorem Nh (ver root next:Int) (ka ia ea:Option Addr) (kc ic ec:Nat) (data:ByteArray) (keys:List ByteArray) (kids:List Int) (ents:List Ent) (B:Nat) (w:World) (hB:B≤w.heap.size) (hE:cY w B ea (ents.flatMap Ent.cells)) (hen:ents.length≤1073741824) (hsm:∀ e∈ents,e.key.size≤1073741824∧e.val.size≤1073741824) (hl:1+(lH ents).length≤1407374883553) :
  Calls Tryz.prog 142 #[.agg #[.int .i64 3,.int .i64 ver,.int .i64 root,.int .i64 next,.slice ka keys.length kc,.slice ia kids.length ic,.slice ea ents.length ec,.string data]] w fun e w'=>∃ b',e=.returned b'∧Buf w' B b' (beB 1 3++lH ents)∧cD B w w':=by
 have hBW:B≤(w.alloc (.cells #[.int .i64 3,.int .i64 ver,.int .i64 root,.int .i64 next,.slice ka keys.length kc,.slice ia kids.length ic,.slice ea ents.length ec,.string data] 85)).heap.size:=by simp;omega
 have hbox:=aA w (.cells #[.int .i64 3,.int .i64 ver,.int .i64 root,.int .i64 next,.slice ka keys.length kc,.slice ia kids.length ic,.slice ea ents.length ec,.string data] 85)
 have gW:=(cD.refl B w).alloc hB (.cells #[.int .i64 3,.int .i64 ver,.int .i64 root,.int .i64 next,.slice ka keys.length kc,.slice ia kids.length ic,.slice ea ents.length ec,.string data] 85)
 have hvW:=Buf.nil (w.alloc (.cells #[.int .i64 3,.int .i64 ver,.int .i64 root,.int .i64 next,.slice ka keys.length kc,.slice ia kids.length ic,.slice ea ents.length ec,.string data] 85)) B
 go_enter Tryz.func142,Tryz.ntmps142
 go_wp2_with (go_at_call 143;refine(eE _ _ _ _ B _ (by assumption) (by assumption) (by decide) (by decide) (by simp [aJ])).mono ?_;rintro e wn ⟨bn,rfl,hbn,gn⟩;have hxn:=gn.other _ _ (by assumption) rfl;obtain⟨e0,e1,e2,e3,e4,e5,e6,e7⟩:=bD hxn;have Gn:=cD.trans (show cD B w _ by assumption) gn;have hBn:B≤wn.heap.size:=Nat.le_trans hB Gn.size;clear gn)
 clear hvW hbox gW hBW
 go_loopw [3,36] (fun u i wr=>∃ j:Nat,j≤ents.length∧i=.int .i64 j∧Buf wr B u (beB 1 3++beB 1 ents.length++(ents.take j).flatMap Ent.bytes)∧cD B w wr) (fun _ i _=>ents.length-(intOf i).toNat)
 case atStart=>exact⟨0,Nat.zero_le _,rfl,by simpa using hbn,Gn⟩
 case round =>
  clear hbn Gn hxn e0 e1 e2 e3 e4 e5 e6 e7 hBn
  obtain⟨j,hj,rfl,hbr,gr⟩:=hrel
  have hBr:B≤wr.heap.size:=Nat.le_trans hB gr.size
  by_cases hlt:j<ents.length
  ·obtain⟨ib,io,hia,hib,d0,d1,d2,d3⟩:=(hE.below gr.below).ent hlt
   have lj:=Jg Ent.bytes ents j hlt
   have sj:=hsm ents[j] (List.getElem_mem hlt)
   have l3:(beB 1 3++beB 1 ents.length++(ents.take j).flatMap Ent.bytes).length+ents[j].key.size+ents[j].val.size+20≤140737488355328:=by simp only [lH,aJ,List.length_append] at hl lj ⊢;omega
   subst hia
   clear hE hl hsm
   have hjw:j * 4≤4294967296:=by omega
   have hBa:∀ o:Obj,B≤(wr.alloc o).heap.size:=fun o=>by simp;omega
   go_wp2_with (go_at_call 159;refine(zS _ _ _ _ _ _ B _ (hbr.alloc _) (hBa _) l3).mono ?_;rintro e wn ⟨bn,rfl,hbn,gn⟩)
   have Gn:=gr.trans (((cD.refl B wr).alloc hBr _).trans gn)
   go_roundw
   case rel=>exact⟨j+1,by omega,by go_num,by rw [sM _ _ _ hlt,← List.append_assoc];exact hbn,Gn⟩
   case measure=>simp [intOf];omega
  ·obtain rfl:j=ents.length:=by omega
   rw [List.take_length] at hbr
   clear hE hl hsm
   go_wp2
   go_ret
   exact⟨_,rfl,by simpa [lH] using hbr,gr⟩
theorem qEr {p:α→Bool} {l:List α}  (h:j<l.length) (hp:p l[j]=false):(l.drop j).all p=false:=by
 rw [List.drop_eq_getElem_cons h,List.all_cons,hp];rfl
theorem qDo {p:α→Bool} {l:List α}  (h:j<l.length) (hp:p l[j]=true):(l.drop j).all p=(l.drop (j+1)).all p:=by
 rw [List.drop_eq_getElem_cons h,List.all_cons,hp];rfl
def Gj (ver root:Int):Bool:=decide (0≤ver)&&(root==0||aQ root)
def Br (next:Int) (data:ByteArray):Bool:=(next==0||aQ next)&&(decide (1≤data.size)&&decide (data.size≤240))
theorem Eb (kind:Int) (ver root next:Int) (ka ia ea:Option Addr) (kc ic ec:Nat) (data:ByteArray) (keys:List ByteArray) (kids:List Int) (ents:List Ent) (w:World) :
  Calls Tryz.prog 154 #[.agg #[.int .i64 kind,.int .i64 ver,.int .i64 root,.int .i64 next,.slice ka keys.length kc,.slice ia kids.length ic,.slice ea ents.length ec,.string data]] w fun e w'=>e=.returned (.bool (Gj ver root))∧Below w.heap.size w w':=by
 go_enter Tryz.func154,Tryz.ntmps154
 go_wp2_with (go_at_call 169;refine(kX _ _).mono ?_;rintro e w' ⟨rfl,rfl⟩)
 all_goals go_ret
 all_goals refine⟨bS ?_,(Below.refl _ _).alloc (Nat.le_refl _) _⟩
 all_goals simp_all [Gj,nJ]
 all_goals omega
theorem Ea (kind:Int) (ver root next:Int) (ka ia ea:Option Addr) (kc ic ec:Nat) (data:ByteArray) (keys:List ByteArray) (kids:List Int) (ents:List Ent) (w:World) :
  Calls Tryz.prog 157 #[.agg #[.int .i64 kind,.int .i64 ver,.int .i64 root,.int .i64 next,.slice ka keys.length kc,.slice ia kids.length ic,.slice ea ents.length ec,.string data]] w fun e w'=>e=.returned (.bool (Br next data))∧Below w.heap.size w w':=by
 go_enter Tryz.func157,Tryz.ntmps157
 go_wp2_with (go_at_call 169;refine(kX _ _).mono ?_;rintro e w' ⟨rfl,rfl⟩)
 all_goals go_ret
 all_goals refine⟨bS ?_,(Below.refl _ _).alloc (Nat.le_refl _) _⟩
 all_goals simp_all [Br,nJ]
 all_goals first|omega|(rw [Bool.eq_iff_iff];simp;omega)
def fL:ByteArray→List ByteArray→Bool
 | _,[]=>true
 | last,k :: r=>gG last k&&fL k r
def gH (keys:List ByteArray) (kids:List Int):Bool:=decide (keys.length≠0)&&decide (kids.length=keys.length+1)&&kids.all aQ&&fL ⟨#[]⟩ keys
theorem zJ (kind:Int) (ver root next:Int) (ka ia ea:Option Addr) (kc ic ec:Nat) (data:ByteArray) (keys:List ByteArray) (kids:List Int) (ents:List Ent) (w:World) (hK:cY w w.heap.size ka (keys.map .string)) (hI:cY w w.heap.size ia (kids.map (.int .i64))) (hkn:keys.length≤1073741824) (hin:kids.length≤1073741824) :
  Calls Tryz.prog 155 #[.agg #[.int .i64 kind,.int .i64 ver,.int .i64 root,.int .i64 next,.slice ka keys.length kc,.slice ia kids.length ic,.slice ea ents.length ec,.string data]] w fun e w'=>e=.returned (.bool (gH keys kids))∧Below w.heap.size w w':=by
 have hb:=(Below.refl w.heap.size w).alloc (Nat.le_refl _) (.cells #[.int .i64 kind,.int .i64 ver,.int .i64 root,.int .i64 next,.slice ka keys.length kc,.slice ia kids.length ic,.slice ea ents.length ec,.string data] 85)
 by_cases h0:keys.length=0
 ·have h0':((keys.length:Int)==0)=true:=beq_iff_eq.2 (by omega)
  have H0:Hid (keys.length=0):=h0
  clear h0
  go_enter Tryz.func155,Tryz.ntmps155
  go_wp2
  go_ret
  exact⟨bS (by simp [gH,H0.out]),hb⟩
 have h0':((keys.length:Int)==0)=false:=beq_eq_false_iff_ne.2 (by omega)
 by_cases h1:kids.length=keys.length+1
 ·have h1':((kids.length:Int) != (keys.length:Int)+1)=false:=by simp;omega
  have H1:Hid (kids.length=keys.length+1):=h1
  clear h1
  go_enter Tryz.func155,Tryz.ntmps155
  go_wp2
  go_loop [25] (fun i=>∃ j:Nat,j≤kids.length∧i=.int .i64 j∧Hid (kids.all aQ=(kids.drop j).all aQ)) (fun i=>kids.length-(intOf i).toNat)
  case atStart=>exact⟨0,Nat.zero_le _,rfl,by show _=_;simp⟩
  case round =>
   obtain⟨j,hj,rfl,HA⟩:=hrel
   by_cases hlt:j<kids.length
   ·have hd:=List.drop_eq_getElem_cons hlt
    obtain⟨ib,io,hia,hib,hic⟩:=(hI.below hb).at hlt
    have hib':ib<w.heap.size:=hib
    subst hia
    cases hp:aQ kids[j]
    ·have HN:Hid (kids.all aQ=false):=HA.out.trans (qEr hlt hp)
     clear HA hd hK hI
     go_wp2_with (go_at_call 169;refine(kX _ _).mono ?_;rintro e w' ⟨rfl,rfl⟩)
     go_ret
     exact⟨bS (by simp [gH,HN.out]),hb⟩
    ·have HA2:Hid (kids.all aQ=(kids.drop (j+1)).all aQ):=HA.out.trans (qDo hlt hp)
     clear HA hd hK hI
     go_wp2_with (go_at_call 169;refine(kX _ _).mono ?_;rintro e w' ⟨rfl,rfl⟩)
     go_round
     case rel=>exact⟨j+1,by omega,by go_num,HA2⟩
     case measure=>simp [intOf];omega
   ·have HA2:Hid (kids.all aQ=true):=by show _=_;rw [HA.out,List.drop_eq_nil_of_le (by omega)];rfl
    clear HA
    go_wp2
    go_loop [5,36] (fun u i=>∃ (j:Nat) (l:ByteArray),j≤keys.length∧i=.int .i64 j∧u=.string l∧Hid (fL ⟨#[]⟩ keys=fL l (keys.drop j))) (fun _ i=>keys.length-(intOf i).toNat)
    case atStart=>exact⟨0,_,Nat.zero_le _,rfl,rfl,by show _=_;simp⟩
    case round =>
     obtain⟨j,l,hj,rfl,rfl,HR⟩:=hrel
     by_cases hlt:j<keys.length
     ·have hd:=List.drop_eq_getElem_cons hlt
      obtain⟨kb,ko,hka,hkb,hkc⟩:=(hK.below hb).at hlt
      have hkb':kb<w.heap.size:=hkb
      subst hka
      cases hp:gG l keys[j]
      ·have HN:Hid (fL ⟨#[]⟩ keys=false):=by show _=_;rw [HR.out,hd];simp [fL,hp]
       clear HR hd hK hI
       go_wp2_with (go_at_call 170;refine(kY _ _ _).mono ?_;rintro e w' ⟨rfl,rfl⟩)
       go_ret
       exact⟨bS (by simp [gH,HN.out]),hb⟩
      ·have HR2:Hid (fL ⟨#[]⟩ keys=fL keys[j] (keys.drop (j+1))):=by show _=_;rw [HR.out,hd];simp [fL,hp]
       clear HR hd hK hI
       go_wp2_with (go_at_call 170;refine(kY _ _ _).mono ?_;rintro e w' ⟨rfl,rfl⟩)
       go_round
       case rel=>exact⟨j+1,_,by omega,by go_num,rfl,HR2⟩
       case measure=>simp [intOf];omega
     ·have HR2:Hid (fL ⟨#[]⟩ keys=true):=by show _=_;rw [HR.out,List.drop_eq_nil_of_le (by omega)];rfl
      clear HR
      go_wp2
      go_ret
      exact⟨bS (by simp [gH,HA2.out,HR2.out,H1.out,h0]),hb⟩
 ·have h1':((kids.length:Int) != (keys.length:Int)+1)=true:=bne_iff_ne.2 (by omega)
  have H1:Hid (¬ kids.length=keys.length+1):=h1
  clear h1
  go_enter Tryz.func155,Tryz.ntmps155
  go_wp2
  go_ret
  exact⟨bS (by simp [gH,H1.out]),hb⟩
def fJ:ByteArray→List Ent→Bool
 | _,[]=>true
 | last,e :: r=>gG last e.key&&oH e.val e.size e.over&&fJ e.key r
theorem Ec (kind:Int) (ver root next:Int) (ka ia ea:Option Addr) (kc ic ec:Nat) (data:ByteArray) (keys:List ByteArray) (kids:List Int) (ents:List Ent) (w:World) (hE:cY w w.heap.size ea (ents.flatMap Ent.cells)) (hen:ents.length≤1073741824) :
  Calls Tryz.prog 156 #[.agg #[.int .i64 kind,.int .i64 ver,.int .i64 root,.int .i64 next,.slice ka keys.length kc,.slice ia kids.length ic,.slice ea ents.length ec,.string data]] w fun e w'=>e=.returned (.bool (decide (ents.length≠0)&&fJ ⟨#[]⟩ ents))∧Below w.heap.size w w':=by
 have hb:=(Below.refl w.heap.size w).alloc (Nat.le_refl _) (.cells #[.int .i64 kind,.int .i64 ver,.int .i64 root,.int .i64 next,.slice ka keys.length kc,.slice ia kids.length ic,.slice ea ents.length ec,.string data] 85)
 by_cases h0:ents.length=0
 ·have h0':((ents.length:Int)==0)=true:=beq_iff_eq.2 (by omega)
  have H0:Hid (ents.length=0):=h0
  clear h0
  go_enter Tryz.func156,Tryz.ntmps156
  go_wp2
  go_ret
  exact⟨bS (by simp [H0.out]),hb⟩
 have h0':((ents.length:Int)==0)=false:=beq_eq_false_iff_ne.2 (by omega)
 go_enter Tryz.func156,Tryz.ntmps156
 go_wp2
 go_loopw [3,13] (fun u i wr=>∃ (j:Nat) (l:ByteArray),j≤ents.length∧i=.int .i64 j∧u=.string l∧Hid (fJ ⟨#[]⟩ ents=fJ l (ents.drop j))∧Below w.heap.size w wr) (fun _ i _=>ents.length-(intOf i).toNat)
 case atStart=>exact⟨0,_,Nat.zero_le _,rfl,rfl,by show _=_;simp,hb⟩
 case round =>
  obtain⟨j,l,hj,rfl,rfl,HR,hbr⟩:=hrel
  have hsz:=hbr.size
  by_cases hlt:j<ents.length
  ·have hd:=List.drop_eq_getElem_cons hlt
   obtain⟨ib,io,hia,hib,d0,d1,d2,d3⟩:=(hE.below hbr).ent hlt
   have hib':ib<w.heap.size:=hib
   have hjw:j * 4≤4294967296:=by omega
   subst hia
   cases hp:gG l ents[j].key
   ·have HN:Hid (fJ ⟨#[]⟩ ents=false):=by show _=_;rw [HR.out,hd];simp [fJ,hp]
    clear HR hd hE
    go_wp2_with (go_at_call 170;refine(kY _ _ _).mono ?_;rintro e w' ⟨rfl,rfl⟩)
    go_ret
    exact⟨bS (by simp [HN.out]),hbr.alloc hsz _⟩
   ·cases hq:oH ents[j].val ents[j].size ents[j].over
    ·have HN:Hid (fJ ⟨#[]⟩ ents=false):=by show _=_;rw [HR.out,hd];simp [fJ,hq]
     clear HR hd hE
     go_wp2_with (first|(go_at_call 170;refine(kY _ _ _).mono ?_;rintro e w' ⟨rfl,rfl⟩)|(go_at_call 171;refine(qQ _ _ _ _ _).mono ?_;rintro e w2 ⟨rfl,hb2⟩;obtain⟨hc,hf⟩:=qBy hb2))
     go_ret
     exact⟨bS (by simp [HN.out]),(hbr.alloc hsz _).trans (hb2.mono (by simp;omega))⟩
    ·have HR2:Hid (fJ ⟨#[]⟩ ents=fJ ents[j].key (ents.drop (j+1))):=by show _=_;rw [HR.out,hd];simp [fJ,hp,hq]
     clear HR hd hE
     go_wp2_with (first|(go_at_call 170;refine(kY _ _ _).mono ?_;rintro e w' ⟨rfl,rfl⟩)|(go_at_call 171;refine(qQ _ _ _ _ _).mono ?_;rintro e w2 ⟨rfl,hb2⟩;obtain⟨hc,hf⟩:=qBy hb2))
     go_roundw
     case rel=>exact⟨j+1,_,by omega,by go_num,rfl,HR2,(hbr.alloc hsz _).trans (hb2.mono (by simp;omega))⟩
     case measure=>simp [intOf];omega
  ·have HR2:Hid (fJ ⟨#[]⟩ ents=true):=by show _=_;rw [HR.out,List.drop_eq_nil_of_le (by omega)];rfl
   clear HR
   go_wp2
   go_ret
   exact⟨bS (by simp [HR2.out,h0]),hbr⟩
