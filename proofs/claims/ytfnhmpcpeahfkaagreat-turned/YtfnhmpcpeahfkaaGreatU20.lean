/-
  Joined: File2, File3.
-/
import Derived.Test.YtfnhmpcpeahfkaaGreatU17
import Derived.Test.YtfnhmpcpeahfkaaGreatU13
set_option linter.unusedSimpArgs false
set_option linter.unusedVariables false
set_option maxHeartbeats 8000000
namespace Go.Proofs.YtfnhmpcpeahfkaaGreat.Tree
open Go.RowKit Pages
def dX (n:Nat):ByteArray:=⟨(List.replicate n (0:UInt8)).toArray⟩
theorem wO (n:Nat):(dX n).size=n:=by show (List.replicate n (0:UInt8)).toArray.size=n;simp
theorem sY (n:Nat):(madeCells (Value.int .u8 0).cells (n * 1)).toList=(List.replicate n (0:UInt8)).map cW:=by
 apply List.ext_getElem
 ·simp [madeCells]
 ·intro i h1 h2
  simp [madeCells,Value.cells,cW,Nat.mod_one]
theorem qDk (n:Nat) (w:World) (hn:n≤100000) :
  Calls Tryz.prog 58 #[.int .i64 n] w fun e w'=>e=.returned (.string (dX n))∧Below w.heap.size w w':=by
 obtain⟨i0,hi,hz0,hz1,hz2⟩:=info_parts qFn
 obtain⟨w1,hm,hown,hg⟩:=run_makeSlice_full (P:=Tryz.prog) w 0 115 5 i0 (.int .u8 0) 1 Tryz.underlying115 hi hz0 hz1 .i64 .i64 n (by omega) (by rw [hz2];omega) (by unfold maxLen;omega) (Nat.zero_le _)
 rw [sY] at hown
 have hb:Buf w1 0 (.slice (some ⟨w.heap.size,0,none⟩) n n) (List.replicate n 0):=by
  unfold Buf;simpa using hown
 have hcv:=Buf.string hb
 have HB:Hid (Below w.heap.size w w1):=⟨hg.os,hg.tape,hg.output,hg.size,fun k hk=>hg.block k hk (by simp)⟩
 clear hb hown hg
 go_enter Tryz.func58,Tryz.ntmps58
 go_wp2
 go_ret
 exact⟨rfl,HB.out⟩
def Fs.chOk (fs:Fs):Bool:=!(fs.life==0)&&!(fs.wait==0)
def Fs.ch (fs:Fs):Fs :=
 if fs.chOk then { fs with wait:=if 0<fs.wait then fs.wait-1 else fs.wait,life:=if 0<fs.life then fs.life-1 else fs.life }
 else { fs with failed:=wrap64 (fs.failed+1),wait:=if fs.life==0 then fs.wait else -1 }
theorem Fs.ch_safe (fs:Fs):fs.ch.safe=fs.safe:=by unfold Fs.ch;split<;>rfl
theorem Fs.ch_late (fs:Fs):fs.ch.late=fs.late:=by unfold Fs.ch;split<;>rfl
theorem aH.rebox {w w':World} {β:Nat} {sv lv:Value} {fs fs':Fs} (h:aH w β sv lv fs) (f:Fr (Bl.one β) w w') (e1:fs'.safe=fs.safe) (e2:fs'.late=fs.late)
  (hb:w'.heap[β]?=some (.cells #[sv,lv,.int .i64 fs'.wait,.int .i64 fs'.life,.int .i64 fs'.failed] 73)):aH w' β sv lv fs':=by
 refine⟨hb,?_,?_,by rw [e1];exact h.small,by rw [e2];exact h.few⟩
 ·rw [e1]
  exact bN h.safe (f.on (Z:=fun k=>sv.ownBlock=some k) (fun k hk=>⟨bI h.safe hk,fun e=>by simp only [Bl.one] at e;subst e;exact bD h.safe h.box (by decide) hk⟩)) (fun k hk=>hk)
 ·rw [e2]
  exact bN h.late (f.on (Z:=fun k=>lv.ownBlock=some k) (fun k hk=>⟨bI h.late hk,fun e=>by simp only [Bl.one] at e;subst e;exact bD h.late h.box (by decide) hk⟩)) (fun k hk=>hk)
theorem xY (β:Nat) (sv lv:Value) (fs:Fs) (w:World) (h:aH w β sv lv fs) (hw0 : -1≤fs.wait) (hw1:fs.wait≤9223372036854775807) (hl0 : -1≤fs.life) (hl1:fs.life≤9223372036854775807) :
  Calls Tryz.prog 83 #[.pointer (some ⟨β,0,none⟩)] w fun e w'=>e=.returned (.bool fs.chOk)∧aH w' β sv lv fs.ch∧Fr (Bl.one β) w w':=by
 obtain⟨c0,c1,c2,c3,c4⟩:=dC h.box
 have hfr:=aJ h.box
 have fin:∀ w',Fr (Bl.one β) w w'→w'.heap[β]?=some (.cells #[sv,lv,.int .i64 fs.ch.wait,.int .i64 fs.ch.life,.int .i64 fs.ch.failed] 73)→aH w' β sv lv fs.ch∧Fr (Bl.one β) w w' :=
  fun w' f hb=>⟨h.rebox f fs.ch_safe fs.ch_late hb,f⟩
 have r0:=Fr.refl (Bl.one β) w
 have s1:∀ (u:World) (i:Nat) (x:Value),Fr (Bl.one β) w u→Fr (Bl.one β) w (u.setCell ⟨β,i,none⟩ x):=fun u i x f=>f.setCell (p:=⟨β,i,none⟩) (.inl rfl) x
 by_cases hl:fs.life=0
 ·have HO:Hid (fs.chOk=false):=by show _=_;simp [Fs.chOk,hl]
  have HC:Hid (fs.ch = { fs with failed:=wrap64 (fs.failed+1) }):=by show _=_;simp [Fs.ch,HO.out,hl]
  have b1:=aI h.box 4 (.int .i64 (wrap64 (fs.failed+1)))
  obtain⟨d0,d1,d2,d3,d4⟩:=dC (w:=w.setCell ⟨β,4,none⟩ (.int .i64 (wrap64 (fs.failed+1)))) (by simpa using b1)
  rw [hl] at c3 d3
  go_enter Tryz.func83,Tryz.ntmps83
  go_wp2
  go_ret
  refine⟨bT HO.out.symm,fin _ (s1 _ _ _ r0) ?_⟩
  rw [HC.out];simpa [hl] using b1
 ·by_cases hw:fs.wait=0
  ·have HO:Hid (fs.chOk=false):=by show _=_;simp [Fs.chOk,hw]
   have hlb:(fs.life==0)=false:=by simpa using hl
   have hwb:(fs.wait==0)=true:=by simpa using hw
   have HC:Hid (fs.ch = { fs with failed:=wrap64 (fs.failed+1),wait:=-1 }):=by show _=_;simp [Fs.ch,HO.out,hl]
   have b1:=aI h.box 4 (.int .i64 (wrap64 (fs.failed+1)))
   obtain⟨d0,d1,d2,d3,d4⟩:=dC (w:=w.setCell ⟨β,4,none⟩ (.int .i64 (wrap64 (fs.failed+1)))) (by simpa using b1)
   have dfr:=aJ b1
   have b2:=aI b1 2 (.int .i64 (-1))
   go_enter Tryz.func83,Tryz.ntmps83
   go_wp2
   go_ret
   refine⟨bT HO.out.symm,fin _ (s1 _ _ _ (s1 _ _ _ r0)) ?_⟩
   rw [HC.out];simpa using b2
  ·have HO:Hid (fs.chOk=true):=by show _=_;simp [Fs.chOk,hl,hw]
   have hlb:(fs.life==0)=false:=by simpa using hl
   have hwb:(fs.wait==0)=false:=by simpa using hw
   by_cases hw2:0<fs.wait
   ·have b1:=aI h.box 2 (.int .i64 (fs.wait-1))
    obtain⟨d0,d1,d2,d3,d4⟩:=dC (w:=w.setCell ⟨β,2,none⟩ (.int .i64 (fs.wait-1))) (by simpa using b1)
    have dfr:=aJ b1
    by_cases hl2:0<fs.life
    ·have HC:Hid (fs.ch = { fs with wait:=fs.wait-1,life:=fs.life-1 }):=by show _=_;simp [Fs.ch,HO.out,hw2,hl2]
     have b2:=aI b1 3 (.int .i64 (fs.life-1))
     go_enter Tryz.func83,Tryz.ntmps83
     go_wp2
     go_ret
     refine⟨bT HO.out.symm,fin _ (s1 _ _ _ (s1 _ _ _ r0)) ?_⟩
     rw [HC.out];simpa using b2
    ·have HC:Hid (fs.ch = { fs with wait:=fs.wait-1 }):=by show _=_;simp [Fs.ch,HO.out,hw2,hl2]
     go_enter Tryz.func83,Tryz.ntmps83
     go_wp2
     go_ret
     refine⟨bT HO.out.symm,fin _ (s1 _ _ _ r0) ?_⟩
     rw [HC.out];simpa using b1
   ·by_cases hl2:0<fs.life
    ·have HC:Hid (fs.ch = { fs with life:=fs.life-1 }):=by show _=_;simp [Fs.ch,HO.out,hw2,hl2]
     have b2:=aI h.box 3 (.int .i64 (fs.life-1))
     go_enter Tryz.func83,Tryz.ntmps83
     go_wp2
     go_ret
     refine⟨bT HO.out.symm,fin _ (s1 _ _ _ r0) ?_⟩
     rw [HC.out];simpa using b2
    ·have HC:Hid (fs.ch=fs):=by show _=_;simp [Fs.ch,HO.out,hw2,hl2]
     go_enter Tryz.func83,Tryz.ntmps83
     go_wp2
     go_ret
     refine⟨bT HO.out.symm,fin _ r0 ?_⟩
     rw [HC.out];exact h.box
theorem qFm:(Tryz.prog.info? 75).map (fun i=>(i.zero,i.size,i.bytes))=some (some (.agg #[.int .i64 0,.string ⟨#[]⟩]),2,24):=by kernel_rfl
theorem extract_all {s:ByteArray} {n:Nat} (h:s.size≤n):s.extract 0 n=s:=by
 apply ByteArray.ext
 rw [ByteArray.data_extract]
 exact Array.extract_eq_self_of_le h
theorem qMd (s:ByteArray):s++dX 0=s:=by
 apply ByteArray.ext
 simp [dX,ByteArray.data_append]
def Fs.put (fs:Fs) (p:Nat) (data:ByteArray):Fs:={ fs with late:=fs.late++[(p,data)] }
theorem aF {w:World} {k:Nat} {o:Obj} (x:Obj) (h:w.heap[k]?=some o):(w.alloc x).heap[k]?=some o:=(Below.heap_alloc w x k (Array.getElem?_eq_some_iff.1 h).1).trans h
theorem aH.wrote {w2 w3:World} {β p:Nat} {sv lv lv':Value} {fs:Fs} {data:ByteArray} (h2:aH w2 β sv lv fs) (A:kV 75 2 lv fs.late.length (fs.late.flatMap dB) [.int .i64 p,.string data] 1 w2 lv' w3) (hroom:fs.late.length<1000000) :
  aH (w3.setCell ⟨β,1,none⟩ lv') β sv lv' (fs.put p data)∧Fr (fpF β sv lv) w2 (w3.setCell ⟨β,1,none⟩ lv')∧aK w2 (fpF β sv lv) (fpF β sv lv'):=by
 have b3:=A.fr.heap h2.box (bD h2.late h2.box (by decide))
 have b4:=aI b3 1 lv'
 have f3:Fr (fpF β sv lv) w2 w3:=A.fr.mono (fun k hk=>.inl (.inr (.inr hk)))
 have hs3:=A.keeps h2.safe (oU h2.safe h2.late (by decide))
 have nb:∀ {e:TypeId} {z n:Nat} {v:Value} {xs:List Value},w3.ownsRow 0 e z v n xs→73≠e→(w3.setCell ⟨β,1,none⟩ lv').ownsRow 0 e z v n xs:=fun ho hne =>
  bN ho ((On.refl (fun k=>_=some k) w3).setCell (p:=⟨β,1,none⟩) (fun hk=>bD ho b3 hne hk) lv') (fun k hk=>hk)
 refine⟨⟨by simpa [Fs.put] using b4,nb hs3 (by decide),?_,h2.small,by simp [Fs.put];omega⟩,f3.setCell (p:=⟨β,1,none⟩) (.inl (.inl rfl)) _,?_⟩
 ·have e:(fs.put p data).late.flatMap dB=fs.late.flatMap dB++[.int .i64 p,.string data]:=by simp [Fs.put,dB]
  have e2:(fs.put p data).late.length=fs.late.length+1:=by simp [Fs.put]
  rw [e,e2]
  exact nb A.row (by decide)
 ·rintro k (hk|hk|hk)
  ·exact .inl (.inl hk)
  ·exact .inl (.inr (.inl hk))
  ·exact(A.lies k hk).imp (fun h=>.inr (.inr h)) id
theorem vJ (β:Nat) (sv lv:Value) (fs:Fs) (p:Nat) (data:ByteArray) (w:World) (h:aH w β sv lv fs) (hw0 : -1≤fs.wait) (hw1:fs.wait≤9223372036854775807) (hl0 : -1≤fs.life) (hl1:fs.life≤9223372036854775807)
  (hd:data.size=256) (hp:p<fs.safe.length) (hroom:fs.late.length<1000000) :
  Calls Tryz.prog 88 #[.pointer (some ⟨β,0,none⟩),.int .i64 p,.string data] w fun e w'=>e=.returned (.bool fs.chOk) ∧
   ∃ lv',aH w' β sv lv' (if fs.chOk then fs.ch.put p data else fs.ch)∧Fr (fpF β sv lv) w w'∧aK w (fpF β sv lv) (fpF β sv lv'):=by
 have hC:=xY β sv lv fs w h hw0 hw1 hl0 hl1
 have hpi:(p:Int)<(fs.safe.length:Int):=by omega
 obtain⟨a,c,rfl⟩:=aT h.safe
 cases hok:fs.chOk
 ·rw [hok] at hC
  go_enter Tryz.func88,Tryz.ntmps88
  go_wp2_with (go_at_call 83;refine hC.mono ?_;rintro e w1 ⟨rfl,h1,f1⟩)
  go_ret
  exact⟨rfl,lv,h1,f1.mono (fun k hk=>.inl (.inl hk)),aK.refl _ _⟩
 ·rw [hok] at hC
  have hx:=extract_all (s:=data) (n:=256) (by omega)
  go_enter Tryz.func88,Tryz.ntmps88
  go_wp2_with (go_at_call 83;refine hC.mono ?_;rintro e w1 ⟨rfl,h1,f1⟩;obtain⟨c0,c1,c2,c3,c4⟩:=dC h1.box;have hs1:fs.ch.safe.length=fs.safe.length:=by rw [Fs.ch_safe])
  have hz0:(dX 0).size=0:=wO 0
  have hza:data++dX 0=data:=qMd data
  go_region_law (first
   | (go_simp;go_at_call 58;refine(qDk 0 _ (by omega)).mono ?_;rintro e w2 ⟨rfl,hb2⟩;have f2:Fr Bl.none w1 w2:=(Fr.refl _ _).drew.trans (Fr.of_below hb2);have h2:=h1.on (f2.on (fun k hk=>⟨h1.lies k hk,fun h=>h⟩));obtain⟨e0,e1,e2,e3,e4⟩:=dC h2.box;have q1:=(dC (aF (.cells #[.int .i64 p,.string data] 75) h2.box)).2.1)
   | (refine jP w2 rfl (.tmp 35) (.tmp 44) 71 75 _ 2 24 rfl Tryz.underlying71 qFm rfl (by decide) lv fs.ch.late.length (fs.ch.late.flatMap dB) (by simp [Act.eval,Act.put]) h2.late [.int .i64 p,.string data] (by simp [Act.eval,Act.put]) rfl (by simp [Value.oneCell']) (by rw [Fs.ch_late];omega) (by rw [Fs.ch_late];omega) ?_;intro v3 w3 A3;obtain⟨g3,k3,rfl⟩:=A3.shape (by decide);have b3:=A3.fr.heap h2.box (bD h2.late h2.box (by decide));obtain⟨m0,m1,m2,m3,m4⟩:=dC b3;have mfr:=aJ b3))
  all_goals go_wp2
  all_goals go_ret
  all_goals
   obtain⟨r1,r2,r3⟩:=h2.wrote A3 (by rw [Fs.ch_late];exact hroom)
   have F12:Fr (fpF β (.slice a fs.safe.length c) lv) w w2:=(f1.mono (fun k hk=>.inl (.inl hk))).trans (f2.mono (fun k hk=>hk.elim))
   exact⟨rfl,_,by simpa using r1,F12.trans r2,aK.trans (aK.refl w _) F12.size r3⟩
end Go.Proofs.YtfnhmpcpeahfkaaGreat.Tree
