import Derived.Test.YtpifffkkgnbfpaaGreatP13
import Derived.Test.YtpifffkkgnbfpaaGreatP14
set_option linter.unusedSimpArgs false
set_option linter.unusedVariables false
set_option maxRecDepth 100000
set_option maxHeartbeats 8000000
namespace Go.Proofs.YtpifffkkgnbfpaaGreat.Tree
open Go.RowKit Pages
variable {P:Program} {j k n β:Nat} {lv:Value} {s:ByteArray} {w w':World}
def eR (n:Nat):ByteArray:=⟨(List.replicate n (0:UInt8)).toArray⟩
theorem yA (n:Nat):(eR n).size=n:=by show (List.replicate n (0:UInt8)).toArray.size=n;simp
theorem tU (n:Nat):(madeCells (Value.int .u8 0).cells (n * 1)).toList=(List.replicate n (0:UInt8)).map eC:=by
 apply List.ext_getElem
 ·simp [madeCells]
 ·intro i h1 h2
  simp [madeCells,Value.cells,eC,Nat.mod_one]
theorem Fx (n:Nat) (w:World) (hn:n≤100000) :
  Calls Tryz.prog 58 #[.int .i64 n] w fun e w'=>e=.returned (.string (eR n))∧Below w.heap.size w w':=by
 obtain⟨i0,hi,hz0,hz1,hz2⟩:=info_parts Hz
 obtain⟨w1,hm,hown,hg⟩:=run_makeSlice_full (P:=Tryz.prog) w 0 115 5 i0 (.int .u8 0) 1 Tryz.underlying115 hi hz0 hz1 .i64 .i64 n (by omega) (by rw [hz2];omega) (by unfold maxLen;omega) (Nat.zero_le _)
 rw [tU] at hown
 have hb:Buf w1 0 (.slice (some ⟨w.heap.size,0,none⟩) n n) (List.replicate n 0):=by
  unfold Buf;simpa using hown
 have hcv:=Buf.string hb
 have HB:Hid (Below w.heap.size w w1):=⟨hg.os,hg.tape,hg.output,hg.size,fun k hk=>hg.block k hk (by simp)⟩
 clear hb hown hg
 go_enter Tryz.func58,Tryz.ntmps58
 go_wp2
 go_ret
 exact⟨rfl,HB.out⟩
def Fs.chOk (fs:Fs):Bool:=!(fs.life==0)&&!(fs.wait==0)
def Fs.ch (fs:Fs):Fs :=
 if fs.chOk then { fs with wait:=if 0<fs.wait then fs.wait-1 else fs.wait,life:=if 0<fs.life then fs.life-1 else fs.life }
 else { fs with failed:=wrap64 (fs.failed+1),wait:=if fs.life==0 then fs.wait else -1 }
theorem Fs.ch_safe (fs:Fs):fs.ch.safe=fs.safe:=by unfold Fs.ch;split<;>rfl
theorem Fs.ch_late (fs:Fs):fs.ch.late=fs.late:=by unfold Fs.ch;split<;>rfl
theorem aG.rebox {sv lv:Value} {fs fs':Fs} (h:aG w β sv lv fs) (f:Fr (Bl.one β) w w') (e1:fs'.safe=fs.safe) (e2:fs'.late=fs.late)
  (hb:w'.heap[β]?=some (.cells #[sv,lv,.int .i64 fs'.wait,.int .i64 fs'.life,.int .i64 fs'.failed] 73)):aG w' β sv lv fs':=by
 refine⟨hb,?_,?_,by rw [e1];exact h.small,by rw [e2];exact h.few⟩
 ·rw [e1]
  exact bK h.safe (f.on (Z:=fun k=>sv.ownBlock=some k) (fun k hk=>⟨aX h.safe hk,fun e=>by simp only [Bl.one] at e;subst e;exact aV h.safe h.box (by decide) hk⟩)) (fun k hk=>hk)
 ·rw [e2]
  exact bK h.late (f.on (Z:=fun k=>lv.ownBlock=some k) (fun k hk=>⟨aX h.late hk,fun e=>by simp only [Bl.one] at e;subst e;exact aV h.late h.box (by decide) hk⟩)) (fun k hk=>hk)
theorem zO (β:Nat) (sv lv:Value) (fs:Fs) (w:World) (h:aG w β sv lv fs) (hw0 : -1≤fs.wait) (hw1:fs.wait≤9223372036854775807) (hl0 : -1≤fs.life) (hl1:fs.life≤9223372036854775807) :
  Calls Tryz.prog 83 #[.pointer (some ⟨β,0,none⟩)] w fun e w'=>e=.returned (.bool fs.chOk)∧aG w' β sv lv fs.ch∧Fr (Bl.one β) w w':=by
 obtain⟨c0,c1,c2,c3,c4⟩:=dR h.box
 have hfr:=aF h.box
 have fin:∀ w',Fr (Bl.one β) w w'→w'.heap[β]?=some (.cells #[sv,lv,.int .i64 fs.ch.wait,.int .i64 fs.ch.life,.int .i64 fs.ch.failed] 73)→aG w' β sv lv fs.ch∧Fr (Bl.one β) w w' :=
  fun w' f hb=>⟨h.rebox f fs.ch_safe fs.ch_late hb,f⟩
 have r0:=Fr.refl (Bl.one β) w
 have s1:∀ (u:World) (i:Nat) (x:Value),Fr (Bl.one β) w u→Fr (Bl.one β) w (u.setCell ⟨β,i,none⟩ x):=fun u i x f=>f.setCell (p:=⟨β,i,none⟩) (.inl rfl) x
 by_cases hl:fs.life=0
 ·have HO:Hid (fs.chOk=false):=by show _=_;simp [Fs.chOk,hl]
  have HC:Hid (fs.ch = { fs with failed:=wrap64 (fs.failed+1) }):=by show _=_;simp [Fs.ch,HO.out,hl]
  have b1:=aD h.box 4 (.int .i64 (wrap64 (fs.failed+1)))
  obtain⟨d0,d1,d2,d3,d4⟩:=dR (w:=w.setCell ⟨β,4,none⟩ (.int .i64 (wrap64 (fs.failed+1)))) (by simpa using b1)
  rw [hl] at c3 d3
  go_enter Tryz.func83,Tryz.ntmps83
  go_wp2
  go_ret
  refine⟨bT HO.out.symm,fin _ (s1 _ _ _ r0) ?_⟩
  rw [HC.out];simpa [hl] using b1
 ·by_cases hw:fs.wait=0
  ·have HO:Hid (fs.chOk=false):=by show _=_;simp [Fs.chOk,hw]
   have hlb:(fs.life==0)=false:=by simpa using hl
   have hwb:(fs.wait==0)=true:=by simpa using hw
   have HC:Hid (fs.ch = { fs with failed:=wrap64 (fs.failed+1),wait:=-1 }):=by show _=_;simp [Fs.ch,HO.out,hl]
   have b1:=aD h.box 4 (.int .i64 (wrap64 (fs.failed+1)))
   obtain⟨d0,d1,d2,d3,d4⟩:=dR (w:=w.setCell ⟨β,4,none⟩ (.int .i64 (wrap64 (fs.failed+1)))) (by simpa using b1)
   have dfr:=aF b1
   have b2:=aD b1 2 (.int .i64 (-1))
   go_enter Tryz.func83,Tryz.ntmps83
   go_wp2
   go_ret
   refine⟨bT HO.out.symm,fin _ (s1 _ _ _ (s1 _ _ _ r0)) ?_⟩
   rw [HC.out];simpa using b2
  ·have HO:Hid (fs.chOk=true):=by show _=_;simp [Fs.chOk,hl,hw]
   have hlb:(fs.life==0)=false:=by simpa using hl
   have hwb:(fs.wait==0)=false:=by simpa using hw
   by_cases hw2:0<fs.wait
   ·have b1:=aD h.box 2 (.int .i64 (fs.wait-1))
    obtain⟨d0,d1,d2,d3,d4⟩:=dR (w:=w.setCell ⟨β,2,none⟩ (.int .i64 (fs.wait-1))) (by simpa using b1)
    have dfr:=aF b1
    by_cases hl2:0<fs.life
    ·have HC:Hid (fs.ch = { fs with wait:=fs.wait-1,life:=fs.life-1 }):=by show _=_;simp [Fs.ch,HO.out,hw2,hl2]
     have b2:=aD b1 3 (.int .i64 (fs.life-1))
     go_enter Tryz.func83,Tryz.ntmps83
     go_wp2
     go_ret
     refine⟨bT HO.out.symm,fin _ (s1 _ _ _ (s1 _ _ _ r0)) ?_⟩
     rw [HC.out];simpa using b2
    ·have HC:Hid (fs.ch = { fs with wait:=fs.wait-1 }):=by show _=_;simp [Fs.ch,HO.out,hw2,hl2]
     go_enter Tryz.func83,Tryz.ntmps83
     go_wp2
     go_ret
     refine⟨bT HO.out.symm,fin _ (s1 _ _ _ r0) ?_⟩
     rw [HC.out];simpa using b1
   ·by_cases hl2:0<fs.life
    ·have HC:Hid (fs.ch = { fs with life:=fs.life-1 }):=by show _=_;simp [Fs.ch,HO.out,hw2,hl2]
     have b2:=aD h.box 3 (.int .i64 (fs.life-1))
     go_enter Tryz.func83,Tryz.ntmps83
     go_wp2
     go_ret
     refine⟨bT HO.out.symm,fin _ (s1 _ _ _ r0) ?_⟩
     rw [HC.out];simpa using b2
    ·have HC:Hid (fs.ch=fs):=by show _=_;simp [Fs.ch,HO.out,hw2,hl2]
     go_enter Tryz.func83,Tryz.ntmps83
     go_wp2
     go_ret
     refine⟨bT HO.out.symm,fin _ r0 ?_⟩
     rw [HC.out];exact h.box
theorem Hy:(Tryz.prog.info? 75).map (fun i=>(i.zero,i.size,i.bytes))=some (some (.agg #[.int .i64 0,.string ⟨#[]⟩]),2,24):=by kernel_rfl
theorem extract_all (h:s.size≤n):s.extract 0 n=s:=by
 apply ByteArray.ext
 rw [ByteArray.data_extract]
 exact Array.extract_eq_self_of_le h
theorem Pj (s:ByteArray):s++eR 0=s:=by
 apply ByteArray.ext
 simp [eR,ByteArray.data_append]
def Fs.put (fs:Fs) (p:Nat) (data:ByteArray):Fs:={ fs with late:=fs.late++[(p,data)] }
theorem aB {o:Obj} (x:Obj) (h:w.heap[k]?=some o):(w.alloc x).heap[k]?=some o:=(Below.heap_alloc w x k (gL h)).trans h
theorem aG.wrote {w2 w3:World} {β p:Nat} {sv lv lv':Value} {fs:Fs} {data:ByteArray} (h2:aG w2 β sv lv fs) (A:lU 75 2 lv fs.late.length (fs.late.flatMap dE) [.int .i64 p,.string data] 1 w2 lv' w3) (hroom:fs.late.length<1000000) :
  aG (w3.setCell ⟨β,1,none⟩ lv') β sv lv' (fs.put p data)∧Fr (fpF β sv lv) w2 (w3.setCell ⟨β,1,none⟩ lv')∧aJ w2 (fpF β sv lv) (fpF β sv lv'):=by
 have b3:=A.fr.heap h2.box (aV h2.late h2.box (by decide))
 have b4:=aD b3 1 lv'
 have f3:Fr (fpF β sv lv) w2 w3:=A.fr.mono (fun k hk=>.inl (.inr (.inr hk)))
 have hs3:=A.keeps h2.safe (pY h2.safe h2.late (by decide))
 have nb:∀ {e:TypeId} {z n:Nat} {v:Value} {xs:List Value},w3.ownsRow 0 e z v n xs→73≠e→(w3.setCell ⟨β,1,none⟩ lv').ownsRow 0 e z v n xs:=fun ho hne =>
  bK ho ((On.refl (fun k=>_=some k) w3).setCell (p:=⟨β,1,none⟩) (fun hk=>aV ho b3 hne hk) lv') (fun k hk=>hk)
 refine⟨⟨by simpa [Fs.put] using b4,nb hs3 (by decide),?_,h2.small,by simp [Fs.put];omega⟩,f3.setCell (p:=⟨β,1,none⟩) (.inl (.inl rfl)) _,?_⟩
 ·have e:(fs.put p data).late.flatMap dE=fs.late.flatMap dE++[.int .i64 p,.string data]:=by simp [Fs.put,dE]
  have e2:(fs.put p data).late.length=fs.late.length+1:=by simp [Fs.put]
  rw [e,e2]
  exact nb A.row (by decide)
 ·rintro k (hk|hk|hk)
  ·exact .inl (.inl hk)
  ·exact .inl (.inr (.inl hk))
  ·exact(A.lies k hk).imp (fun h=>.inr (.inr h)) id
theorem wM (β:Nat) (sv lv:Value) (fs:Fs) (p:Nat) (data:ByteArray) (w:World) (h:aG w β sv lv fs) (hw0 : -1≤fs.wait) (hw1:fs.wait≤9223372036854775807) (hl0 : -1≤fs.life) (hl1:fs.life≤9223372036854775807)
  (hd:data.size=256) (hp:p<fs.safe.length) (hroom:fs.late.length<1000000) :
  Calls Tryz.prog 88 #[.pointer (some ⟨β,0,none⟩),.int .i64 p,.string data] w fun e w'=>e=.returned (.bool fs.chOk) ∧
   ∃ lv',aG w' β sv lv' (if fs.chOk then fs.ch.put p data else fs.ch)∧Fr (fpF β sv lv) w w'∧aJ w (fpF β sv lv) (fpF β sv lv'):=by
 have hC:=zO β sv lv fs w h hw0 hw1 hl0 hl1
 have hpi:(p:Int)<(fs.safe.length:Int):=by omega
 obtain⟨a,c,rfl⟩:=aO h.safe
 cases hok:fs.chOk
 ·rw [hok] at hC
  go_enter Tryz.func88,Tryz.ntmps88
  go_wp2_with (go_at_call 83;refine hC.mono ?_;rintro e w1 ⟨rfl,h1,f1⟩)
  go_ret
  exact⟨rfl,lv,h1,f1.mono (fun k hk=>.inl (.inl hk)),aJ.refl _ _⟩
 ·rw [hok] at hC
  have hx:=extract_all (s:=data) (n:=256) (by omega)
  go_enter Tryz.func88,Tryz.ntmps88
  go_wp2_with (go_at_call 83;refine hC.mono ?_;rintro e w1 ⟨rfl,h1,f1⟩;obtain⟨c0,c1,c2,c3,c4⟩:=dR h1.box;have hs1:fs.ch.safe.length=fs.safe.length:=by rw [Fs.ch_safe])
  have hz0:(eR 0).size=0:=yA 0
  have hza:data++eR 0=data:=Pj data
  go_region_law (first
   | (go_simp;go_at_call 58;refine(Fx 0 _ (by omega)).mono ?_;rintro e w2 ⟨rfl,hb2⟩;have f2:Fr Bl.none w1 w2:=(Fr.refl _ _).drew.trans (Fr.of_below hb2);have h2:=h1.on (f2.on (fun k hk=>⟨h1.lies k hk,fun h=>h⟩));obtain⟨e0,e1,e2,e3,e4⟩:=dR h2.box;have q1:=(dR (aB (.cells #[.int .i64 p,.string data] 75) h2.box)).2.1)
   | (refine kN w2 rfl (.tmp 35) (.tmp 44) 71 75 _ 2 24 rfl Tryz.underlying71 Hy rfl (by decide) lv fs.ch.late.length (fs.ch.late.flatMap dE) (by simp [Act.eval,Act.put]) h2.late [.int .i64 p,.string data] (by simp [Act.eval,Act.put]) rfl (by simp [Value.oneCell']) (by rw [Fs.ch_late];omega) (by rw [Fs.ch_late];omega) ?_;intro v3 w3 A3;obtain⟨g3,k3,rfl⟩:=A3.shape (by decide);have b3:=A3.fr.heap h2.box (aV h2.late h2.box (by decide));obtain⟨m0,m1,m2,m3,m4⟩:=dR b3;have mfr:=aF b3))
  all_goals go_wp2
  all_goals go_ret
  all_goals
   obtain⟨r1,r2,r3⟩:=h2.wrote A3 (by rw [Fs.ch_late];exact hroom)
   have F12:Fr (fpF β (.slice a fs.safe.length c) lv) w w2:=(f1.mono (fun k hk=>.inl (.inl hk))).trans (f2.mono (fun k hk=>hk.elim))
   exact⟨rfl,_,by simpa using r1,F12.trans r2,aJ.trans (aJ.refl w _) F12.size r3⟩
def laid (safe:List ByteArray) (late:List (Nat×ByteArray)):List ByteArray:=late.foldl (fun s x=>s.set x.1 x.2) safe
theorem cU:∀ (late:List (Nat×ByteArray)) (safe:List ByteArray),(laid safe late).length=safe.length
 | [],_=>rfl
 | x :: late,safe=>by
  show (laid (safe.set x.1 x.2) late).length=_
  rw [cU late];simp
theorem Wy (safe:List ByteArray) (late:List (Nat×ByteArray)) (x:Nat×ByteArray):laid safe (late++[x])=(laid safe late).set x.1 x.2:=by simp [laid]
def Fs.synced (fs:Fs):Fs:={ fs with safe:=laid fs.safe fs.late,late:=[] }
def Fs.fits (fs:Fs):Prop:=∀ x∈fs.late,x.1<fs.safe.length
theorem On.drew {Y:Bl} {a w:World} (h:On Y a w):On Y a w.drew:=h.trans ⟨rfl,rfl,rfl,jU _,fun _ _=>rfl⟩
theorem aG.stored {β s n sc p:Nat}  {fs:Fs} {data:ByteArray} (h:aG w β (.slice (some ⟨s,0,none⟩) n sc) lv fs) (hn:n=fs.safe.length) :
  aG (w.setCell ⟨s,p,none⟩ (.string data)) β (.slice (some ⟨s,0,none⟩) n sc) lv { fs with safe:=fs.safe.set p data }:=by
 subst hn
 have hs:=(World.ownsRow.stored (w:=w) h.safe p (.string data)).1
 have nb:s≠β:=fun e=>aV h.safe h.box (by decide) (by rw [e];rfl)
 refine⟨(Below.heap_setCell w ⟨s,p,none⟩ _ β (fun e=>nb e.symm)).trans h.box,?_,?_,by simpa using h.small,h.few⟩
 ·have e:(fs.safe.set p data).map Value.string=(fs.safe.map Value.string).set p (.string data):=by rw [List.map_set]
  simp only [e,List.length_set]
  exact hs
 ·refine bK h.late ((On.refl (fun k=>lv.ownBlock=some k) w).setCell (p:=⟨s,p,none⟩) (fun hk=>?_) _) (fun k hk=>hk)
  rcases pY h.safe h.late (by decide) with h'|h'
  ·simp [Value.ownBlock] at h'
  ·exact h' (by rw [hk];rfl)
theorem Lf (β:Nat) (sv lv:Value) (fs:Fs) (w:World) (h:aG w β sv lv fs) (hw0 : -1≤fs.wait) (hw1:fs.wait≤9223372036854775807) (hl0 : -1≤fs.life) (hl1:fs.life≤9223372036854775807) (hfit:fs.fits) :
  Calls Tryz.prog 60 #[.pointer (some ⟨β,0,none⟩)] w fun e w'=>e=.returned (.bool fs.chOk) ∧
   ∃ lv',aG w' β sv lv' (if fs.chOk then fs.ch.synced else fs.ch)∧Fr (fpF β sv lv) w w'∧aJ w (fpF β sv lv) (fpF β sv lv'):=by
 have hC:=zO β sv lv fs w h hw0 hw1 hl0 hl1
 obtain⟨sa,sc,rfl⟩:=aO h.safe
 obtain⟨la,lc,rfl⟩:=aO h.late
 cases hok:fs.chOk
 ·rw [hok] at hC
  go_enter Tryz.func60,Tryz.ntmps60
  go_wp2_with (go_at_call 83;refine hC.mono ?_;rintro e w1 ⟨rfl,h1,f1⟩)
  go_ret
  exact⟨rfl,_,h1,f1.mono (fun k hk=>.inl (.inl hk)),aJ.refl _ _⟩
 ·rw [hok] at hC
  have hsm:=h.small
  have hfw:=h.few
  go_enter Tryz.func60,Tryz.ntmps60
  go_wp2_with (go_at_call 83;refine hC.mono ?_;rintro e w1 ⟨rfl,h1,f1⟩)
  obtain⟨F,hF⟩:∃ F:Fs,F=fs.ch:=⟨_,rfl⟩
  rw [← hF] at h1
  have e1:F.safe=fs.safe:=by rw [hF];exact Fs.ch_safe fs
  have e2:F.late=fs.late:=by rw [hF];exact Fs.ch_late fs
  go_loopw [4] (fun i wr=>∃ j:Nat,j≤fs.late.length∧i=.int .i64 j∧aG wr β (.slice sa fs.safe.length sc) (.slice la fs.late.length lc) { F with safe:=laid fs.safe (fs.late.take j) }∧Fr (fpF β (.slice sa fs.safe.length sc) (.slice la fs.late.length lc)) w wr) (fun i _=>fs.late.length-(intOf i).toNat)
  case atStart=>exact⟨0,Nat.zero_le _,rfl,by simpa [laid,← e1] using h1,f1.mono (fun k hk=>.inl (.inl hk))⟩
  case round =>
   obtain⟨j,hj,rfl,hr,fr⟩:=hrel
   obtain⟨c0,c1,c2,c3,c4⟩:=dR hr.box
   have hfr:=aF hr.box
   by_cases hlt:j<fs.late.length
   ·obtain⟨q1,q2⟩:=rX (l:=fs.late) (j:=j) hlt
    have hL:wr.ownsRow 0 75 2 (.slice la fs.late.length lc) fs.late.length (fs.late.flatMap dE):=by have:=hr.late;simp only [e2] at this;exact this
    have hS:wr.ownsRow 0 9 1 (.slice sa fs.safe.length sc) fs.safe.length ((laid fs.safe (fs.late.take j)).map .string):=by have:=hr.safe;simp only [cU] at this;exact this
    obtain⟨g,hg,hglt,hgc,hgv⟩:=lC hL q1
    obtain⟨g',hg',_,_,hgv'⟩:=lC hL q2
    subst hg
    cases hg'
    have hp:=hfit _ (List.getElem_mem hlt)
    obtain⟨s,hs,hslt,hsc,hsv⟩:=lC hS (j:=(fs.late[j]).1) (u:=.string ((laid fs.safe (fs.late.take j))[(fs.late[j]).1]'(by rw [cU];exact hp))) (by simp [cU,hp])
    subst hs
    have sfr:=World.ownsRow.frozenAt (w:=wr) hS
    have hpi:((fs.late[j]).1:Int)<(fs.safe.length:Int):=by omega
    go_wp2
    go_region_with (fail)
    all_goals go_wp2
    all_goals
     have hst:=hr.stored (p:=(fs.late[j]).1) (data:=(fs.late[j]).2) (by simp [cU])
     have tk:fs.late.take (j+1)=fs.late.take j++[fs.late[j]]:=List.take_succ_eq_append_getElem hlt
     refine⟨⟨j+1,by omega,by go_num,?_,(fr.setCell (p:=⟨s,(fs.late[j]).1,none⟩) (.inl (.inr (.inl rfl))) _).drew⟩,by simp [intOf];omega⟩
     rw [tk,Wy]
     exact hst.on (On.refl _ _).drew
   ·obtain rfl:j=fs.late.length:=by omega
    have hb5:=aD hr.box 1 (.slice none 0 0)
    go_wp2
    go_ret
    refine⟨rfl,.slice none 0 0,?_,fr.setCell (p:=⟨β,1,none⟩) (.inl (.inl rfl)) _,?_⟩
    ·have hfe:fs.ch.synced = { F with safe:=laid fs.safe fs.late,late:=[] }:=by rw [hF];simp [Fs.synced,Fs.ch_safe,Fs.ch_late]
     rw [hfe]
     rw [List.take_length] at hr
     refine⟨by simpa using hb5,?_,World.ownsRow_nil _ _ _ _,hr.small,by simp⟩
     exact bK hr.safe ((On.refl (fun k=>Value.ownBlock _=some k) wr).setCell (p:=⟨β,1,none⟩) (fun hk=>aV hr.safe hr.box (by decide) hk) _) (fun k hk=>hk)
    ·rintro k (hk|hk|hk)
     ·exact .inl (.inl hk)
     ·exact .inl (.inr (.inl hk))
     ·simp [Value.ownBlock] at hk
theorem tZ:(Tryz.prog.info? 9).map (fun i=>(i.zero,i.size,i.bytes))=some (some (.string ⟨#[]⟩),1,16):=by kernel_rfl
def Fs.new (n:Nat):Fs:=⟨List.replicate n (eR 256),[],-1,-1,0⟩
theorem qCv (n:Nat) (w:World) (hn:n≤4096) :
  Calls Tryz.prog 33 #[.int .i64 n] w fun e w'=>∃ β sv lv,e=.returned (.pointer (some ⟨β,0,none⟩))∧aG w' β sv lv (Fs.new n)∧Below w.heap.size w w'∧∀ k,fpF β sv lv k→w.heap.size≤k:=by
 have hmin:min (n:Int) 4096=(n:Int):=by omega
 have hb0:=aA w (.cells #[.slice none 0 0,.slice none 0 0,.int .i64 (-1),.int .i64 (-1),.int .i64 0] 73)
 have HB0:Hid (Below w.heap.size w (w.alloc (.cells #[.slice none 0 0,.slice none 0 0,.int .i64 (-1),.int .i64 (-1),.int .i64 0] 73))):=bA _ _
 have HF0:Hid (aG (w.alloc (.cells #[.slice none 0 0,.slice none 0 0,.int .i64 (-1),.int .i64 (-1),.int .i64 0] 73)) w.heap.size (.slice none 0 0) (.slice none 0 0) (Fs.new 0)) :=
  ⟨by simpa [Fs.new] using hb0,World.ownsRow_nil _ _ _ _,World.ownsRow_nil _ _ _ _,by simp [Fs.new],by simp [Fs.new]⟩
 go_enter Tryz.func33,Tryz.ntmps33
 go_wp2
 go_loopw [4] (fun i wr=>∃ (j:Nat) (sv:Value),j≤n∧i=.int .i64 j∧aG wr w.heap.size sv (.slice none 0 0) (Fs.new j)∧Below w.heap.size w wr∧∀ k,sv.ownBlock=some k→w.heap.size≤k) (fun i _=>n-(intOf i).toNat)
 case atStart=>exact⟨0,_,Nat.zero_le _,rfl,HF0.out,HB0.out,by simp [Value.ownBlock]⟩
 case round =>
  obtain⟨j,sv,hj,rfl,hr,hB,hK⟩:=hrel
  clear hb0 HB0 HF0
  obtain⟨c0,c1,c2,c3,c4⟩:=dR hr.box
  have hfr:=aF hr.box
  by_cases hlt:j<n
  ·have hlen:(Fs.new j).safe.length=j:=by simp [Fs.new]
   go_wp2
   go_region_law (first
    | (go_simp;go_at_call 58;refine(Fx 256 _ (by omega)).mono ?_;rintro e w2 ⟨rfl,hb2⟩;have f2:Fr Bl.none wr w2:=(Fr.refl _ _).drew.trans (Fr.of_below hb2);have h2:=hr.on (f2.on (fun k hk=>⟨hr.lies k hk,fun h=>h⟩));obtain⟨e0,e1,e2,e3,e4⟩:=dR h2.box;have q1:=(dR (aB (.cells #[.string (eR 256)] 9) h2.box)).1)
    | (refine kN w2 rfl (.tmp 17) (.tmp 19) 70 9 _ 1 16 rfl Tryz.underlying70 tZ rfl (by decide) sv (Fs.new j).safe.length ((Fs.new j).safe.map .string) (by simp [Act.eval,Act.put]) h2.safe [.string (eR 256)] (by simp [Act.eval,Act.put]) rfl (by simp [Value.oneCell']) (by omega) (by omega) ?_;intro v3 w3 A3;obtain⟨g3,k3,rfl⟩:=A3.shape (by decide);have b3:=A3.fr.heap h2.box (aV h2.safe h2.box (by decide));obtain⟨m0,m1,m2,m3,m4⟩:=dR b3;have mfr:=aF b3))
   all_goals go_wp2
   all_goals
    have b4:=aD b3 0 (.slice (some ⟨g3,0,none⟩) ((Fs.new j).safe.length+1) k3)
    have lβ:w.heap.size<wr.heap.size:=(gL hr.box)
    have bw3:Below w.heap.size w w3:=hB.trans ((f2.below (Nat.le_of_lt lβ) (fun _ h=>h.elim)).trans (A3.fr.below (vJ (Nat.le_of_lt lβ) f2.size) hK))
    refine⟨⟨j+1,.slice (some ⟨g3,0,none⟩) ((Fs.new j).safe.length+1) k3,by omega,by go_num,?_,bw3.setCell (p:=⟨w.heap.size,0,none⟩) (jU _) _,?_⟩,by simp [intOf];omega⟩
    ·refine⟨by simpa [Fs.new] using b4,?_,World.ownsRow_nil _ _ _ _,by simp [Fs.new];omega,by simp [Fs.new]⟩
     have e1:(Fs.new (j+1)).safe.map Value.string=(Fs.new j).safe.map .string++[.string (eR 256)]:=by simp [Fs.new,List.replicate_succ']
     have e2:(Fs.new (j+1)).safe.length=(Fs.new j).safe.length+1:=by simp [Fs.new]
     rw [e1,e2]
     exact bK A3.row ((On.refl (fun k=>Value.ownBlock _=some k) w3).setCell (p:=⟨w.heap.size,0,none⟩) (fun hk=>aV A3.row b3 (by decide) hk) _) (fun k hk=>hk)
    ·intro k hk
     rcases A3.lies k hk with h|h
     ·exact hK k h
     ·exact vJ (vJ (Nat.le_of_lt lβ) f2.size) h
  ·obtain rfl:j=n:=by omega
   go_wp2
   go_ret
   refine⟨w.heap.size,sv,.slice none 0 0,rfl,hr,hB,?_⟩
   rintro k (hk|hk|hk)
   ·exact Nat.le_of_eq hk.symm
   ·exact hK k hk
   ·simp [Value.ownBlock] at hk
theorem Pi (w:World) (T ty E:TypeId) (zero:Value) (z bytes:Nat) (hT:P.underlying T=some (.slice E)) (hi:(P.info? E).map (fun i=>(i.zero,i.size,i.bytes))=some (some zero,z,bytes)) :
  (Builtin.append_ #[T,T] ty #[.slice none 0 0,.slice none 0 0]).run P w=.ok (.slice none 0 0) w:=by
 obtain⟨i0,hi0,hz0,hz1,hz2⟩:=info_parts hi
 simp [Builtin.append_,run_underlying hT,sizeOf,typeInfo,hi0,hz0,hz1,hz2,go_sem]
theorem qBm (w:World) (T ty E:TypeId) (zero:Value) (z bytes:Nat) (hT:P.underlying T=some (.slice E)) (hi:(P.info? E).map (fun i=>(i.zero,i.size,i.bytes))=some (some zero,z,bytes)) (hzs:zero.cells.size=z) (hsz:0<z)
  (v:Value) (n:Nat) (xs:List Value) (hv:w.ownsRow 0 E z v n xs) (h1:∀ u∈xs,u.oneCell'=true) (h63:n≤140737488355328) (hb:n * bytes≤140737488355328) :
  ∃ v' w',(Builtin.append_ #[T,T] ty #[.slice none 0 0,v]).run P w=.ok v' w'∧w'.ownsRow 0 E z v' n xs∧Below w.heap.size w w'∧∀ k,v'.ownBlock=some k→w.heap.size≤k:=by
 obtain⟨hl,h2⟩:=id hv
 rcases h2 with⟨rfl,rfl⟩|⟨g,cap,cur,rfl,_,hg,_⟩
 ·refine⟨_,_,Pi w T ty E zero z bytes hT hi,?_,Below.refl _ _,by simp [Value.ownBlock]⟩
  obtain rfl:xs=[]:=List.eq_nil_of_length_eq_zero (by simpa using hl)
  exact World.ownsRow_nil _ _ _ _
 ·have hc:=World.ownsRow.cells (w:=w) hv (g:=g) rfl
  obtain⟨v',w',hr,A⟩:=wI (P:=P) w T ty E zero z bytes hT hi hzs hsz (.slice none 0 0) 0 [] (World.ownsRow_nil _ _ _ _) ⟨g,0,none⟩ n cap xs hl hc h1 (by omega) (by simpa using hb)
  refine⟨v',w',hr,by simpa using A.row,A.fr.below (jU _) (by simp [Value.ownBlock]),fun k hk=>?_⟩
  rcases A.lies k hk with h|h
  ·simp [Value.ownBlock] at h
  ·exact h
theorem qEa {ops:Array Oper} {rest:List Oper} {o:Oper} {a:Act} {Q:Exit→Act→World→Prop} (w:World) (hgd:o.guard=none) (x:Operand) (T E:TypeId) (zero:Value) (z bytes:Nat)
  (ho:o.op=.call { callee:=.builtin .append,args:=#[.const (.slice none 0 0),x],argTypes:=#[T,T] }) (hT:P.underlying T=some (.slice E)) (hi:(P.info? E).map (fun i=>(i.zero,i.size,i.bytes))=some (some zero,z,bytes)) (hzs:zero.cells.size=z) (hsz:0<z)
  (v:Value) (n:Nat) (xs:List Value) (hx:a.eval x=v) (hv:w.ownsRow 0 E z v n xs) (h1:∀ u∈xs,u.oneCell'=true) (h63:n≤140737488355328) (hb:n * bytes≤140737488355328)
  (h:∀ v' w',w'.ownsRow 0 E z v' n xs→Below w.heap.size w w'→(∀ k,v'.ownBlock=some k→w.heap.size≤k)→wpList P ops Q rest (a.put o.dst v') w'):wpList P ops Q (o :: rest) a w:=by
 refine wpList_plain hgd fun K hK=>?_
 obtain⟨v',w',hr,A1,A2,A3⟩:=qBm (P:=P) w T o.type E zero z bytes hT hi hzs hsz v n xs hv h1 h63 hb
 have hc:a.eval (.const (.slice none 0 0))=.slice none 0 0:=rfl
 unfold Oper.wp execOp
 simp only [ho,resolve,invoke,builtin,Sem.run_bind,Sem.run_pure,Result.andThen_ok,List.map_toArray,List.map_cons,List.map_nil,hc,hx,hr]
 exact hK _ _ (h v' w' A1 A2 A3)
theorem Oi (β:Nat) (sv lv:Value) (fs:Fs) (w:World) (h:aG w β sv lv fs) :
  Calls Tryz.prog 14 #[.pointer (some ⟨β,0,none⟩)] w fun e w'=>∃ β' sv' lv',e=.returned (.pointer (some ⟨β',0,none⟩))∧aG w' β' sv' lv' fs∧Below w.heap.size w w'∧∀ k,fpF β' sv' lv' k→w.heap.size≤k:=by
 obtain⟨sa0,sc0,rfl⟩:=aO h.safe
 obtain⟨la0,lc0,rfl⟩:=aO h.late
 obtain⟨c0,c1,c2,c3,c4⟩:=dR h.box
 obtain⟨W1,hW1⟩:=nM (w.alloc (.cells #[.slice sa0 fs.safe.length sc0,.slice la0 fs.late.length lc0,.int .i64 fs.wait,.int .i64 fs.life,.int .i64 fs.failed] 73))
 have b1:W1.heap[w.heap.size]?=some (.cells #[.slice sa0 fs.safe.length sc0,.slice la0 fs.late.length lc0,.int .i64 fs.wait,.int .i64 fs.life,.int .i64 fs.failed] 73):=hW1▸aA w _
 have B1:Below w.heap.size w W1:=hW1▸(bA _ _)
 have s1:w.heap.size<W1.heap.size:=by rw [← hW1];simp
 have h1:=h.on (vV B1 h.lies)
 obtain⟨d0,d1,d2,d3,d4⟩:=dR h1.box
 have lβ:=h.lies β (.inl rfl)
 have nβ:β≠w.heap.size:=by omega
 have hsm:=h.small
 have hfw:=h.few
 have one1:∀ u∈fs.safe.map Value.string,u.oneCell'=true:=by simp [Value.oneCell']
 have one2:∀ u∈fs.late.flatMap dE,u.oneCell'=true:=by intro u hu;simp only [List.mem_flatMap,dE] at hu;obtain⟨x,_,hx⟩:=hu;simp at hx;rcases hx with rfl|rfl<;>rfl
 go_enter Tryz.func14,Tryz.ntmps14
 go_wp2_with (first
  | (at_builtin;refine qEa W1 rfl (.tmp 10) 70 9 _ 1 16 rfl Tryz.underlying70 tZ rfl (by decide) _ fs.safe.length (fs.safe.map .string) rfl h1.safe one1 (by omega) (by omega) ?_;intro v2 W2 o2 B2 k2;obtain⟨sa,sc,rfl⟩:=aO o2;have b2:=(B2.block _ (gL b1)).trans b1;have fr2:=aF b2;obtain⟨p0,p1,p2,p3,p4⟩:=dR b2;obtain⟨W3,hW3⟩:=nM (W2.setCell ⟨w.heap.size,0,none⟩ (.slice sa fs.safe.length sc));have b3:W3.heap[w.heap.size]?=some (.cells #[.slice sa fs.safe.length sc,.slice la0 fs.late.length lc0,.int .i64 fs.wait,.int .i64 fs.life,.int .i64 fs.failed] 73):=(by rw [← hW3];simpa using aD b2 0 (.slice sa fs.safe.length sc));have h2:=h1.on (vV B2 h1.lies);have h3:aG W3 β (.slice sa0 fs.safe.length sc0) (.slice la0 fs.late.length lc0) fs:=(by rw [← hW3];exact h2.on ((On.refl _ _).setCell (p:=⟨w.heap.size,0,none⟩) (fun hk=>by have:=h.lies _ hk;exact Nat.lt_irrefl _ this) _));obtain⟨e0,e1,e2,e3,e4⟩:=dR h3.box)
  | (at_builtin;refine qEa W3 rfl (.tmp 16) 71 75 _ 2 24 rfl Tryz.underlying71 Hy rfl (by decide) _ fs.late.length (fs.late.flatMap dE) rfl h3.late one2 (by omega) (by omega) ?_;intro v4 W4 o4 B4 k4;obtain⟨la,lc,rfl⟩:=aO o4;have b4:=(B4.block _ (gL b3)).trans b3;have fr4:=aF b4;obtain⟨q0,q1,q2,q3,q4⟩:=dR b4))
 go_ret
 have s2:=B2.size
 have s3:W3.heap.size=W2.heap.size:=by rw [← hW3];simp [World.setCell]
 have s4:=B4.size
 have o3:W3.ownsRow 0 9 1 (.slice sa fs.safe.length sc) fs.safe.length (fs.safe.map .string):=by
  rw [← hW3]
  exact bK o2 ((On.refl (fun k=>Value.ownBlock _=some k) W2).setCell (p:=⟨w.heap.size,0,none⟩) (fun hk=>by have:=k2 _ hk;simp at this;omega) _) (fun k hk=>hk)
 refine⟨_,_,_,rfl,⟨by simpa using aD b4 1 (.slice la fs.late.length lc),?_,?_,hsm,hfw⟩,?_,?_⟩
 ·have o5:W4.ownsRow 0 9 1 (.slice sa fs.safe.length sc) fs.safe.length (fs.safe.map .string):=bK o3 (vV B4 (fun k hk=>aX o3 hk)) (fun k hk=>hk)
  exact bK o5 ((On.refl (fun k=>Value.ownBlock _=some k) W4).setCell (p:=⟨w.heap.size,1,none⟩) (fun hk=>aV o5 b4 (by decide) hk) _) (fun k hk=>hk)
 ·exact bK o4 ((On.refl (fun k=>Value.ownBlock _=some k) W4).setCell (p:=⟨w.heap.size,1,none⟩) (fun hk=>aV o4 b4 (by decide) hk) _) (fun k hk=>hk)
 ·exact(B1.trans ((B2.mono (by omega)).trans ((Below.trans (hW3▸(Below.refl w.heap.size W2).setCell (p:=⟨w.heap.size,0,none⟩) (jU _) _) (B4.mono (by omega)))))).setCell (p:=⟨w.heap.size,1,none⟩) (jU _) _
 ·rintro k (hk|hk|hk)
  ·exact Nat.le_of_eq hk.symm
  ·have:=k2 k hk;omega
  ·have:=k4 k hk;omega
theorem Am (s:Sp) (k:ByteArray) (w:World) :
  Calls Tryz.prog 106 #[.agg #[.string s.lo,.string s.hi],.string k] w fun e w'=>e=.returned (.bool (s.has k))∧Below w.heap.size w w':=by
 have hb:Below w.heap.size w (w.alloc (.cells #[.string s.lo,.string s.hi] 135)):=bA _ _
 cases h1:Op.bytesLess k.toList s.lo.toList<;>cases h2:s.hi.toList.isEmpty<;>cases h3:Op.bytesLess k.toList s.hi.toList
 all_goals
  have HR:Hid (s.has k=(!Op.bytesLess k.toList s.lo.toList&&(s.hi.toList.isEmpty||Op.bytesLess k.toList s.hi.toList))):=rfl
  rw [h1,h2,h3] at HR
  go_enter Tryz.func106,Tryz.ntmps106
  go_wp2
  go_ret
  exact⟨bT (by rw [HR.out];rfl),hb⟩
theorem Wo (s o:Sp) (w:World) :
  Calls Tryz.prog 131 #[.agg #[.string s.lo,.string s.hi],.agg #[.string o.lo,.string o.hi]] w fun e w'=>e=.returned (.bool (s.meets o))∧Below w.heap.size w w':=by
 have hb:Below w.heap.size w ((w.alloc (.cells #[.string s.lo,.string s.hi] 135)).alloc (.cells #[.string o.lo,.string o.hi] 135)):=(bA _ _).alloc (by simp) _
 cases h1:s.hi.toList.isEmpty<;>cases h2:Op.bytesLess o.lo.toList s.hi.toList<;>cases h3:o.hi.toList.isEmpty<;>cases h4:Op.bytesLess s.lo.toList o.hi.toList
 all_goals
  have HR:Hid (s.meets o=((s.hi.toList.isEmpty||Op.bytesLess o.lo.toList s.hi.toList)&&(o.hi.toList.isEmpty||Op.bytesLess s.lo.toList o.hi.toList))):=rfl
  rw [h1,h2,h3,h4] at HR
  go_enter Tryz.func131,Tryz.ntmps131
  go_wp2
  go_ret
  exact⟨bT (by rw [HR.out];rfl),hb⟩
def Ep (s:ByteArray) (g:Pg):Prop:=s.size=256∧(dD s.data.toList).encE=0∧(dD s.data.toList).encS=s∧g=dD s.data.toList
def Fs.has (fs:Fs) (p:Nat) (g:Pg):Prop:=p<fs.safe.length∧Ep (fs.at p) g
def New (w w':World):Bl:=fun k=>w.heap.size≤k∧k<w'.heap.size
theorem wZ {B:Nat} {e:TypeId} {z:Nat} {v:Value}  {xs:List Value} (h:w'.ownsRow B e z v n xs) (hB:B=w.heap.size):∃ a c,v=.slice a n c∧n≤c∧aH w' (New w w') a xs:=by
 have hc:=fun g hg=>World.ownsRow.cells (w:=w') h (g:=g) hg
 have hlt:=World.ownsRow.lt (w:=w') h
 obtain⟨hl,h2⟩:=id h
 rcases h2 with⟨rfl,rfl⟩|⟨g,cap,cur,rfl,_,_,hn,_⟩
 ·exact⟨none,0,rfl,jU _,.inl (List.eq_nil_of_length_eq_zero (by simpa using hl))⟩
 ·refine⟨_,_,rfl,hn,.inr ⟨g,0,rfl,⟨hB▸(hlt g rfl).1,(hlt g rfl).2⟩,fun i u hu=>?_⟩⟩
  have:=hc g rfl i u hu
  have e:(⟨g,0,none⟩:Addr).add i=⟨g,0+i,none⟩:=by unfold Addr.add;split<;>simp_all
  rw [e] at this
  exact this
theorem Yl.on {g:Pg} {v:Value} (h:Yl w' w.heap.size g v):Yk w' (New w w') g v:=by
 obtain⟨vk,vi,ve,rfl,h1,h2,h3⟩:=h
 obtain⟨ka,kc,rfl,hk,r1⟩:=wZ h1 rfl
 obtain⟨ia,ic,rfl,hi,r2⟩:=wZ h2 rfl
 obtain⟨ea,ec,rfl,he,r3⟩:=wZ h3 rfl
 exact⟨ka,ia,ea,kc,ic,ec,rfl,r1,r2,r3,hk,hi,he⟩
theorem Ik {g:Pg} (hs:Ep s g) (w:World) :
  Calls Tryz.prog 116 #[.string s] w fun e w'=>∃ ka ia ea kc ic ec,e=.returned (.tuple #[.agg #[.int .i64 g.kind,.int .i64 g.ver,.int .i64 g.root,.int .i64 g.next,.slice ka g.keys.length kc,.slice ia g.kids.length ic,.slice ea g.ents.length ec,.string g.data],.int .i64 0]) ∧
   aH w' (New w w') ka (g.keys.map .string)∧aH w' (New w w') ia (g.kids.map (.int .i64))∧aH w' (New w w') ea (g.ents.flatMap Ent.cells)∧(g.keys.length≤kc∧g.kids.length≤ic∧g.ents.length≤ec)∧Below w.heap.size w w':=by
 refine(uG s w).mono ?_
 rintro e w' ⟨hb,(⟨_,_,_,v,rfl,hv⟩|⟨hno,_⟩)⟩
 ·obtain⟨ka,ia,ea,kc,ic,ec,rfl,r⟩:=Yl.on hv
  obtain⟨_,_,_,rfl⟩:=hs
  exact⟨ka,ia,ea,kc,ic,ec,rfl,r.1,r.2.1,r.2.2.1,r.2.2.2,hb⟩
 ·exact absurd ⟨hs.1,hs.2.1,hs.2.2.1⟩ hno
def Ab (u:World) (β:Nat) (v0 v1 v2 v3 v4 v5 v6 v7:Value):World :=
 ((((((((u.setCell ⟨β,0,none⟩ v0).setCell ⟨β,1,none⟩ v1).setCell ⟨β,2,none⟩ v2).setCell ⟨β,3,none⟩ v3).setCell ⟨β,4,none⟩ v4).setCell ⟨β,5,none⟩ v5).setCell ⟨β,6,none⟩ v6).setCell ⟨β,7,none⟩ v7)
theorem Bu {u:World}  {a0 a1 a2 a3 a4 a5 a6 a7:Value} {t:TypeId} (h:u.heap[β]?=some (.cells #[a0,a1,a2,a3,a4,a5,a6,a7] t)) (v0 v1 v2 v3 v4 v5 v6 v7:Value):(Ab u β v0 v1 v2 v3 v4 v5 v6 v7).heap[β]?=some (.cells #[v0,v1,v2,v3,v4,v5,v6,v7] t):=uS h v0 v1 v2 v3 v4 v5 v6 v7
theorem Jk (u:World) (β:Nat) (v0 v1 v2 v3 v4 v5 v6 v7:Value):Fr (Bl.one β) u (Ab u β v0 v1 v2 v3 v4 v5 v6 v7):=by
 have s1:∀ (x:World) (i:Nat) (v:Value),Fr (Bl.one β) u x→Fr (Bl.one β) u (x.setCell ⟨β,i,none⟩ v):=fun x i v f=>f.setCell (p:=⟨β,i,none⟩) (.inl rfl) v
 exact s1 _ _ _ (s1 _ _ _ (s1 _ _ _ (s1 _ _ _ (s1 _ _ _ (s1 _ _ _ (s1 _ _ _ (s1 _ _ _ (Fr.refl _ _))))))))
abbrev pgO (g:Pg) (ka ia ea:Option Addr) (kc ic ec:Nat):Obj:=.cells #[.int .i64 g.kind,.int .i64 g.ver,.int .i64 g.root,.int .i64 g.next,.slice ka g.keys.length kc,.slice ia g.kids.length ic,.slice ea g.ents.length ec,.string g.data] 85
theorem Cs (β:Nat) (sv lv:Value) (fs:Fs) (root:Int) (ca:Option Addr) (cn cc:Nat) (p:Nat) (g:Pg) (w:World) (h:aG w β sv lv fs) (hl:(fs.life==0)=false) (hg:fs.has p g) :
  Calls Tryz.prog 112 #[.agg (tA β root ca cn cc),.int .i64 p] w fun e w'=>∃ v,e=.returned v∧Yk w' (New w w') g v∧Below w.heap.size w w':=by
 obtain⟨hp,hs⟩:=hg
 have hrd:fs.readS p=fs.at p:=by simp [Fs.readS,hp,hl]
 have hrb:(decide (p<fs.safe.length)&&!(fs.life==0))=true:=by simp [hp,hl]
 obtain⟨W1,hW1⟩:=nM ((w.alloc (.cells (tA β root ca cn cc) 95)).alloc (.cells #[.int .i64 0,.int .i64 0,.int .i64 0,.int .i64 0,.slice none 0 0,.slice none 0 0,.slice none 0 0,.string ⟨#[]⟩] 85))
 have B1:Below w.heap.size w W1:=hW1▸(bA _ _).alloc (by simp) _
 have h1:=h.on (vV B1 h.lies)
 have hR:=mI β sv lv fs p W1 h1
 rw [hrd,hrb] at hR
 have hD:=rP β sv lv fs W1 h1
 rw [hl] at hD
 have t1:W1.heap[w.heap.size]?=some (.cells (tA β root ca cn cc) 95):=hW1▸aB _ (aA w _)
 have r1:W1.heap[w.heap.size+1]?=some (.cells #[.int .i64 0,.int .i64 0,.int .i64 0,.int .i64 0,.slice none 0 0,.slice none 0 0,.slice none 0 0,.string ⟨#[]⟩] 85):=by
  rw [← hW1];have:=aA (w.alloc (.cells (tA β root ca cn cc) 95)) (.cells #[.int .i64 0,.int .i64 0,.int .i64 0,.int .i64 0,.slice none 0 0,.slice none 0 0,.slice none 0 0,.string ⟨#[]⟩] 85);simpa using this
 have tc:W1.cell? ⟨w.heap.size,0,none⟩=some (.pointer (some ⟨β,0,none⟩)):=by simp [World.cell?,t1]
 have lβ1:w.heap.size+1<W1.heap.size:=(gL r1)
 have hDec:=Ik hs W1
 go_enter Tryz.func112,Tryz.ntmps112
 go_wp2_with (first
  | (go_at_call 115;refine hR.mono ?_;rintro e w' ⟨rfl,hw⟩;subst w')
  | (go_at_call 61;refine hD.mono ?_;rintro e w' ⟨rfl,hw⟩;subst w')
  | (go_at_call 116;refine hDec.mono ?_;rintro e W2 ⟨ka,ia,ea,kc,ic,ec,rfl,q1,q2,q3,qq,hb2⟩;obtain⟨W3,hW3⟩:=nM (W2.alloc (pgO g ka ia ea kc ic ec));have x3:W3.heap[W2.heap.size]?=some (pgO g ka ia ea kc ic ec):=hW3▸aA W2 _;obtain⟨m0,m1,m2,m3,m4,m5,m6,m7⟩:=bL x3;have b3:Below W1.heap.size W1 W3:=hb2.trans (hW3▸(Below.refl _ _).alloc hb2.size _);have r3:=(b3.block _ lβ1).trans r1;obtain⟨n0,n1,n2,n3,n4,n5,n6,n7⟩:=bL r3;have nfr:=aF r3;have sz2:=hb2.size))
 obtain⟨W4,hW4⟩:=nM (Ab W3 (w.heap.size+1) (.int .i64 g.kind) (.int .i64 g.ver) (.int .i64 g.root) (.int .i64 g.next) (.slice ka g.keys.length kc) (.slice ia g.kids.length ic) (.slice ea g.ents.length ec) (.string g.data))
 have x4:=Bu r3 (.int .i64 g.kind) (.int .i64 g.ver) (.int .i64 g.root) (.int .i64 g.next) (.slice ka g.keys.length kc) (.slice ia g.kids.length ic) (.slice ea g.ents.length ec) (.string g.data)
 have f4:=Jk W3 (w.heap.size+1) (.int .i64 g.kind) (.int .i64 g.ver) (.int .i64 g.root) (.int .i64 g.next) (.slice ka g.keys.length kc) (.slice ia g.kids.length ic) (.slice ea g.ents.length ec) (.string g.data)
 obtain⟨y0,y1,y2,y3,y4,y5,y6,y7⟩:=bL x4
 unfold Ab at y0 y1 y2 y3 y4 y5 y6 y7
 refine bodyPost_ret (v:=.agg #[.int .i64 g.kind,.int .i64 g.ver,.int .i64 g.root,.int .i64 g.next,.slice ka g.keys.length kc,.slice ia g.kids.length ic,.slice ea g.ents.length ec,.string g.data]) ?_ rfl ⟨_,rfl,?_,?_⟩
 ·simp [results,Tryz.results112,go_sem,y0,y1,y2,y3,y4,y5,y6,y7]
 ·have f24:Fr (Bl.one (w.heap.size+1)) W2 (Ab W3 (w.heap.size+1) (.int .i64 g.kind) (.int .i64 g.ver) (.int .i64 g.root) (.int .i64 g.next) (.slice ka g.keys.length kc) (.slice ia g.kids.length ic) (.slice ea g.ents.length ec) (.string g.data)):=(hW3▸(Fr.refl _ W2).alloc _:Fr (Bl.one (w.heap.size+1)) W2 W3).trans f4
  have o24:=f24.on (Z:=New W1 W2) (fun k hk=>⟨hk.2,fun e=>by simp only [Bl.one] at e;have:=hk.1;omega⟩)
  have hN:∀ k,New W1 W2 k→New w (Ab W3 (w.heap.size+1) (.int .i64 g.kind) (.int .i64 g.ver) (.int .i64 g.root) (.int .i64 g.next) (.slice ka g.keys.length kc) (.slice ia g.kids.length ic) (.slice ea g.ents.length ec) (.string g.data)) k:=fun k hk=>⟨by have:=hk.1;have:=B1.size;omega,jY hk.2 f24.size⟩
  exact⟨ka,ia,ea,kc,ic,ec,rfl,(q1.on o24).mono hN,(q2.on o24).mono hN,(q3.on o24).mono hN,qq⟩
 ·exact(B1.trans (b3.mono (by omega))).trans (f4.below (by have:=b3.size;omega) (oK (by omega)))
theorem Kc {l:List Ent}  (hj:j<l.length):(l.flatMap Ent.cells)[j * 4]?=some (.string (l[j]).key)∧(l.flatMap Ent.cells)[j * 4+1]?=some (.string (l[j]).val)∧(l.flatMap Ent.cells)[j * 4+2]?=some (.int .i64 (l[j]).size)∧(l.flatMap Ent.cells)[j * 4+3]?=some (.int .i64 (l[j]).over):=by
 induction l generalizing j with
 | nil=>simp at hj
 | cons x l ih =>
  cases j with
  | zero=>simp [Ent.cells]
  | succ j =>
   have:=ih (j:=j) (by simpa using hj)
   have e0:(j+1) * 4=j * 4+4:=by omega
   have e1:(j+1) * 4+1=j * 4+1+4:=by omega
   have e2:(j+1) * 4+2=j * 4+2+4:=by omega
   have e3:(j+1) * 4+3=j * 4+3+4:=by omega
   rw [e1,e2,e3,e0]
   simpa [Ent.cells] using this
theorem aH.ent {S:Bl} {a:Option Addr} {l:List Ent}  (h:aH w S a (l.flatMap Ent.cells)) (hj:j<l.length):∃ b off,a=some ⟨b,off,none⟩∧S b∧w.cell? ⟨b,off+j * 4,none⟩=some (.string (l[j]).key)∧w.cell? ⟨b,off+j * 4+1,none⟩=some (.string (l[j]).val)∧w.cell? ⟨b,off+j * 4+2,none⟩=some (.int .i64 (l[j]).size)∧w.cell? ⟨b,off+j * 4+3,none⟩=some (.int .i64 (l[j]).over):=by
 obtain⟨c0,c1,c2,c3⟩:=Kc hj
 rcases h with h|⟨b,off,ha,hb,hc⟩
 ·rw [h] at c0;simp at c0
 ·exact⟨b,off,ha,hb,hc _ _ c0,hc _ _ c1,hc _ _ c2,hc _ _ c3⟩
theorem wrap_small (h:n≤4294967296):IntKind.i64.wrap (n:Int)=(n:Int):=by simp [IntKind.wrap,IntKind.bits,IntKind.signed];omega
abbrev wY:Obj:=.cells #[.int .i64 0,.int .i64 0,.int .i64 0,.int .i64 0,.slice none 0 0,.slice none 0 0,.slice none 0 0,.string ⟨#[]⟩] 85
theorem rF (β:Nat) (sv lv:Value) (fs:Fs) (root:Int) (ca:Option Addr) (cn cc:Nat) (p:Nat) (s:Sp) (g:Pg) (w:World) (h:aG w β sv lv fs) (hl:(fs.life==0)=false) (hg:fs.has p g) (kb2:(g.kind==2)=true) (hk0:0<g.keys.length) (c1:lt s.lo g.keys[0]=true) (c2:s.has (g.keys[g.keys.length-1])=true) (hkn:g.keys.length≤1000) (hen:g.ents.length≤1000) :
  Calls Tryz.prog 117 #[.agg (tA β root ca cn cc),.int .i64 p,.agg #[.string s.lo,.string s.hi]] w fun e w'=>∃ v,e=.returned v∧Yk w' (New w w') g v∧Below w.heap.size w w':=by
 obtain⟨W1,hW1⟩:=nM (((w.alloc (.cells (tA β root ca cn cc) 95)).alloc (.cells #[.string s.lo,.string s.hi] 135)).alloc wY)
 have B1:Below w.heap.size w W1:=hW1▸((bA _ _).alloc (by simp) _).alloc (by simp;omega) _
 have h1:=h.on (vV B1 h.lies)
 have t1:W1.heap[w.heap.size]?=some (.cells (tA β root ca cn cc) 95):=hW1▸aB _ (aB _ (aA w _))
 have s1:W1.heap[w.heap.size+1]?=some (.cells #[.string s.lo,.string s.hi] 135):=by
  rw [← hW1];refine aB _ ?_;have:=aA (w.alloc (.cells (tA β root ca cn cc) 95)) (.cells #[.string s.lo,.string s.hi] 135);simpa using this
 have r1:W1.heap[w.heap.size+1+1]?=some wY:=by
  rw [← hW1];have:=aA ((w.alloc (.cells (tA β root ca cn cc) 95)).alloc (.cells #[.string s.lo,.string s.hi] 135)) wY;simpa using this
 have lβ1:w.heap.size+1+1<W1.heap.size:=(gL r1)
 have tc:W1.cell? ⟨w.heap.size,0,none⟩=some (.pointer (some ⟨β,0,none⟩))∧W1.cell? ⟨w.heap.size,1,none⟩=some (.int .i64 root)∧W1.cell? ⟨w.heap.size,2,none⟩=some (.slice ca cn cc):=by simp [World.cell?,t1]
 obtain⟨tc0,tc1,tc2⟩:=tc
 have hLd:=Cs β sv lv fs root ca cn cc p g W1 h1 hl hg
 have g1:Op.bytesLess (g.keys[0]).toList s.lo.toList=false:=vE c1
 have g2:((g.keys[0]).toList==s.lo.toList)=false:=vF (fun e=>To c1 e.symm)
 have hH:=fun W=>Am s (g.keys[g.keys.length-1]) W
 rw [c2] at hH
 go_enter Tryz.func117,Tryz.ntmps117
 go_wp2_with (go_at_call 112;refine hLd.mono ?_;rintro e W2 ⟨v,rfl,⟨ka,ia,ea,kc,ic,ec,rfl,q1,q2,q3,qq⟩,hb2⟩;obtain⟨W3,hW3⟩:=nM (W2.alloc (pgO g ka ia ea kc ic ec));have x3:W3.heap[W2.heap.size]?=some (pgO g ka ia ea kc ic ec):=hW3▸aA W2 _;obtain⟨m0,m1,m2,m3,m4,m5,m6,m7⟩:=bL x3;have b3:Below W1.heap.size W1 W3:=hb2.trans (hW3▸(Below.refl _ _).alloc hb2.size _);have r3:=(b3.block _ lβ1).trans r1;have s3:=(b3.block _ (Nat.lt_of_succ_lt lβ1)).trans s1;obtain⟨u0,u1⟩:=cG s3;have sz2:=hb2.size)
 have o3:On (New W1 W2) W2 W3:=hW3▸(On.refl _ W2).alloc (fun k hk=>hk.2) _
 obtain⟨kb,ko,hka,hkb,kc0⟩:=(q1.on o3).at hk0
 obtain⟨kb',ko',hka',_,kcl⟩:=(q1.on o3).at (j:=g.keys.length-1) (by omega)
 subst hka
 cases hka'
 have hwr:IntKind.i64.wrap ((g.keys.length:Int)-1)=((g.keys.length-1:Nat):Int):=by rw [show (g.keys.length:Int)-1=((g.keys.length-1:Nat):Int) by omega];exact wrap_small (by omega)
 have hin:0≤((g.keys.length-1:Nat):Int)∧((g.keys.length-1:Nat):Int)<(g.keys.length:Int):=by omega
 have hkc:=qq.1
 simp only [Nat.add_zero] at kc0
 have hk0i:(0:Int)<(g.keys.length:Int):=by omega
 go_region_law (go_simp;go_at_call 106;refine(hH _).mono ?_;rintro e w4 ⟨rfl,hb4⟩;have x4:=(hb4.block _ (gL x3)).trans x3;have R:=(hb4.block _ (gL r3)).trans r3;obtain⟨i0,i1,i2,i3,i4,i5,i6,i7⟩:=bL x4;obtain⟨n0,n1,n2,n3,n4,n5,n6,n7⟩:=bL R;have nfr:=aF R;have F4:Fr Bl.none W3 w4:=(Fr.refl _ W3).drew.trans (Fr.of_below hb4))
 all_goals go_wp2
 all_goals
  have x5:=Bu R (.int .i64 g.kind) (.int .i64 g.ver) (.int .i64 g.root) (.int .i64 g.next) (.slice (some ⟨kb,ko,none⟩) g.keys.length kc) (.slice ia g.kids.length ic) (.slice ea g.ents.length ec) (.string g.data)
  have f5:=Jk w4 (w.heap.size+1+1) (.int .i64 g.kind) (.int .i64 g.ver) (.int .i64 g.root) (.int .i64 g.next) (.slice (some ⟨kb,ko,none⟩) g.keys.length kc) (.slice ia g.kids.length ic) (.slice ea g.ents.length ec) (.string g.data)
  obtain⟨y0,y1,y2,y3,y4,y5,y6,y7⟩:=bL x5
  unfold Ab at y0 y1 y2 y3 y4 y5 y6 y7
  have F3:Fr Bl.none W2 w4:=(hW3▸(Fr.refl _ W2).alloc _:Fr Bl.none W2 W3).trans F4
  have F5:Fr (Bl.one (w.heap.size+1+1)) W2 (Ab w4 (w.heap.size+1+1) (.int .i64 g.kind) (.int .i64 g.ver) (.int .i64 g.root) (.int .i64 g.next) (.slice (some ⟨kb,ko,none⟩) g.keys.length kc) (.slice ia g.kids.length ic) (.slice ea g.ents.length ec) (.string g.data)):=(F3.mono (fun k hk=>hk.elim)).trans f5
  have o5:=F5.on (Z:=New W1 W2) (fun k hk=>⟨hk.2,fun e=>by simp only [Bl.one] at e;have:=hk.1;omega⟩)
  have hN:∀ k,New W1 W2 k→New w (Ab w4 (w.heap.size+1+1) (.int .i64 g.kind) (.int .i64 g.ver) (.int .i64 g.root) (.int .i64 g.next) (.slice (some ⟨kb,ko,none⟩) g.keys.length kc) (.slice ia g.kids.length ic) (.slice ea g.ents.length ec) (.string g.data)) k:=fun k hk=>⟨by have:=hk.1;have:=B1.size;omega,jY hk.2 F5.size⟩
  refine bodyPost_ret (v:=.agg #[.int .i64 g.kind,.int .i64 g.ver,.int .i64 g.root,.int .i64 g.next,.slice (some ⟨kb,ko,none⟩) g.keys.length kc,.slice ia g.kids.length ic,.slice ea g.ents.length ec,.string g.data]) ?_ rfl ⟨_,rfl,⟨(some ⟨kb,ko,none⟩),ia,ea,kc,ic,ec,rfl,(q1.on o5).mono hN,(q2.on o5).mono hN,(q3.on o5).mono hN,qq⟩,?_⟩
  ·simp [results,Tryz.results117,go_sem,y0,y1,y2,y3,y4,y5,y6,y7]
  ·exact(B1.trans (hb2.mono (by omega))).trans (F5.below (by omega) (oK (by omega)))
theorem sI (β:Nat) (sv lv:Value) (fs:Fs) (root:Int) (ca:Option Addr) (cn cc:Nat) (p:Nat) (s:Sp) (g:Pg) (w:World) (h:aG w β sv lv fs) (hl:(fs.life==0)=false) (hg:fs.has p g) (kb2:(g.kind==2)=false) (kb3:(g.kind==3)=true) (he0:0<g.ents.length) (c1:s.has (g.ents[0]).key=true) (c2:s.has (g.ents[g.ents.length-1]).key=true) (hkn:g.keys.length≤1000) (hen:g.ents.length≤1000) :
  Calls Tryz.prog 117 #[.agg (tA β root ca cn cc),.int .i64 p,.agg #[.string s.lo,.string s.hi]] w fun e w'=>∃ v,e=.returned v∧Yk w' (New w w') g v∧Below w.heap.size w w':=by
 obtain⟨W1,hW1⟩:=nM (((w.alloc (.cells (tA β root ca cn cc) 95)).alloc (.cells #[.string s.lo,.string s.hi] 135)).alloc wY)
 have B1:Below w.heap.size w W1:=hW1▸((bA _ _).alloc (by simp) _).alloc (by simp;omega) _
 have h1:=h.on (vV B1 h.lies)
 have t1:W1.heap[w.heap.size]?=some (.cells (tA β root ca cn cc) 95):=hW1▸aB _ (aB _ (aA w _))
 have s1:W1.heap[w.heap.size+1]?=some (.cells #[.string s.lo,.string s.hi] 135):=by
  rw [← hW1];refine aB _ ?_;have:=aA (w.alloc (.cells (tA β root ca cn cc) 95)) (.cells #[.string s.lo,.string s.hi] 135);simpa using this
 have r1:W1.heap[w.heap.size+1+1]?=some wY:=by
  rw [← hW1];have:=aA ((w.alloc (.cells (tA β root ca cn cc) 95)).alloc (.cells #[.string s.lo,.string s.hi] 135)) wY;simpa using this
 have lβ1:w.heap.size+1+1<W1.heap.size:=(gL r1)
 have tc:W1.cell? ⟨w.heap.size,0,none⟩=some (.pointer (some ⟨β,0,none⟩))∧W1.cell? ⟨w.heap.size,1,none⟩=some (.int .i64 root)∧W1.cell? ⟨w.heap.size,2,none⟩=some (.slice ca cn cc):=by simp [World.cell?,t1]
 obtain⟨tc0,tc1,tc2⟩:=tc
 have hLd:=Cs β sv lv fs root ca cn cc p g W1 h1 hl hg
 have hH0:=fun W=>Am s (g.ents[0]).key W
 have hHl:=fun W=>Am s (g.ents[g.ents.length-1]).key W
 rw [c1] at hH0
 rw [c2] at hHl
 go_enter Tryz.func117,Tryz.ntmps117
 go_wp2_with (go_at_call 112;refine hLd.mono ?_;rintro e W2 ⟨v,rfl,⟨ka,ia,ea,kc,ic,ec,rfl,q1,q2,q3,qq⟩,hb2⟩;obtain⟨W3,hW3⟩:=nM (W2.alloc (pgO g ka ia ea kc ic ec));have x3:W3.heap[W2.heap.size]?=some (pgO g ka ia ea kc ic ec):=hW3▸aA W2 _;obtain⟨m0,m1,m2,m3,m4,m5,m6,m7⟩:=bL x3;have b3:Below W1.heap.size W1 W3:=hb2.trans (hW3▸(Below.refl _ _).alloc hb2.size _);have r3:=(b3.block _ lβ1).trans r1;have s3:=(b3.block _ (Nat.lt_of_succ_lt lβ1)).trans s1;obtain⟨u0,u1⟩:=cG s3;have sz2:=hb2.size)
 have o3:On (New W1 W2) W2 W3:=hW3▸(On.refl _ W2).alloc (fun k hk=>hk.2) _
 obtain⟨eb,eo,hea,heb,ec0,_⟩:=(q3.on o3).ent he0
 have hea2:=hea
 subst hea
 have hwr:IntKind.i64.wrap ((g.ents.length:Int)-1)=((g.ents.length-1:Nat):Int):=by rw [show (g.ents.length:Int)-1=((g.ents.length-1:Nat):Int) by omega];exact wrap_small (by omega)
 have hin:0≤((g.ents.length-1:Nat):Int)∧((g.ents.length-1:Nat):Int)<(g.ents.length:Int):=by omega
 have hkc:=qq.2.2
 simp only [Nat.zero_mul,Nat.add_zero] at ec0
 have hk0i:(0:Int)<(g.ents.length:Int):=by omega
 go_region_law (first
  | (go_simp;go_at_call 106;refine(hH0 _).mono ?_;clear hH0;rintro e w3 ⟨rfl,hb3⟩;have x4:=(hb3.block _ (gL x3)).trans x3;have r4:=(hb3.block _ (gL r3)).trans r3;have s4:=(hb3.block _ (gL s3)).trans s3;obtain⟨i0,i1,i2,i3,i4,i5,i6,i7⟩:=bL x4;obtain⟨v0,v1⟩:=cG s4;have F3':Fr Bl.none W3 w3:=(Fr.refl _ W3).drew.trans (Fr.of_below hb3);obtain⟨eb',eo',hea',heb',ecl,_⟩:=(q3.on (o3.trans (F3'.on (fun k hk=>⟨jY hk.2 o3.size,fun h=>h⟩)))).ent (j:=g.ents.length-1) (by omega);cases hea')
  | (go_simp;go_at_call 106;refine(hHl _).mono ?_;rintro e w4 ⟨rfl,hb4⟩;have x5':=(hb4.block _ (gL x4)).trans x4;have R:=(hb4.block _ (gL r4)).trans r4;obtain⟨j0,j1,j2,j3,j4,j5,j6,j7⟩:=bL x5';obtain⟨n0,n1,n2,n3,n4,n5,n6,n7⟩:=bL R;have nfr:=aF R;have F4:Fr Bl.none W3 w4:=F3'.trans (Fr.of_below hb4)))
 all_goals go_wp2
 all_goals
  have x5:=Bu R (.int .i64 g.kind) (.int .i64 g.ver) (.int .i64 g.root) (.int .i64 g.next) (.slice ka g.keys.length kc) (.slice ia g.kids.length ic) (.slice (some ⟨eb,eo,none⟩) g.ents.length ec) (.string g.data)
  have f5:=Jk w4 (w.heap.size+1+1) (.int .i64 g.kind) (.int .i64 g.ver) (.int .i64 g.root) (.int .i64 g.next) (.slice ka g.keys.length kc) (.slice ia g.kids.length ic) (.slice (some ⟨eb,eo,none⟩) g.ents.length ec) (.string g.data)
  obtain⟨y0,y1,y2,y3,y4,y5,y6,y7⟩:=bL x5
  unfold Ab at y0 y1 y2 y3 y4 y5 y6 y7
  have F3:Fr Bl.none W2 w4:=(hW3▸(Fr.refl _ W2).alloc _:Fr Bl.none W2 W3).trans F4
  have F5:Fr (Bl.one (w.heap.size+1+1)) W2 (Ab w4 (w.heap.size+1+1) (.int .i64 g.kind) (.int .i64 g.ver) (.int .i64 g.root) (.int .i64 g.next) (.slice ka g.keys.length kc) (.slice ia g.kids.length ic) (.slice (some ⟨eb,eo,none⟩) g.ents.length ec) (.string g.data)):=(F3.mono (fun k hk=>hk.elim)).trans f5
  have o5:=F5.on (Z:=New W1 W2) (fun k hk=>⟨hk.2,fun e=>by simp only [Bl.one] at e;have:=hk.1;omega⟩)
  have hN:∀ k,New W1 W2 k→New w (Ab w4 (w.heap.size+1+1) (.int .i64 g.kind) (.int .i64 g.ver) (.int .i64 g.root) (.int .i64 g.next) (.slice ka g.keys.length kc) (.slice ia g.kids.length ic) (.slice (some ⟨eb,eo,none⟩) g.ents.length ec) (.string g.data)) k:=fun k hk=>⟨by have:=hk.1;have:=B1.size;omega,jY hk.2 F5.size⟩
  refine bodyPost_ret (v:=.agg #[.int .i64 g.kind,.int .i64 g.ver,.int .i64 g.root,.int .i64 g.next,.slice ka g.keys.length kc,.slice ia g.kids.length ic,.slice (some ⟨eb,eo,none⟩) g.ents.length ec,.string g.data]) ?_ rfl ⟨_,rfl,⟨ka,ia,(some ⟨eb,eo,none⟩),kc,ic,ec,rfl,(q1.on o5).mono hN,(q2.on o5).mono hN,(q3.on o5).mono hN,qq⟩,?_⟩
  ·simp [results,Tryz.results117,go_sem,y0,y1,y2,y3,y4,y5,y6,y7]
  ·exact(B1.trans (hb2.mono (by omega))).trans (F5.below (by omega) (oK (by omega)))
structure Ch where
 key:ByteArray
 val:ByteArray
 gone:Bool
def Ch.cells (c:Ch):List Value:=[.string c.key,.string c.val,.bool c.gone]
def cI (cs:List Ch):Prop:=cs.Pairwise (fun a b=>lt a.key b.key=true)
def cS:List Ch→ByteArray→Nat
 | [],_=>0
 | c :: cs,k=>if lt c.key k=true then cS cs k+1 else 0
def fnd (cs:List Ch) (k:ByteArray):Bool:=match cs[cS cs k]? with|some c=>!lt k c.key|none=>false
theorem pT:∀ (cs:List Ch) (k:ByteArray),cS cs k≤cs.length
 | [],_=>jU _
 | c :: cs,k=>by
  have:=pT cs k
  simp only [cS,jB]
  split<;>omega
theorem sD:∀ {cs:List Ch} {k:ByteArray} {i:Nat},i<cS cs k→∃ h:i<cs.length,lt cs[i].key k=true
 | [],_,i,hi=>by simp [cS] at hi
 | c :: cs,k,i,hi=>by
  simp only [cS] at hi
  split at hi
  ·rename_i hc
   cases i with
   | zero=>exact⟨by simp,hc⟩
   | succ i =>
    obtain⟨h,h'⟩:=sD (cs:=cs) (k:=k) (i:=i) (by omega)
    exact⟨by simpa using h,h'⟩
  ·omega
theorem pU:∀ {cs:List Ch} {k:ByteArray},cI cs→∀ {i:Nat},cS cs k≤i→∀ (hl:i<cs.length),lt cs[i].key k=false
 | [],_,_,i,_,hl=>by simp at hl
 | c :: cs,k,hr,i,hi,hl=>by
  obtain⟨h1,h2⟩:=List.pairwise_cons.1 hr
  simp only [cS] at hi
  split at hi
  ·cases i with
   | zero=>omega
   | succ i=>exact pU h2 (by omega) (by simpa using hl)
  ·rename_i hc
   have hc':lt c.key k=false:=by simpa using hc
   cases i with
   | zero=>exact hc'
   | succ i =>
    have hm:=h1 (cs[i]'(by simpa using hl)) (List.getElem_mem _)
    cases hx:lt (cs[i]'(by simpa using hl)).key k
    ·exact hx
    ·have:=gB hm hx;rw [hc'] at this;cases this
theorem qCp {cs:List Ch} {k:ByteArray} (hr:cI cs) {i:Nat} (hi:i≤cs.length) (h1:∀ j (h:j<cs.length),j<i→lt cs[j].key k=true) (h2:∀ j (h:j<cs.length),i≤j→lt cs[j].key k=false):cS cs k=i:=by
 have hl:=pT cs k
 by_cases h:cS cs k<i
 ·have a:=h1 (cS cs k) (by omega) h
  have b:=pU hr (jU _) (by omega:cS cs k<cs.length)
  rw [a] at b;cases b
 ·by_cases h':i<cS cs k
  ·obtain⟨hh,a⟩:=sD h'
   have b:=h2 i hh (jU _)
   rw [a] at b;cases b
  ·omega
theorem Ov {l:List Ch}  (hj:j<l.length):(l.flatMap Ch.cells)[j * 3]?=some (.string (l[j]).key)∧(l.flatMap Ch.cells)[j * 3+1]?=some (.string (l[j]).val)∧(l.flatMap Ch.cells)[j * 3+2]?=some (.bool (l[j]).gone):=by
 induction l generalizing j with
 | nil=>simp at hj
 | cons x l ih =>
  cases j with
  | zero=>simp [Ch.cells]
  | succ j =>
   have:=ih (j:=j) (by simpa using hj)
   have e0:(j+1) * 3=j * 3+3:=by omega
   have e1:(j+1) * 3+1=j * 3+1+3:=by omega
   have e2:(j+1) * 3+2=j * 3+2+3:=by omega
   rw [e1,e2,e0]
   simpa [Ch.cells] using this
theorem aH.ch {S:Bl} {a:Option Addr} {l:List Ch}  (h:aH w S a (l.flatMap Ch.cells)) (hj:j<l.length):∃ b off,a=some ⟨b,off,none⟩∧S b∧w.cell? ⟨b,off+j * 3,none⟩=some (.string (l[j]).key)∧w.cell? ⟨b,off+j * 3+1,none⟩=some (.string (l[j]).val)∧w.cell? ⟨b,off+j * 3+2,none⟩=some (.bool (l[j]).gone):=by
 obtain⟨c0,c1,c2⟩:=Ov hj
 rcases h with h|⟨b,off,ha,hb,hc⟩
 ·rw [h] at c0;simp at c0
 ·exact⟨b,off,ha,hb,hc _ _ c0,hc _ _ c1,hc _ _ c2⟩
theorem xN (s:ByteArray) (w:World):Calls Tryz.prog 129 #[.string s] w fun e w'=>e=.returned (.bool false)∧w'=w:=by
 have h:(s.toList==s.toList)=true:=by simp
 go_enter Tryz.func129,Tryz.ntmps129
 go_wp2
 go_ret
 exact⟨by simp,rfl⟩
def wD (a b:ByteArray):Int:=if lt a b then -1 else if lt b a then 1 else 0
theorem uV {k:IntKind} {a b:Int} (h:a=b):Ending.returned (.int k a)=.returned (.int k b):=by rw [h]
theorem Ol (a b:ByteArray) (w:World):Calls Tryz.prog 103 #[.string a,.string b] w fun e w'=>e=.returned (.int .i64 (wD a b))∧w'=w:=by
 cases h1:Op.bytesLess a.toList b.toList
 ·by_cases h2:a=b
  ·have h3:(a.toList==b.toList)=true:=Hh h2
   have HC:Hid (wD a b=0):=by show _=_;subst h2;simp [wD,bU]
   clear h2
   go_enter Tryz.func103,Tryz.ntmps103
   go_wp2_with (go_at_call 129;refine(xN _ _).mono ?_;rintro e w' ⟨rfl,hw⟩;subst w')
   go_ret
   exact⟨uV HC.out.symm,rfl⟩
  ·have h3:(a.toList==b.toList)=false:=vF h2
   have h4:lt b a=true:=by
    cases h:lt b a
    ·exact absurd (mQ h1 h) h2
    ·rfl
   have HC:Hid (wD a b=1):=by show _=_;unfold wD;rw [show lt a b=false from h1,h4];rfl
   go_enter Tryz.func103,Tryz.ntmps103
   go_wp2_with (go_at_call 129;refine(xN _ _).mono ?_;rintro e w' ⟨rfl,hw⟩;subst w')
   go_ret
   exact⟨uV HC.out.symm,rfl⟩
 ·have HC:Hid (wD a b = -1):=by show _=_;simp [wD,lt,h1]
  go_enter Tryz.func103,Tryz.ntmps103
  go_wp2_with (go_at_call 129;refine(xN _ _).mono ?_;rintro e w' ⟨rfl,hw⟩;subst w')
  go_ret
  exact⟨uV HC.out.symm,rfl⟩
theorem yH (c:Ch) (k:ByteArray) (w:World):Calls Tryz.prog 102 #[.agg #[.string c.key,.string c.val,.bool c.gone],.string k] w fun e w'=>e=.returned (.int .i64 (wD c.key k))∧Below w.heap.size w w':=by
 have hb:Below w.heap.size w (w.alloc (.cells #[.string c.key,.string c.val,.bool c.gone] 106)):=bA _ _
 go_enter Tryz.func102,Tryz.ntmps102
 go_wp2_with (go_at_call 103;refine(Ol _ _ _).mono ?_;rintro e w' ⟨rfl,hw⟩;subst w')
 go_ret
 exact⟨rfl,hb⟩
theorem Ot {a b:ByteArray}:(wD a b<0)↔lt a b=true:=by
 unfold wD
 split
 ·simp_all
 ·split<;>simp_all
theorem Yb {a b:ByteArray} (h:lt a b=false):(wD a b==0) = !lt b a:=by
 unfold wD
 rw [h]
 cases lt b a<;>rfl
theorem Zj {a a':Nat} {b b':Bool} (h1:a=a') (h2:b=b'):Ending.returned (.tuple #[.int .i64 a,.bool b])=.returned (.tuple #[.int .i64 a',.bool b']):=by rw [h1,h2]
theorem Oy (ca:Option Addr) (cc:Nat) (cs:List Ch) (k:ByteArray) (S:Bl) (w:World) (hR:aH w S ca (cs.flatMap Ch.cells)) (hS:∀ b,S b→b<w.heap.size) (hr:cI cs) (hn:cs.length≤1000000) (hc:cs.length≤cc) :
  Calls Tryz.prog 101 #[.slice ca cs.length cc,.string k,.func (.func 102) #[] #[]] w fun e w'=>e=.returned (.tuple #[.int .i64 (cS cs k),.bool (fnd cs k)])∧Below w.heap.size w w':=by
 go_enter Tryz.func101,Tryz.ntmps101
 go_wp2
 go_loopw [9,10] (fun a b wr=>∃ i j:Nat,a=.int .i64 i∧b=.int .i64 j∧i≤j∧j≤cs.length∧Below w.heap.size w wr∧Hid ((∀ m (h:m<cs.length),m<i→lt cs[m].key k=true)∧(∀ m (h:m<cs.length),j≤m→lt cs[m].key k=false))) (fun a b _=>(intOf b-intOf a).toNat)
 case atStart=>exact⟨0,cs.length,rfl,rfl,Nat.zero_le _,jU _,Below.refl _ _,fun m h h'=>by omega,fun m h h'=>by omega⟩
 case round =>
  obtain⟨i,j,rfl,rfl,hij,hjn,hb,HI⟩:=hrel
  by_cases hlt:i<j
  ·have hmi:i≤(i+j) / 2:=by omega
   have hmj:(i+j) / 2<j:=by omega
   have hmn:(i+j) / 2<cs.length:=by omega
   obtain⟨rb,ro,hca,hrb,k0,k1,k2⟩:=(hR.on (vV hb hS)).ch hmn
   subst hca
   obtain⟨c,hcc⟩:=nM (cs[(i+j) / 2])
   rw [hcc] at k0 k1 k2
   have hlti:(i:Int)<(j:Int):=by omega
   have hC:=yH c k wr
   have hdiv:((i:Int)+(j:Int)) / 2=(((i+j) / 2:Nat):Int):=by omega
   have HD:Hid (((i:Int)+(j:Int)) / 2=(((i+j) / 2:Nat):Int)):=hdiv
   have HC:Hid (cs[(i+j) / 2]=c):=hcc
   clear hdiv hcc hR
   cases hl:lt c.key k
   ·have hneg:¬ wD c.key k<0:=by rw [Ot,hl];simp
    go_wp2_with (go_at_call 102;refine hC.mono ?_;rintro e w2 ⟨rfl,hb2⟩)
    go_roundw
    case rel =>
     refine⟨i,(i+j) / 2,rfl,by rw [HD.out],hmi,by omega,hb.trans (hb2.mono hb.size),HI.out.1,fun m h hm=>?_⟩
     by_cases he:m=(i+j) / 2
     ·subst he;rw [HC.out];exact hl
     ·have hp:=List.pairwise_iff_getElem.1 hr ((i+j) / 2) m hmn h (by omega)
      rw [HC.out] at hp
      cases hx:lt cs[m].key k
      ·rfl
      ·have:=gB hp hx;rw [hl] at this;cases this
    case measure=>simp [intOf];omega
   ·have hneg:wD c.key k<0:=Ot.2 hl
    go_wp2_with (go_at_call 102;refine hC.mono ?_;rintro e w2 ⟨rfl,hb2⟩)
    go_roundw
    case rel =>
     refine⟨(i+j) / 2+1,j,by rw [HD.out];rfl,rfl,by omega,hjn,hb.trans (hb2.mono hb.size),fun m h hm=>?_,HI.out.2⟩
     by_cases he:m=(i+j) / 2
     ·subst he;rw [HC.out];exact hl
     ·have hp:=List.pairwise_iff_getElem.1 hr m ((i+j) / 2) h hmn (by omega)
      rw [HC.out] at hp
      exact gB hp hl
    case measure=>simp [intOf];omega
  ·obtain rfl:i=j:=by omega
   have HS:Hid (cS cs k=i):=qCp hr hjn HI.out.1 HI.out.2
   by_cases hin:i<cs.length
   ·obtain⟨rb,ro,hca,hrb,k0,k1,k2⟩:=(hR.on (vV hb hS)).ch hin
    subst hca
    have hl:lt cs[i].key k=false:=HI.out.2 i hin (jU _)
    have HF:Hid (fnd cs k = !lt k cs[i].key):=by show _=_;unfold fnd;rw [HS.out];simp [hin]
    have hini:(i:Int)<(cs.length:Int):=by omega
    have hC:=yH cs[i] k wr
    have hz:=Yb hl
    clear hR
    go_wp2_with (go_at_call 102;refine hC.mono ?_;rintro e w2 ⟨rfl,hb2⟩)
    go_ret2
    exact⟨Zj HS.out.symm HF.out.symm,hb.trans (hb2.mono hb.size)⟩
   ·have HF:Hid (fnd cs k=false):=by show _=_;unfold fnd;rw [HS.out,List.getElem?_eq_none (by omega)]
    have hini:¬ (i:Int)<(cs.length:Int):=by omega
    clear hR
    go_wp2
    go_ret2
    exact⟨Zj HS.out.symm HF.out.symm,hb⟩
theorem mF (ca:Option Addr) (cc:Nat) (cs:List Ch) (k:ByteArray) (S:Bl) (w:World) (hR:aH w S ca (cs.flatMap Ch.cells)) (hS:∀ b,S b→b<w.heap.size) (hr:cI cs) (hn:cs.length≤1000000) (hc:cs.length≤cc) :
  Calls Tryz.prog 72 #[.slice ca cs.length cc,.string k] w fun e w'=>e=.returned (.tuple #[.int .i64 (cS cs k),.bool (fnd cs k)])∧Below w.heap.size w w':=by
 have hB:=Oy ca cc cs k S w hR hS hr hn hc
 go_enter Tryz.func72,Tryz.ntmps72
 go_wp2_with (go_at_call 101;refine hB.mono ?_;rintro e w2 ⟨rfl,hb2⟩)
 go_ret2
 exact⟨rfl,hb2⟩
def sect (s:ByteArray) (k:Nat):List UInt8:=(s.data.toList.drop (64 * k)).take 64
structure fW (safe:List ByteArray) (late:List (Nat×ByteArray)) (safe':List ByteArray):Prop where
 len:safe'.length=safe.length
 size:∀ p (h:p<safe'.length),(safe'[p]).size=256
 sect:∀ p (h:p<safe'.length) k,k<4→sect safe'[p] k=sect (safe[p]'(by omega)) k∨∃ x∈late,x.1=p∧sect safe'[p] k=sect x.2 k
theorem Kg {safe:List ByteArray} {late:List (Nat×ByteArray)} (h:∀ p (h:p<safe.length),(safe[p]).size=256):fW safe late safe:=⟨rfl,h,fun _ _ _ _=>.inl rfl⟩
def torn (s d:ByteArray) (k:Nat):ByteArray:=⟨(s.data.toList.take (64 * k)++sect d k++s.data.toList.drop (64 * k+64)).toArray⟩
theorem gT (s:ByteArray):s.data.toList.length=s.size:=Array.length_toList
theorem Uw {s d:ByteArray}  (hs:s.size=256) (hd:d.size=256) (hk:k<4):(torn s d k).size=256:=by
 have h1:=gT s
 have h2:=gT d
 show (List.toArray _).size=256
 simp only [sect,jA,jK,List.length_take,List.length_drop]
 omega
theorem Ux {s d:ByteArray}  (hs:s.size=256) (hd:d.size=256) (hk:k<4) (hj:j<4):sect (torn s d k) j=if j=k then sect d k else sect s j:=by
 have h1:=gT s
 have h2:=gT d
 have hsl:(sect d k).length=64:=by simp only [sect,List.length_take,List.length_drop];omega
 have htl:(s.data.toList.take (64 * k)).length=64 * k:=by rw [List.length_take];omega
 have e:(torn s d k).data.toList=s.data.toList.take (64 * k)++sect d k++s.data.toList.drop (64 * k+64):=by simp [torn]
 conv=>lhs;unfold sect
 rw [e]
 apply List.ext_getElem?
 intro i
 by_cases hi:i<64
 ·rw [List.getElem?_take_of_lt hi,List.getElem?_drop,List.append_assoc]
  by_cases hjk:j=k
  ·subst hjk
   rw [if_pos rfl,List.getElem?_append_right (by omega),htl,List.getElem?_append_left (by omega),show 64 * j+i-64 * j=i by omega]
  ·rw [if_neg hjk]
   have hsj:(sect s j)[i]?=s.data.toList[64 * j+i]?:=by rw [sect,List.getElem?_take_of_lt hi,List.getElem?_drop]
   rw [hsj]
   rcases Nat.lt_or_ge j k with hlt|hge
   ·rw [List.getElem?_append_left (by omega),List.getElem?_take_of_lt (by omega)]
   ·rw [List.getElem?_append_right (by omega),htl,List.getElem?_append_right (by omega),hsl,List.getElem?_drop,show 64 * k+64+(64 * j+i-64 * k-64)=64 * j+i by omega]
 ·rw [List.getElem?_take,if_neg hi]
  split
  ·rw [sect,List.getElem?_take,if_neg hi]
  ·rw [sect,List.getElem?_take,if_neg hi]
theorem fW.step {safe:List ByteArray} {late:List (Nat×ByteArray)} {cur:List ByteArray} (h:fW safe late cur) {x:Nat×ByteArray} (hx:x∈late) (hd:x.2.size=256) (hp:x.1<cur.length)  (hk:k<4):fW safe late (cur.set x.1 (torn (cur[x.1]) x.2 k)):=by
 refine⟨by rw [List.length_set];exact h.len,fun p hp'=>?_,fun p hp' j hj=>?_⟩
 ·rw [List.length_set] at hp'
  rw [List.getElem_set]
  split
  ·exact Uw (h.size _ hp) hd hk
  ·exact h.size p hp'
 ·rw [List.length_set] at hp'
  rw [List.getElem_set]
  split
  ·next e =>
   subst e
   rw [Ux (h.size _ hp) hd hk hj]
   split
   ·next e=>subst e;exact .inr ⟨x,hx,rfl,rfl⟩
   ·exact h.sect _ hp j hj
  ·exact h.sect p hp' j hj
theorem Pp (s d:ByteArray) (k:Nat) (hs:s.size=256) (hd:d.size=256) (hk:k<4):(s.extract 0 (64 * k)++d.extract (64 * k) (64 * k+64))++s.extract (64 * k+64) 256=torn s d k:=by
 have h1:=gT s
 have h2:=gT d
 apply ByteArray.ext
 apply Array.ext'
 simp only [ByteArray.data_append,ByteArray.data_extract,Array.toList_append,Array.toList_extract,torn,sect,List.extract_eq_take_drop,List.toList_toArray]
 rw [List.take_of_length_le (l:=s.data.toList.drop (64 * k+64)) (by rw [List.length_drop];omega),show 64 * k+64-64 * k=64 by omega]
 simp
def Fs.calm (fs:Fs):Fs:={ fs with wait:=-1,life:=-1 }
theorem Sd (β:Nat) (sv lv:Value) (fs:Fs) (ka:Option Addr) (kn kc:Nat) (w:World) (h:aG w β sv lv fs) (hl:fs.late=[]) :
  Calls Tryz.prog 15 #[.pointer (some ⟨β,0,none⟩),.slice ka kn kc] w fun e w'=>(∃ v,e=.returned v)∧aG w' β sv (.slice none 0 0) fs.calm∧Fr (Bl.one β) w w':=by
 obtain⟨sa,sc,rfl⟩:=aO h.safe
 obtain⟨la,lc,rfl⟩:=aO h.late
 have hb:=h.box
 have hl0:fs.late.length=0:=by rw [hl];rfl
 rw [hl0] at hb
 obtain⟨c0,c1,c2,c3,c4⟩:=dR hb
 have hfr:=aF hb
 have b1:=aD hb 1 (.slice none 0 0)
 have b2:=aD b1 2 (.int .i64 (-1))
 have b3:=aD b2 3 (.int .i64 (-1))
 have F:Fr (Bl.one β) w (((w.setCell ⟨β,1,none⟩ (.slice none 0 0)).setCell ⟨β,2,none⟩ (.int .i64 (-1))).setCell ⟨β,3,none⟩ (.int .i64 (-1))):=(((Fr.refl (Bl.one β) w).setCell (p:=⟨β,1,none⟩) (.inl rfl) _).setCell (p:=⟨β,2,none⟩) (.inl rfl) _).setCell (p:=⟨β,3,none⟩) (.inl rfl) _
 have hne:(Value.slice sa fs.safe.length sc).ownBlock≠some β:=aV h.safe h.box (by decide)
 have HF:Hid (aG (((w.setCell ⟨β,1,none⟩ (.slice none 0 0)).setCell ⟨β,2,none⟩ (.int .i64 (-1))).setCell ⟨β,3,none⟩ (.int .i64 (-1))) β (.slice sa fs.safe.length sc) (.slice none 0 0) fs.calm):=by
  refine⟨by simpa [Fs.calm] using b3,?_,?_,h.small,h.few⟩
  ·exact bK h.safe (F.on (Z:=fun k=>Value.ownBlock _=some k) (fun k hk=>⟨aX h.safe hk,fun e=>by simp only [Bl.one] at e;subst e;exact hne hk⟩)) (fun k hk=>hk)
  ·simp only [Fs.calm,hl];exact World.ownsRow_nil _ _ _ _
 have HFr:Hid (Fr (Bl.one β) w (((w.setCell ⟨β,1,none⟩ (.slice none 0 0)).setCell ⟨β,2,none⟩ (.int .i64 (-1))).setCell ⟨β,3,none⟩ (.int .i64 (-1)))):=F
 clear b1 b2 b3 F hne h hl
 go_enter Tryz.func15,Tryz.ntmps15
 go_wp2
 go_loopw [4] (fun i wr=>i=.int .i64 0∧wr=w) (fun i _=>0)
 case atStart=>exact⟨rfl,rfl⟩
 case round =>
  obtain⟨rfl,rfl⟩:=hrel
  go_wp2
  go_end0
  exact⟨⟨_,rfl⟩,HF.out,HFr.out⟩
