/-
  Joined: File4.
-/
import Derived.Test.YtfnhmpcpeahfkaaGreatU20
set_option linter.unusedSimpArgs false
set_option linter.unusedVariables false
set_option maxHeartbeats 8000000
namespace Go.Proofs.YtfnhmpcpeahfkaaGreat.Tree
open Go.RowKit Pages
def laid (safe:List ByteArray) (late:List (Nat×ByteArray)):List ByteArray:=late.foldl (fun s x=>s.set x.1 x.2) safe
theorem dS:∀ (late:List (Nat×ByteArray)) (safe:List ByteArray),(laid safe late).length=safe.length
 | [],_=>rfl
 | x :: late,safe=>by
  show (laid (safe.set x.1 x.2) late).length=_
  rw [dS late];simp
theorem qTa (safe:List ByteArray) (late:List (Nat×ByteArray)) (x:Nat×ByteArray):laid safe (late++[x])=(laid safe late).set x.1 x.2:=by simp [laid]
def Fs.synced (fs:Fs):Fs:={ fs with safe:=laid fs.safe fs.late,late:=[] }
def Fs.fits (fs:Fs):Prop:=∀ x∈fs.late,x.1<fs.safe.length
theorem On.drew {Y:Bl} {a w:World} (h:On Y a w):On Y a w.drew:=h.trans ⟨rfl,rfl,rfl,Nat.le_refl _,fun _ _=>rfl⟩
theorem aH.stored {w:World} {β s n sc p:Nat} {lv:Value} {fs:Fs} {data:ByteArray} (h:aH w β (.slice (some ⟨s,0,none⟩) n sc) lv fs) (hn:n=fs.safe.length) :
  aH (w.setCell ⟨s,p,none⟩ (.string data)) β (.slice (some ⟨s,0,none⟩) n sc) lv { fs with safe:=fs.safe.set p data }:=by
 subst hn
 have hs:=(World.ownsRow.stored (w:=w) h.safe p (.string data)).1
 have nb:s≠β:=fun e=>bD h.safe h.box (by decide) (by rw [e];rfl)
 refine⟨(Below.heap_setCell w ⟨s,p,none⟩ _ β (fun e=>nb e.symm)).trans h.box,?_,?_,by simpa using h.small,h.few⟩
 ·have e:(fs.safe.set p data).map Value.string=(fs.safe.map Value.string).set p (.string data):=by rw [List.map_set]
  simp only [e,List.length_set]
  exact hs
 ·refine bN h.late ((On.refl (fun k=>lv.ownBlock=some k) w).setCell (p:=⟨s,p,none⟩) (fun hk=>?_) _) (fun k hk=>hk)
  rcases oU h.safe h.late (by decide) with h'|h'
  ·simp [Value.ownBlock] at h'
  ·exact h' (by rw [hk];rfl)
theorem qIm (β:Nat) (sv lv:Value) (fs:Fs) (w:World) (h:aH w β sv lv fs) (hw0 : -1≤fs.wait) (hw1:fs.wait≤9223372036854775807) (hl0 : -1≤fs.life) (hl1:fs.life≤9223372036854775807) (hfit:fs.fits) :
  Calls Tryz.prog 60 #[.pointer (some ⟨β,0,none⟩)] w fun e w'=>e=.returned (.bool fs.chOk) ∧
   ∃ lv',aH w' β sv lv' (if fs.chOk then fs.ch.synced else fs.ch)∧Fr (fpF β sv lv) w w'∧aK w (fpF β sv lv) (fpF β sv lv'):=by
 have hC:=xY β sv lv fs w h hw0 hw1 hl0 hl1
 obtain⟨sa,sc,rfl⟩:=aT h.safe
 obtain⟨la,lc,rfl⟩:=aT h.late
 cases hok:fs.chOk
 ·rw [hok] at hC
  go_enter Tryz.func60,Tryz.ntmps60
  go_wp2_with (go_at_call 83;refine hC.mono ?_;rintro e w1 ⟨rfl,h1,f1⟩)
  go_ret
  exact⟨rfl,_,h1,f1.mono (fun k hk=>.inl (.inl hk)),aK.refl _ _⟩
 ·rw [hok] at hC
  have hsm:=h.small
  have hfw:=h.few
  go_enter Tryz.func60,Tryz.ntmps60
  go_wp2_with (go_at_call 83;refine hC.mono ?_;rintro e w1 ⟨rfl,h1,f1⟩)
  obtain⟨F,hF⟩:∃ F:Fs,F=fs.ch:=⟨_,rfl⟩
  rw [← hF] at h1
  have e1:F.safe=fs.safe:=by rw [hF];exact Fs.ch_safe fs
  have e2:F.late=fs.late:=by rw [hF];exact Fs.ch_late fs
  go_loopw [4] (fun i wr=>∃ j:Nat,j≤fs.late.length∧i=.int .i64 j∧aH wr β (.slice sa fs.safe.length sc) (.slice la fs.late.length lc) { F with safe:=laid fs.safe (fs.late.take j) }∧Fr (fpF β (.slice sa fs.safe.length sc) (.slice la fs.late.length lc)) w wr) (fun i _=>fs.late.length-(intOf i).toNat)
  case atStart=>exact⟨0,Nat.zero_le _,rfl,by simpa [laid,← e1] using h1,f1.mono (fun k hk=>.inl (.inl hk))⟩
  case round =>
   obtain⟨j,hj,rfl,hr,fr⟩:=hrel
   obtain⟨c0,c1,c2,c3,c4⟩:=dC hr.box
   have hfr:=aJ hr.box
   by_cases hlt:j<fs.late.length
   ·obtain⟨q1,q2⟩:=vM (l:=fs.late) (j:=j) hlt
    have hL:wr.ownsRow 0 75 2 (.slice la fs.late.length lc) fs.late.length (fs.late.flatMap dB):=by have:=hr.late;simp only [e2] at this;exact this
    have hS:wr.ownsRow 0 9 1 (.slice sa fs.safe.length sc) fs.safe.length ((laid fs.safe (fs.late.take j)).map .string):=by have:=hr.safe;simp only [dS] at this;exact this
    obtain⟨g,hg,hglt,hgc,hgv⟩:=lS hL q1
    obtain⟨g',hg',_,_,hgv'⟩:=lS hL q2
    subst hg
    cases hg'
    have hp:=hfit _ (List.getElem_mem hlt)
    obtain⟨s,hs,hslt,hsc,hsv⟩:=lS hS (j:=(fs.late[j]).1) (u:=.string ((laid fs.safe (fs.late.take j))[(fs.late[j]).1]'(by rw [dS];exact hp))) (by simp [dS,hp])
    subst hs
    have sfr:=World.ownsRow.frozenAt (w:=wr) hS
    have hpi:((fs.late[j]).1:Int)<(fs.safe.length:Int):=by omega
    go_wp2
    go_region_with (fail)
    all_goals go_wp2
    all_goals
     have hst:=hr.stored (p:=(fs.late[j]).1) (data:=(fs.late[j]).2) (by simp [dS])
     have tk:fs.late.take (j+1)=fs.late.take j++[fs.late[j]]:=List.take_succ_eq_append_getElem hlt
     refine⟨⟨j+1,by omega,by go_num,?_,(fr.setCell (p:=⟨s,(fs.late[j]).1,none⟩) (.inl (.inr (.inl rfl))) _).drew⟩,by simp [intOf];omega⟩
     rw [tk,qTa]
     exact hst.on (On.refl _ _).drew
   ·obtain rfl:j=fs.late.length:=by omega
    have hb5:=aI hr.box 1 (.slice none 0 0)
    go_wp2
    go_ret
    refine⟨rfl,.slice none 0 0,?_,fr.setCell (p:=⟨β,1,none⟩) (.inl (.inl rfl)) _,?_⟩
    ·have hfe:fs.ch.synced = { F with safe:=laid fs.safe fs.late,late:=[] }:=by rw [hF];simp [Fs.synced,Fs.ch_safe,Fs.ch_late]
     rw [hfe]
     rw [List.take_length] at hr
     refine⟨by simpa using hb5,?_,World.ownsRow_nil _ _ _ _,hr.small,by simp⟩
     exact bN hr.safe ((On.refl (fun k=>Value.ownBlock _=some k) wr).setCell (p:=⟨β,1,none⟩) (fun hk=>bD hr.safe hr.box (by decide) hk) _) (fun k hk=>hk)
    ·rintro k (hk|hk|hk)
     ·exact .inl (.inl hk)
     ·exact .inl (.inr (.inl hk))
     ·simp [Value.ownBlock] at hk
end Go.Proofs.YtfnhmpcpeahfkaaGreat.Tree
