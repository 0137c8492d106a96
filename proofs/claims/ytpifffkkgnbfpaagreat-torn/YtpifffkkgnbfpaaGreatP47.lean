import Derived.Test.YtpifffkkgnbfpaaGreatP28
set_option linter.unusedSimpArgs false
set_option linter.unusedVariables false
set_option maxRecDepth 100000
set_option maxHeartbeats 8000000
namespace Go.Proofs.YtpifffkkgnbfpaaGreat.Tree
open Go.RowKit Pages
theorem Ee {w:World} {b b' o o':Nat} {v u:Value} (hne:b'≠b) (h:w.cell? ⟨b,o,none⟩=some u):(w.setCell ⟨b',o',none⟩ v).cell? ⟨b,o,none⟩=some u:=by
 rw [World.cell?_setCell_other _ _ _ _ (by simp [hne])];exact h
theorem Ya (β:Nat) (sv lv:Value) (fs:Fs) (ka:Option Addr) (kc:Nat) (keep:List Int) (S:Bl) (w:World) (h:aG w β sv lv fs) (hsz:∀ p (h:p<fs.safe.length),(fs.safe[p]).size=256) (hlz:∀ x∈fs.late,x.2.size=256) (hfit:fs.fits) (hR:aH w S ka (keep.map (.int .i64))) (hS:∀ k,S k→k<w.heap.size∧¬ fpF β sv lv k) (hkn:keep.length≤9223372036854775807) :
  Calls Tryz.prog 15 #[.pointer (some ⟨β,0,none⟩),.slice ka keep.length kc] w fun e w'=>(∃ v,e=.returned v)∧∃ safe',fW fs.safe fs.late safe'∧aG w' β sv (.slice none 0 0) { fs with safe:=safe',late:=[],wait:=-1,life:=-1 }∧Fr (fpF β sv lv) w w':=by
 obtain⟨sa,sc,rfl⟩:=aO h.safe
 obtain⟨la,lc,rfl⟩:=aO h.late
 have hsm:=h.small
 have hfw:=h.few
 go_enter Tryz.func15,Tryz.ntmps15
 go_wp2
 go_loopw [4] (fun i wr=>∃ (j:Nat) (cur:List ByteArray),i=.int .i64 j∧j≤fs.late.length∧Hid (fW fs.safe fs.late cur)∧aG wr β (.slice sa fs.safe.length sc) (.slice la fs.late.length lc) { fs with safe:=cur }∧Fr (fpF β (.slice sa fs.safe.length sc) (.slice la fs.late.length lc)) w wr) (fun i _=>fs.late.length-(intOf i).toNat)
 case atStart=>exact⟨0,fs.safe,rfl,Nat.zero_le _,Kg hsz,h,Fr.refl _ _⟩
 case round =>
  obtain⟨j,cur,rfl,hj,HC,hf,hF⟩:=hrel
  obtain⟨c0,c1,c2,c3,c4⟩:=dR hf.box
  by_cases hlt:j<fs.late.length
  ·have hlti:(j:Int)<(fs.late.length:Int):=by omega
   obtain⟨q1,q2⟩:=rX (l:=fs.late) (j:=j) hlt
   obtain⟨g,hg,hglt,hgc,hgv⟩:=lC hf.late q1
   obtain⟨g',hg',_,_,hgv'⟩:=lC hf.late q2
   subst hg
   cases hg'
   have hp:=hfit _ (List.getElem_mem hlt)
   obtain⟨x,hx⟩:=nM (fs.late[j])
   rw [hx] at hgv hgv' hp
   have nB:=aA wr (.cells #[.int .i64 x.1,.string x.2] 75)
   obtain⟨W0,hW0⟩:=nM (wr.alloc (.cells #[.int .i64 x.1,.string x.2] 75))
   have b0:Below wr.heap.size wr W0:=hW0▸(bA _ _)
   have hf0:=hf.on (vV b0 hf.lies)
   have hF0:Fr (fpF β (.slice sa fs.safe.length sc) (.slice (some ⟨g,0,none⟩) fs.late.length lc)) w W0:=hF.trans (Fr.of_below b0)
   rw [hW0] at nB
   have HX:Hid (x∈fs.late):=hx▸List.getElem_mem hlt
   go_wp2
   obtain⟨bx,hbx⟩:=nM (wr.heap.size)
   rw [hbx] at nB ⊢
   have HBX:Hid (w.heap.size≤bx):=by have:=hF.size;show _≤_;omega
   clear hf hF c0 c1 c2 c3 c4 hgv hgv' b0 hbx hW0
   go_loopw [6] (fun kk wr=>∃ (m:Nat) (cur:List ByteArray),kk=.int .i64 m∧m≤4∧Hid (fW fs.safe fs.late cur)∧Hid (aG wr β (.slice sa fs.safe.length sc) (.slice (some ⟨g,0,none⟩) fs.late.length lc) { fs with safe:=cur })∧Hid (Fr (fpF β (.slice sa fs.safe.length sc) (.slice (some ⟨g,0,none⟩) fs.late.length lc)) w wr)∧Hid (wr.heap[bx]?=some (.cells #[.int .i64 x.1,.string x.2] 75))) (fun kk _=>4-(intOf kk).toNat)
   case atStart=>exact⟨0,cur,rfl,by omega,HC,hf0,hF0,nB⟩
   case round =>
    obtain⟨m,cur,rfl,hm,HC,HF,HFr,HB⟩:=hrel
    clear hf0 hF0 nB
    by_cases hm4:m<4
    ·have hmi:(m:Int)<4:=by omega
     by_cases hn:4 * j+m<keep.length
     ·have hni:¬ ((keep.length:Int)≤4 * (j:Int)+(m:Int)):=by omega
      have hn4:4 * (j:Int)+(m:Int)<(keep.length:Int):=by omega
      obtain⟨y,hy⟩:=nM (keep[4 * j+m]'hn)
      have hRw:aH wr S ka (keep.map (.int .i64)):=hR.on (HFr.out.on (fun k hk=>hS k hk))
      rcases hRw with h0|⟨rb,off,rfl,hrb,hRc⟩
      ·have:=congrArg List.length h0
       rw [List.length_map,jN] at this
       omega
      have hcell:wr.cell? ⟨rb,off+(4 * j+m),none⟩=some (.int .i64 y):=hRc _ _ (by rw [List.getElem?_map,jQ hn,hy];rfl)
      have htn:(4 * (j:Int)+(m:Int)).toNat=4 * j+m:=by omega
      clear hRc hy
      have hxl:x.1<cur.length:=by rw [HC.out.len];exact hp
      have hSr:wr.ownsRow 0 9 1 (.slice sa fs.safe.length sc) fs.safe.length (cur.map .string):=by have:=HF.out.safe;simp only [HC.out.len] at this;exact this
      obtain⟨sg,hsg,hsl,hsc,hsv⟩:=lC hSr (j:=x.1) (u:=.string cur[x.1]) (by simp [hxl])
      subst hsg
      have hxi:(x.1:Int)<(fs.safe.length:Int):=by omega
      obtain⟨d0,d1,d2,d3,d4⟩:=dR HF.out.box
      obtain⟨e0,e1⟩:wr.cell? ⟨bx,0,none⟩=some (.int .i64 x.1)∧wr.cell? ⟨bx,1,none⟩=some (.string x.2):=by simp [World.cell?,HB.out]
      have sfr:=World.ownsRow.frozenAt (w:=wr) hSr
      have hS256:(cur[x.1]).size=256:=HC.out.size _ hxl
      have hD256:x.2.size=256:=hlz x HX.out
      obtain⟨s,hs⟩:=nM (cur[x.1])
      rw [hs] at hsv hS256
      have HSS:Hid (cur[x.1]=s):=hs
      clear hs
      go_wp2
      ·exact⟨⟨m+1,cur,by go_num,by omega,HC,HF,HFr,HB⟩,by simp [intOf];omega⟩
      ·go_region_held3 (fun X=>X.cell? ⟨β,0,none⟩=some (.slice (some ⟨sg,0,none⟩) fs.safe.length sc)∧X.cell? ⟨bx,0,none⟩=some (.int .i64 x.1)∧X.cell? ⟨bx,1,none⟩=some (.string x.2)∧X.cell? ⟨sg,x.1,none⟩=some (.string s))
        ((first|exact⟨d0,e0,e1,hsv⟩))
        (fail)
       all_goals go_wp2
       have h64:(m:Int) * 256 / 4=((64 * m:Nat):Int):=by omega
       obtain⟨f,hf64⟩:=nM (64 * m)
       have HF64:Hid (64 * m=f):=hf64
       rw [h64,hf64]
       have hb0:(0:Int)≤(f:Int):=by omega
       have hb1:(f:Int)≤(s.size:Int):=by omega
       have hb2:(f:Int)≤(f:Int)+64:=by omega
       have hb3:(f:Int)+64≤(x.2.size:Int):=by omega
       have hb4:(f:Int)+64≤(s.size:Int):=by omega
       have hb5:(0:Int)≤(f:Int)+64:=by omega
       have HS256:Hid (s.size=256):=hS256
       have HD256:Hid (x.2.size=256):=hD256
       have nsb:sg≠β:=fun e=>aV hSr HF.out.box (by decide) (by rw [e];rfl)
       have nsx:sg≠bx:=fun e=>aV hSr HB.out (by decide) (by rw [e];rfl)
       have hq1:¬ (9223372036854775807<min f s.size+(min (f+64) x.2.size-f)):=by omega
       have hq2:¬ (9223372036854775807<min f s.size+(min (f+64) x.2.size-f)+(s.size-(f+64))):=by omega
       have hfn:((f:Int)+64).toNat=f+64:=by omega
       clear hS256 hD256 hf64 h64
       refine wp_region_held_drew (S:=(fun X=>X.cell? ⟨β,0,none⟩=some (.slice (some ⟨sg,0,none⟩) fs.safe.length sc)∧X.cell? ⟨bx,0,none⟩=some (.int .i64 x.1)∧X.cell? ⟨bx,1,none⟩=some (.string x.2))) (by kernel_rfl) ⟨d0,e0,e1⟩ (fun hHeld=>?_)
       change wpAnyH _ _ _ _ _ 21 #[false,false,false,false,false,false,false,false,false,false,false,false,false,false,false,false,false,false,false,false,false] _ _
       refine fV.take [(0,60,.pointer (some ⟨β,0,none⟩)),(1,61,.pointer (some ⟨β,0,none⟩)),(2,62,.pointer (some ⟨β,0,none⟩)),(3,63,.slice (some ⟨sg,0,none⟩) fs.safe.length sc),(4,64,.pointer (some ⟨bx,0,none⟩)),(5,65,.int .i64 x.1),(6,66,.string s),(7,67,.int .i64 f),(8,68,.string (s.extract 0 f)),(9,69,.pointer (some ⟨bx,1,none⟩)),(10,70,.string x.2),(11,71,.int .i64 f),(12,72,.int .i64 (f+64)),(13,73,.string (x.2.extract f (f+64))),(14,74,.string (s.extract 0 f++x.2.extract f (f+64))),(15,75,.string s),(16,76,.int .i64 (f+64)),(17,77,.string (s.extract (f+64) s.size)),(18,78,.string (s.extract 0 f++x.2.extract f (f+64)++s.extract (f+64) s.size)),(19,79,.pointer (some ⟨sg,x.1,none⟩))] (n:=1) (by kernel_rfl) (by assumption) ?_
       iterate 20 (refine⟨_,rfl,rfl,by kernel_rfl,fun _ _ _ h=>h,.inl ⟨by rfl,fun X hX=>by(try dsimp only at hX);go_simp⟩,?_⟩;simp only [Act.put,jV,jZ,jX])
       rw [fV]
       refine wpAnyH_ready (rs:=[20]) (by kernel_rfl) (by simp) (AllReadyH.cons rfl (fun K hK=>?_) AllReadyH.nil)
       go_simp
       refine hK.out _ _ ⟨Ee nsb d0,Ee nsx e0,Ee nsx e1⟩ (fun hHeld=>?_)
       clear hK K
       refine wpAnyH_done (by kernel_rfl) ?_ _
       all_goals go_wp2
       have hto:s.extract 0 f++x.2.extract f (f+64)++s.extract (f+64) s.size=torn s x.2 m:=by rw [HS256.out,← HF64.out];exact Pp s x.2 m HS256.out HD256.out hm4
       rw [hto]
       have hst:=HF.out.stored (p:=x.1) (data:=torn s x.2 m) HC.out.len.symm
       refine⟨⟨m+1,cur.set x.1 (torn s x.2 m),by go_num,by omega,?_,hst.on (On.refl _ _).drew.drew,((HFr.out.setCell (p:=⟨sg,x.1,none⟩) (.inl (.inr (.inl rfl))) _).drew).drew,(Below.heap_setCell wr ⟨sg,x.1,none⟩ _ bx (fun e=>nsx e.symm)).trans HB.out⟩,by simp [intOf];omega⟩
       have:=HC.out.step HX.out HD256.out hxl hm4
       rw [HSS.out] at this
       exact this
     ·have hni:(keep.length:Int)≤4 * (j:Int)+(m:Int):=by omega
      go_wp2
      exact⟨⟨m+1,cur,by go_num,by omega,HC,HF,HFr,HB⟩,by simp [intOf];omega⟩
    ·obtain rfl:m=4:=by omega
     go_wp2
     exact⟨⟨j+1,cur,by go_num,by omega,HC,HF.out,HFr.out⟩,by simp [intOf];omega⟩
  ·obtain rfl:j=fs.late.length:=by omega
   have b1:=aD hf.box 1 (.slice none 0 0)
   have b2:=aD b1 2 (.int .i64 (-1))
   have b3:=aD b2 3 (.int .i64 (-1))
   have hfr:=aF hf.box
   have F:Fr (Bl.one β) wr (((wr.setCell ⟨β,1,none⟩ (.slice none 0 0)).setCell ⟨β,2,none⟩ (.int .i64 (-1))).setCell ⟨β,3,none⟩ (.int .i64 (-1))):=(((Fr.refl (Bl.one β) wr).setCell (p:=⟨β,1,none⟩) (.inl rfl) _).setCell (p:=⟨β,2,none⟩) (.inl rfl) _).setCell (p:=⟨β,3,none⟩) (.inl rfl) _
   have hne:(Value.slice sa fs.safe.length sc).ownBlock≠some β:=aV hf.safe hf.box (by decide)
   have HFF:Hid (aG (((wr.setCell ⟨β,1,none⟩ (.slice none 0 0)).setCell ⟨β,2,none⟩ (.int .i64 (-1))).setCell ⟨β,3,none⟩ (.int .i64 (-1))) β (.slice sa fs.safe.length sc) (.slice none 0 0) { fs with safe:=cur,late:=[],wait:=-1,life:=-1 }) :=
    ⟨by simpa using b3,bK hf.safe (F.on (Z:=fun k=>Value.ownBlock _=some k) (fun k hk=>⟨aX hf.safe hk,fun e=>by simp only [Bl.one] at e;subst e;exact hne hk⟩)) (fun k hk=>hk),World.ownsRow_nil _ _ _ _,hf.small,by simp⟩
   have HFr:Hid (Fr (fpF β (.slice sa fs.safe.length sc) (.slice la fs.late.length lc)) w (((wr.setCell ⟨β,1,none⟩ (.slice none 0 0)).setCell ⟨β,2,none⟩ (.int .i64 (-1))).setCell ⟨β,3,none⟩ (.int .i64 (-1)))):=hF.trans (F.mono (fun k hk=>.inl (.inl hk)))
   clear b1 b2 b3 F hne hf hF
   go_wp2
   go_end0
   exact⟨⟨_,rfl⟩,cur,HC.out,HFF.out,HFr.out⟩
