import Derived.Test.YtpifffkkgnbfpaaGreatP16
set_option linter.unusedSimpArgs false
set_option linter.unusedVariables false
set_option maxHeartbeats 8000000
namespace Go.Proofs.YtpifffkkgnbfpaaGreat.Tree
open Go.RowKit Pages
theorem qDr (β:Nat) (sv lv:Value) (fs:Fs) (n:Nat) (w:World) (h:aG w β sv lv fs) (hn:n≤9223372036854775807) :
  Calls Tryz.prog 27 #[.pointer (some ⟨β,0,none⟩),.int .i64 (n:Nat)] w fun e w'=>(∃ v,e=.returned v)∧aG w' β sv lv { fs with life:=(n:Nat) }∧Fr (Bl.one β) w w':=by
 have hb:=h.box
 obtain⟨c0,c1,c2,c3,c4⟩:=dR hb
 have hfr:=aF hb
 have b3:=aD hb 3 (.int .i64 (n:Nat))
 have F:Fr (Bl.one β) w (w.setCell ⟨β,3,none⟩ (.int .i64 (n:Nat))):=(Fr.refl (Bl.one β) w).setCell (p:=⟨β,3,none⟩) (.inl rfl) _
 have on:∀ {e:TypeId} {z m:Nat} {v:Value} {xs:List Value},w.ownsRow 0 e z v m xs→e≠73→(w.setCell ⟨β,3,none⟩ (.int .i64 (n:Nat))).ownsRow 0 e z v m xs:=fun {e z m v xs} ho he=>bK ho (F.on (Z:=fun k=>v.ownBlock=some k) (fun k hk=>⟨aX ho hk,fun e'=>by simp only [Bl.one] at e';subst e';exact aV ho hb he.symm hk⟩)) (fun k hk=>hk)
 have HF:Hid (aG (w.setCell ⟨β,3,none⟩ (.int .i64 (n:Nat))) β sv lv { fs with life:=(n:Nat) }):=⟨by simpa using b3,on h.safe (by decide),on h.late (by decide),h.small,h.few⟩
 have HFr:Hid (Fr (Bl.one β) w (w.setCell ⟨β,3,none⟩ (.int .i64 (n:Nat)))):=F
 have hmx:max (n:Int) 0=(n:Int):=by omega
 clear b3 F on h hb
 go_enter Tryz.func27,Tryz.ntmps27
 go_wp2
 go_end0
 exact⟨⟨_,rfl⟩,HF.out,HFr.out⟩
