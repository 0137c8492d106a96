/-
  Joined: NodeL.
-/
import Derived.Test.YtfnhmpcpeahfkaaGreatU22
set_option linter.unusedSimpArgs false
set_option linter.unusedVariables false
set_option maxRecDepth 100000
set_option maxHeartbeats 8000000
namespace Go.Proofs.YtfnhmpcpeahfkaaGreat.Tree
open Go.RowKit Pages
theorem nT (β:Nat) (sv lv:Value) (fs:Fs) (root:Int) (ca:Option Addr) (cn cc:Nat) (p:Nat) (s:Sp) (g:Pg) (w:World) (h:aH w β sv lv fs) (hl:(fs.life==0)=false) (hg:fs.has p g) (kb2:(g.kind==2)=false) (kb3:(g.kind==3)=true) (he0:0<g.ents.length) (c1:s.has (g.ents[0]).key=true) (c2:s.has (g.ents[g.ents.length-1]).key=true) (hkn:g.keys.length≤1000) (hen:g.ents.length≤1000) :
  Calls Tryz.prog 117 #[.agg #[.pointer (some ⟨β,0,none⟩),.int .i64 root,.slice ca cn cc],.int .i64 p,.agg #[.string s.lo,.string s.hi]] w fun e w'=>∃ v,e=.returned v∧qPl w' (New w w') g v∧Below w.heap.size w w':=by
 obtain⟨W1,hW1⟩:=nM (((w.alloc (.cells #[.pointer (some ⟨β,0,none⟩),.int .i64 root,.slice ca cn cc] 95)).alloc (.cells #[.string s.lo,.string s.hi] 135)).alloc mY)
 have B1:Below w.heap.size w W1:=hW1▸(((Below.refl _ _).alloc (Nat.le_refl _) _).alloc (by simp) _).alloc (by simp;omega) _
 have h1:=h.on (On.of_below B1 h.lies)
 have t1:W1.heap[w.heap.size]?=some (.cells #[.pointer (some ⟨β,0,none⟩),.int .i64 root,.slice ca cn cc] 95):=hW1▸aF _ (aF _ (aB w _))
 have s1:W1.heap[w.heap.size+1]?=some (.cells #[.string s.lo,.string s.hi] 135):=by
  rw [← hW1];refine aF _ ?_;have:=aB (w.alloc (.cells #[.pointer (some ⟨β,0,none⟩),.int .i64 root,.slice ca cn cc] 95)) (.cells #[.string s.lo,.string s.hi] 135);simpa using this
 have r1:W1.heap[w.heap.size+1+1]?=some mY:=by
  rw [← hW1];have:=aB ((w.alloc (.cells #[.pointer (some ⟨β,0,none⟩),.int .i64 root,.slice ca cn cc] 95)).alloc (.cells #[.string s.lo,.string s.hi] 135)) mY;simpa using this
 have lβ1:w.heap.size+1+1<W1.heap.size:=(Array.getElem?_eq_some_iff.1 r1).1
 have tc:W1.cell? ⟨w.heap.size,0,none⟩=some (.pointer (some ⟨β,0,none⟩))∧W1.cell? ⟨w.heap.size,1,none⟩=some (.int .i64 root)∧W1.cell? ⟨w.heap.size,2,none⟩=some (.slice ca cn cc):=by simp [World.cell?,t1]
 obtain⟨tc0,tc1,tc2⟩:=tc
 have hLd:=uO β sv lv fs root ca cn cc p g W1 h1 hl hg
 have hH0:=fun W=>yV s (g.ents[0]).key W
 have hHl:=fun W=>yV s (g.ents[g.ents.length-1]).key W
 rw [c1] at hH0
 rw [c2] at hHl
 go_enter Tryz.func117,Tryz.ntmps117
 go_wp2_with (go_at_call 112;refine hLd.mono ?_;rintro e W2 ⟨v,rfl,⟨ka,ia,ea,kc,ic,ec,rfl,q1,q2,q3,qq⟩,hb2⟩;obtain⟨W3,hW3⟩:=nM (W2.alloc (pgO g ka ia ea kc ic ec));have x3:W3.heap[W2.heap.size]?=some (pgO g ka ia ea kc ic ec):=hW3▸aB W2 _;obtain⟨m0,m1,m2,m3,m4,m5,m6,m7⟩:=bH x3;have b3:Below W1.heap.size W1 W3:=hb2.trans (hW3▸(Below.refl _ _).alloc hb2.size _);have r3:=(b3.block _ lβ1).trans r1;have s3:=(b3.block _ (Nat.lt_of_succ_lt lβ1)).trans s1;obtain⟨u0,u1⟩:=bQ s3;have sz2:=hb2.size)
 have o3:On (New W1 W2) W2 W3:=hW3▸(On.refl _ W2).alloc (fun k hk=>hk.2) _
 obtain⟨eb,eo,hea,heb,ec0,_⟩:=(q3.on o3).ent he0
 have hea2:=hea
 subst hea
 have hwr:IntKind.i64.wrap ((g.ents.length:Int)-1)=((g.ents.length-1:Nat):Int):=by rw [show (g.ents.length:Int)-1=((g.ents.length-1:Nat):Int) by omega];exact wrap_small (by omega)
 have hin:0≤((g.ents.length-1:Nat):Int)∧((g.ents.length-1:Nat):Int)<(g.ents.length:Int):=by omega
 have hkc:=qq.2.2
 simp only [Nat.zero_mul,Nat.add_zero] at ec0
 have hk0i:(0:Int)<(g.ents.length:Int):=by omega
 go_region_law (first
  | (go_simp;go_at_call 106;refine(hH0 _).mono ?_;clear hH0;rintro e w3 ⟨rfl,hb3⟩;have x4:=(hb3.block _ (Array.getElem?_eq_some_iff.1 x3).1).trans x3;have r4:=(hb3.block _ (Array.getElem?_eq_some_iff.1 r3).1).trans r3;have s4:=(hb3.block _ (Array.getElem?_eq_some_iff.1 s3).1).trans s3;obtain⟨i0,i1,i2,i3,i4,i5,i6,i7⟩:=bH x4;obtain⟨v0,v1⟩:=bQ s4;have F3':Fr Bl.none W3 w3:=(Fr.refl _ W3).drew.trans (Fr.of_below hb3);obtain⟨eb',eo',hea',heb',ecl,_⟩:=(q3.on (o3.trans (F3'.on (fun k hk=>⟨Nat.lt_of_lt_of_le hk.2 o3.size,fun h=>h⟩)))).ent (j:=g.ents.length-1) (by omega);cases hea')
  | (go_simp;go_at_call 106;refine(hHl _).mono ?_;rintro e w4 ⟨rfl,hb4⟩;have x5':=(hb4.block _ (Array.getElem?_eq_some_iff.1 x4).1).trans x4;have R:=(hb4.block _ (Array.getElem?_eq_some_iff.1 r4).1).trans r4;obtain⟨j0,j1,j2,j3,j4,j5,j6,j7⟩:=bH x5';obtain⟨n0,n1,n2,n3,n4,n5,n6,n7⟩:=bH R;have nfr:=aJ R;have F4:Fr Bl.none W3 w4:=F3'.trans (Fr.of_below hb4)))
 all_goals go_wp2
 all_goals
  have x5:=qAl R (.int .i64 g.kind) (.int .i64 g.ver) (.int .i64 g.root) (.int .i64 g.next) (.slice ka g.keys.length kc) (.slice ia g.kids.length ic) (.slice (some ⟨eb,eo,none⟩) g.ents.length ec) (.string g.data)
  have f5:=qGv w4 (w.heap.size+1+1) (.int .i64 g.kind) (.int .i64 g.ver) (.int .i64 g.root) (.int .i64 g.next) (.slice ka g.keys.length kc) (.slice ia g.kids.length ic) (.slice (some ⟨eb,eo,none⟩) g.ents.length ec) (.string g.data)
  obtain⟨y0,y1,y2,y3,y4,y5,y6,y7⟩:=bH x5
  unfold yH at y0 y1 y2 y3 y4 y5 y6 y7
  have F3:Fr Bl.none W2 w4:=(hW3▸(Fr.refl _ W2).alloc _:Fr Bl.none W2 W3).trans F4
  have F5:Fr (Bl.one (w.heap.size+1+1)) W2 (yH w4 (w.heap.size+1+1) (.int .i64 g.kind) (.int .i64 g.ver) (.int .i64 g.root) (.int .i64 g.next) (.slice ka g.keys.length kc) (.slice ia g.kids.length ic) (.slice (some ⟨eb,eo,none⟩) g.ents.length ec) (.string g.data)):=(F3.mono (fun k hk=>hk.elim)).trans f5
  have o5:=F5.on (Z:=New W1 W2) (fun k hk=>⟨hk.2,fun e=>by simp only [Bl.one] at e;have:=hk.1;omega⟩)
  have hN:∀ k,New W1 W2 k→New w (yH w4 (w.heap.size+1+1) (.int .i64 g.kind) (.int .i64 g.ver) (.int .i64 g.root) (.int .i64 g.next) (.slice ka g.keys.length kc) (.slice ia g.kids.length ic) (.slice (some ⟨eb,eo,none⟩) g.ents.length ec) (.string g.data)) k:=fun k hk=>⟨by have:=hk.1;have:=B1.size;omega,Nat.lt_of_lt_of_le hk.2 F5.size⟩
  refine bodyPost_ret (v:=.agg #[.int .i64 g.kind,.int .i64 g.ver,.int .i64 g.root,.int .i64 g.next,.slice ka g.keys.length kc,.slice ia g.kids.length ic,.slice (some ⟨eb,eo,none⟩) g.ents.length ec,.string g.data]) ?_ rfl ⟨_,rfl,⟨ka,ia,(some ⟨eb,eo,none⟩),kc,ic,ec,rfl,(q1.on o5).mono hN,(q2.on o5).mono hN,(q3.on o5).mono hN,qq⟩,?_⟩
  ·simp [results,Tryz.results117,go_sem,y0,y1,y2,y3,y4,y5,y6,y7]
  ·exact(B1.trans (hb2.mono (by omega))).trans (F5.below (by omega) (fun k hk=>by simp only [Bl.one] at hk;omega))
end Go.Proofs.YtfnhmpcpeahfkaaGreat.Tree
