import Derived.Test.YtpifffkkgnbfpaaGreatP34
import Derived.Test.YtpifffkkgnbfpaaGreatP23
set_option linter.unusedSimpArgs false
set_option linter.unusedVariables false
set_option maxRecDepth 100000
set_option maxHeartbeats 8000000
namespace Go.Proofs.YtpifffkkgnbfpaaGreat.Tree
open Go.RowKit Pages
attribute [local go_sem] Oper.semAt_some
theorem qBu {F:Fence} {n:Nat} {P:Program} {md:Region.Mode} {ops:Array Oper} {Q:Exit→Act→World→Prop} {fuel fuel':Nat} {listed listed':Array Bool} {a a':Act} {w:World} {Z:World→Prop} (h:∀ X,Z X→wpAnyIn F n P md ops Q fuel' listed' a' X) (hm:(∀ X,Z X→wpAnyIn F n P md ops Q fuel' listed' a' X)→wpAnyIn F n P md ops Q fuel listed a w):wpAnyIn F n P md ops Q fuel listed a w:=hm h
def tH (F:Fence) (n:Nat) (P:Program) (md:Region.Mode) (ops:Array Oper) (Q:Exit→Act→World→Prop) (fuel:Nat) (listed:Array Bool) (a:Act) (w:World) (i:Nat) (o:Oper):Prop:=∀ K':Act→World→Prop,(∀ a w,wpAnyIn F n P md ops Q fuel (listed.setIfInBounds i true) a w→K' a w)→if Region.wanted o (yielded ops a.tmps)=true then Oper.wpIn F n P o a w K' Q else (∀ f,o.about P w a.eval=some f→F.fn f)∧K' (a.put o.dst undef) w
section
variable {F:Fence} {n:Nat} {P:Program} {md:Region.Mode} {ops:Array Oper} {Q:Exit→Act→World→Prop} {fuel:Nat} {listed:Array Bool} {a:Act} {w:World} {o p q r:Oper}
theorem rd1 (i:Nat) (hr:Region.ready md ops listed=[i]) (ho:ops[i]?=some o) (h:tH F n P md ops Q fuel listed a w i o):wpAnyIn F n P md ops Q (fuel+1) listed a w:=wpAnyIn_ready hr (by simp) (.cons ho h .nil)
theorem rd2 (i j:Nat) (hr:Region.ready md ops listed=[i,j]) (ho:ops[i]?=some o) (hp:ops[j]?=some p) (h:tH F n P md ops Q fuel listed a w i o) (h':tH F n P md ops Q fuel listed a w j p):wpAnyIn F n P md ops Q (fuel+1) listed a w:=wpAnyIn_ready hr (by simp) (.cons ho h (.cons hp h' .nil))
theorem rd3 (i j k:Nat) (hr:Region.ready md ops listed=[i,j,k]) (ho:ops[i]?=some o) (hp:ops[j]?=some p) (hq:ops[k]?=some q) (h:tH F n P md ops Q fuel listed a w i o) (h':tH F n P md ops Q fuel listed a w j p) (h'':tH F n P md ops Q fuel listed a w k q):wpAnyIn F n P md ops Q (fuel+1) listed a w:=wpAnyIn_ready hr (by simp) (.cons ho h (.cons hp h' (.cons hq h'' .nil)))
theorem rd4 (i j k l:Nat) (hr:Region.ready md ops listed=[i,j,k,l]) (ho:ops[i]?=some o) (hp:ops[j]?=some p) (hq:ops[k]?=some q) (hs:ops[l]?=some r) (h:tH F n P md ops Q fuel listed a w i o) (h':tH F n P md ops Q fuel listed a w j p) (h'':tH F n P md ops Q fuel listed a w k q) (h3:tH F n P md ops Q fuel listed a w l r):wpAnyIn F n P md ops Q (fuel+1) listed a w:=wpAnyIn_ready hr (by simp) (.cons ho h (.cons hp h' (.cons hq h'' (.cons hs h3 .nil))))
end
def qEl (x:En) (args:Array Value) (S:Bl) (w:World):Prop:=args=#[.string x.e.key,.string ⟨x.value.toArray⟩]
theorem Qg (β:Nat) (sv lv:Value) (fs:Fs) (hl:(fs.life==0)=false) (root:Nat) (ca:Option Addr) (cc:Nat) (cs:List Ch) (q:Sp) (o:Option (Nat×T)) (hro:bJ fs root o) (S:Bl) (bt b1 b2:Nat) (Rd:Bl) (w:World)
  (xt:w.heap[bt]?=some (.cells #[.pointer (some ⟨β,0,none⟩),.int .i64 root,.slice ca cs.length cc] 95)) (x1:w.heap[b1]?=some (.cells #[.string q.lo] 9)) (x2:w.heap[b2]?=some (.cells #[.string q.hi] 9))
  (hf:aG w β sv lv fs) (hR:aH w S ca (cs.flatMap Ch.cells)) (hS:∀ b,S b→b<w.heap.size) (hr:cI cs) (hn:cs.length≤1000000) (hc:cs.length≤cc) (hca:(ca=none∧cc=0)∨∃ b off,ca=some ⟨b,off,none⟩)
  (hgood:∀ x∈bD (cP q o) (eH cs q),x.good fs) (rt:Rd bt) (r1:Rd b1) (r2:Rd b2) (rf:∀ k,fpF β sv lv k→Rd k) (rS:∀ k,S k→Rd k) :
  oJ Tryz.prog 109 #[.pointer (some ⟨bt,0,none⟩),.pointer (some ⟨b1,0,none⟩),.pointer (some ⟨b2,0,none⟩)] qEl (bD (cP q o) (eH cs q)) Rd w:=by
 intro l J Jx Y W hon hRd sJ lJ sJx lJx hY h0
 refine callsIn_of_wp_marks Tryz.func109 rfl trivial ?_ rfl
 simp only [Tryz.ntmps109,jA,jB,jN,Nat.reduceAdd,Nat.reduceSub,jR,jO,jP,jT,jE,jF]
 have lY:=lJ [] Y W h0
 obtain⟨W1,hW1⟩:=nM (W.alloc (.cells #[.func (.yield l) #[] #[]] 113))
 have f1:Fr Bl.none W W1:=hW1▸(Fr.refl _ W).alloc _
 have y1:W1.heap[W.heap.size]?=some (.cells #[.func (.yield l) #[] #[]] 113):=hW1▸aA W _
 have o1:On Rd w W1:=hon.trans (f1.on (fun k hk=>⟨(hRd k hk).2,fun h=>h⟩))
 obtain⟨a0,a1,a2⟩:=eU (o1.heap xt rt)
 have c1:W1.cell? ⟨b1,0,none⟩=some (.string q.lo):=by have:=o1.heap x1 r1;simp [World.cell?,this]
 have c2:W1.cell? ⟨b2,0,none⟩=some (.string q.hi):=by have:=o1.heap x2 r2;simp [World.cell?,this]
 have hf1:=hf.on (o1.mono rf)
 have hS1:∀ b,S b→b<W1.heap.size:=fun b hb=>jY (hRd b (rS b hb)).2 f1.size
 have hEc:=vW β sv lv fs hl root ca cc cs q o hro S W1 hf1 (hR.on (o1.mono rS)) hS1 hr hn hc hca
 obtain⟨xs,hxs⟩:=nM (bD (cP q o) (eH cs q))
 rw [hxs] at hEc hgood hY ⊢
 clear hxs
 gi_wp2_with (refine⟨trivial,rfl,?_⟩;gi_at_call 110;refine(callsIn_wide.2 hEc).mono ?_;clear hEc;rintro e W₆ ⟨lb,rfl,hit,hb₆⟩)
 have f6:Fr Bl.none W W₆:=f1.trans (Fr.of_below hb₆)
 have z1:W.heap.size<W1.heap.size:=(gL y1)
 have z6:=hb₆.size
 have o6:On Rd w W₆:=hon.trans (f6.on (fun k hk=>⟨(hRd k hk).2,fun h=>h⟩))
 have hf6:=hf.on (o6.mono rf)
 have y6:=(hb₆.block _ z1).trans y1
 have hJ6:=sJ _ _ _ _ h0 (f6.on (fun k hk=>⟨lY k hk,fun h=>h⟩))
 have F6:Fr Y W W₆:=f6.mono (fun _ h=>h.elim)
 let Ix:Code→List En→Bl→World→Prop:=fun c pre Y W=>c=.ret∧Jx pre Y W
 refine fY (P:=Tryz.prog) (Has:=pN) (Rd:=RdE S β sv lv W1 W₆) rfl (enters_of Tryz.func148 (by kernel_rfl) rfl) hit (fun x args S W hH=>by rw [show args=_ from hH];rfl) J Ix sJ ?_ lJ ?_ Y hJ6 ?_ ?_ ?_ ?_
 ·rintro c pre Y W W' ⟨rfl,h3⟩ ho
  exact⟨rfl,sJx _ _ _ _ h3 ho⟩
 ·rintro c pre Y W ⟨rfl,h3⟩
  exact lJx _ _ _ h3
 ·rintro k (hk|hk|⟨hk,hk'⟩)
  ·exact⟨(hRd k (rS k hk)).1,by have:=hS1 k hk;omega⟩
  ·exact⟨(hRd k (rf k hk)).1,hf6.lies k hk⟩
  ·exact⟨fun h=>by have:=lY _ h;omega,hk'⟩
 ·rintro l2 pre x rest args S2 Y2 Wd hx hJd hH hS2 hFd hGd hl20 hl21 hl22 ⟨r2',hr2'⟩
  have hH':args=#[.agg #[.string x.e.key,.string x.e.val,.int .i64 x.e.size,.int .i64 x.e.over]]:=hH
  subst hH'
  have hxg:x.good fs:=hgood x (by rw [hx];simp)
  have zd:W₆.heap.size≤Wd.heap.size:=hFd.size
  have yd:=hFd.heap y6 (fun h=>by have:=lY _ h;omega)
  have od:On Rd w Wd:=o6.trans (hFd.on (fun k hk=>⟨by have:=(hRd k hk).2;omega,(hRd k hk).1⟩))
  have Fd:Fr Y W Wd:=F6.trans hFd
  have Gd:aJ W Y Y2:=(aJ.refl W Y).trans F6.size hGd
  have lY2:=lJ _ _ _ hJd
  have HX:Hid (xs=pre++x :: rest):=hx
  clear hx
  unfold iZ
  gi_wp2
  refine⟨(Fr.refl _ Wd).alloc _,?_⟩
  intro We hTe
  have xe:=hTe.heap (k:=Wd.heap.size) (aA Wd (.cells #[.string x.e.key,.string x.e.val,.int .i64 x.e.size,.int .i64 x.e.over] 108)) (Nat.ne_of_gt hl21)
  have aE:Fr Bl.none Wd (Wd.alloc (.cells #[.string x.e.key,.string x.e.val,.int .i64 x.e.size,.int .i64 x.e.over] 108)):=(Fr.refl _ Wd).alloc _
  have fE:Fr (Bl.one l2) Wd We:=(aE.mono (fun _ h=>h.elim)).trans hTe.fr
  have yE:=fE.heap yd (oN (by omega))
  have hJe:J pre Y2 We:=sJ _ _ _ _ hJd (fE.on (fun k hk=>⟨lY2 k hk,fun h=>by simp only [Bl.one] at h;subst h;exact hl22 hk⟩))
  have Fe:Fr Y W We:=Fd.grow fE (fun k hk=>.inr (by simp only [Bl.one] at hk;omega))
  have oE:On Rd w We:=od.trans (fE.on (fun k hk=>⟨by have:=(hRd k hk).2;omega,fun h=>by simp only [Bl.one] at h;have:=(hRd k hk).2;omega⟩))
  have zE:Wd.heap.size<We.heap.size:=(gL xe)
  have tE:=oE.heap xt rt
  have hfE:=hf.on (oE.mono rf)
  have hVa:=Bd β sv lv fs hl root ca cs.length cc x We.drew (hfE.on (vV (Below.drew (Below.refl _ We)) hfE.lies)) (An hxg).1 (An hxg).2
  clear a0 a1 a2 c1 c2
  have HA:Hid (∀ X,Below We.drew.heap.size We.drew X→X.cell? ⟨bt,0,none⟩=some (.pointer (some ⟨β,0,none⟩))∧X.cell? ⟨bt,1,none⟩=some (.int .i64 root)∧X.cell? ⟨bt,2,none⟩=some (.slice ca cs.length cc)):=fun X hX=>eU ((hX.block _ (gL tE)).trans tE)
  have HE:Hid (∀ X,Below We.drew.heap.size We.drew X→X.cell? ⟨Wd.heap.size,0,none⟩=some (.string x.e.key)∧X.cell? ⟨Wd.heap.size,1,none⟩=some (.string x.e.val)∧X.cell? ⟨Wd.heap.size,2,none⟩=some (.int .i64 x.e.size)∧X.cell? ⟨Wd.heap.size,3,none⟩=some (.int .i64 x.e.over)):=fun X hX=>iE ((hX.block _ (gL xe)).trans xe)
  have HY:Hid (∀ X,Below We.drew.heap.size We.drew X→X.cell? ⟨W.heap.size,0,none⟩=some (.func (.yield l) #[] #[])):=fun X hX=>by
   have:=(hX.block _ (gL yE)).trans yE
   simp [World.cell?,this]
  gi_wp2
  refine uK (by kernel_rfl) (by kernel_rfl) ?_
  refine qBu (Z:=fun X=>Below We.drew.heap.size We.drew X) (fuel':=2) (listed':=#[true,true,true,true,true,true,false,false]) (a':={ tmps:=#[.func (.yield l) #[] #[],.pointer (some ⟨bt,0,none⟩),.pointer (some ⟨b1,0,none⟩),.pointer (some ⟨b2,0,none⟩),.pointer (some ⟨W.heap.size,0,none⟩),.pointer (some ⟨Wd.heap.size,0,none⟩),.agg #[.pointer (some ⟨β,0,none⟩),.int .i64 root,.slice ca cs.length cc],.string q.lo,.string q.hi,.func (.func 148) #[] lb,.agg #[.string x.e.key,.string x.e.val,.int .i64 x.e.size,.int .i64 x.e.over],.func (.yield l) #[] #[],.pointer (some ⟨Wd.heap.size,0,none⟩),.string x.e.key,.agg #[.pointer (some ⟨β,0,none⟩),.int .i64 root,.slice ca cs.length cc],.agg #[.string x.e.key,.string x.e.val,.int .i64 x.e.size,.int .i64 x.e.over],.string ⟨x.value.toArray⟩,undef,undef],defers:=[] }) ?_ (fun hEnd=>?_)
  ·intro X4 hX4
   have y0:=HY.out X4 hX4
   have fX:Fr Bl.none We X4:=(Fr.refl _ We).drew.trans (Fr.of_below hX4)
   have hJ4:=sJ _ _ _ _ hJe (fX.on (fun k hk=>⟨jY (lY2 k hk) fE.size,fun h=>h⟩))
   obtain⟨fn,tmps,assign,body,hy,hRy⟩:=hY _ x _ #[.string x.e.key,.string ⟨x.value.toArray⟩] Bl.none Y2 X4 HX.out hJ4 rfl (fun _ h=>h.elim) (Fe.trans (fX.mono (fun _ h=>h.elim))) Gd
   refine wpAnyIn_ready (rs:=[6]) (by kernel_rfl) (by simp) ?_
   refine AllReadyIn.cons rfl (fun K hK=>?_) AllReadyIn.nil
   go_simp
   refine⟨rfl,(dS hRy).mono ?_⟩
   clear hy hRy
   have FX:Fr Y2 We X4:=fX.mono (fun _ h=>h.elim)
   rintro e Wf (⟨rfl,Y5,hJ5,hF5,hG5⟩|⟨rfl,Y5,hJ5,hF5,hG5⟩)
   ·refine hK _ _ ?_
    clear hK K
    refine wpAnyIn_ready (rs:=[7]) (by kernel_rfl) (by simp) ?_
    refine AllReadyIn.cons rfl (fun K hK=>?_) AllReadyIn.nil
    go_simp
    refine hK _ _ ?_
    clear hK K
    refine wpAnyIn_done (by kernel_rfl) ?_ _
    gi_wp2
    exact⟨Y5,hJ5,FX.grow hF5 (aJ.refl _ _),(aJ.refl We Y2).trans FX.size hG5⟩
   ·refine hK _ _ ?_
    clear hK K
    refine wpAnyIn_ready (rs:=[7]) (by kernel_rfl) (by simp) ?_
    refine AllReadyIn.cons rfl (fun K hK=>?_) AllReadyIn.nil
    go_simp
    refine hK _ _ ?_
    clear hK K
    refine wpAnyIn_done (by kernel_rfl) ?_ _
    gi_wp2
    exact⟨Y5,⟨rfl,hJ5⟩,FX.grow hF5 (aJ.refl _ _),(aJ.refl We Y2).trans FX.size hG5⟩
  ·obtain⟨a0,a1,a2⟩:=HA.out We.drew (Below.refl _ _)
   obtain⟨k0,k1,k2,k3⟩:=HE.out We.drew (Below.refl _ _)
   have y0:=HY.out We.drew (Below.refl _ _)
   refine wpAnyIn_take (i:=1) (v:=.pointer (some ⟨Wd.heap.size,0,none⟩)) rfl rfl (by kernel_rfl) (by kernel_rfl) (by kernel_rfl) (fun _ _ _ h=>h) ⟨Or.inl ⟨by rfl,fun w=>by go_simp⟩,fun _=>rfl⟩ ?_
   have hVb:=hVa.mono (fun e X4 h=>(⟨h.1,h.2,HY.out X4 h.2,(HE.out X4 h.2).1⟩:_∧_∧_∧_))
   have hV:=(callsIn_wide (n:=0)).2 hVb
   clear hVb
   refine rd4 0 2 3 4 (by kernel_rfl) rfl rfl rfl rfl (fun K hK=>?_) (fun K hK=>?_) (fun K hK=>?_) (fun K hK=>?_)
   ·go_simp
    refine hK _ _ ?_;clear hK K
    refine rd3 2 3 4 (by kernel_rfl) rfl rfl rfl (fun K hK=>?_) (fun K hK=>?_) (fun K hK=>?_)
    ·go_simp
     refine hK _ _ ?_;clear hK K
     refine rd2 3 4 (by kernel_rfl) rfl rfl (fun K hK=>?_) (fun K hK=>?_)
     ·go_simp
      refine hK _ _ ?_;clear hK K
      refine rd1 4 (by kernel_rfl) rfl (fun K hK=>?_)
      ·go_simp
       refine hK _ _ ?_;clear hK K
       refine rd1 5 (by kernel_rfl) rfl (fun K hK=>?_)
       ·go_simp
        gi_wp2_with (refine⟨trivial,rfl,?_⟩;gi_at_call 57;refine hV.mono ?_;rintro e X4 ⟨rfl,hX4,y0,k0⟩)
        exact hEnd _ hX4
     ·go_simp
      refine hK _ _ ?_;clear hK K
      refine rd1 3 (by kernel_rfl) rfl (fun K hK=>?_)
      ·go_simp
       refine hK _ _ ?_;clear hK K
       refine rd1 5 (by kernel_rfl) rfl (fun K hK=>?_)
       ·go_simp
        gi_wp2_with (refine⟨trivial,rfl,?_⟩;gi_at_call 57;refine hV.mono ?_;rintro e X4 ⟨rfl,hX4,y0,k0⟩)
        exact hEnd _ hX4
    ·go_simp
     refine hK _ _ ?_;clear hK K
     refine rd2 2 4 (by kernel_rfl) rfl rfl (fun K hK=>?_) (fun K hK=>?_)
     ·go_simp
      refine hK _ _ ?_;clear hK K
      refine rd1 4 (by kernel_rfl) rfl (fun K hK=>?_)
      ·go_simp
       refine hK _ _ ?_;clear hK K
       refine rd1 5 (by kernel_rfl) rfl (fun K hK=>?_)
       ·go_simp
        gi_wp2_with (refine⟨trivial,rfl,?_⟩;gi_at_call 57;refine hV.mono ?_;rintro e X4 ⟨rfl,hX4,y0,k0⟩)
        exact hEnd _ hX4
     ·go_simp
      refine hK _ _ ?_;clear hK K
      refine rd2 2 5 (by kernel_rfl) rfl rfl (fun K hK=>?_) (fun K hK=>?_)
      ·go_simp
       refine hK _ _ ?_;clear hK K
       refine rd1 5 (by kernel_rfl) rfl (fun K hK=>?_)
       ·go_simp
        gi_wp2_with (refine⟨trivial,rfl,?_⟩;gi_at_call 57;refine hV.mono ?_;rintro e X4 ⟨rfl,hX4,y0,k0⟩)
        exact hEnd _ hX4
      ·go_simp
       gi_wp2_with (refine⟨trivial,rfl,?_⟩;gi_at_call 57;refine hV.mono ?_;rintro e X4 ⟨rfl,hX4,y0,k0⟩)
       refine rd1 2 (by kernel_rfl) rfl (fun K hK=>?_)
       ·go_simp
        refine hK _ _ ?_;clear hK K
        exact hEnd _ hX4
    ·go_simp
     refine hK _ _ ?_;clear hK K
     refine rd2 2 3 (by kernel_rfl) rfl rfl (fun K hK=>?_) (fun K hK=>?_)
     ·go_simp
      refine hK _ _ ?_;clear hK K
      refine rd1 3 (by kernel_rfl) rfl (fun K hK=>?_)
      ·go_simp
       refine hK _ _ ?_;clear hK K
       refine rd1 5 (by kernel_rfl) rfl (fun K hK=>?_)
       ·go_simp
        gi_wp2_with (refine⟨trivial,rfl,?_⟩;gi_at_call 57;refine hV.mono ?_;rintro e X4 ⟨rfl,hX4,y0,k0⟩)
        exact hEnd _ hX4
     ·go_simp
      refine hK _ _ ?_;clear hK K
      refine rd2 2 5 (by kernel_rfl) rfl rfl (fun K hK=>?_) (fun K hK=>?_)
      ·go_simp
       refine hK _ _ ?_;clear hK K
       refine rd1 5 (by kernel_rfl) rfl (fun K hK=>?_)
       ·go_simp
        gi_wp2_with (refine⟨trivial,rfl,?_⟩;gi_at_call 57;refine hV.mono ?_;rintro e X4 ⟨rfl,hX4,y0,k0⟩)
        exact hEnd _ hX4
      ·go_simp
       gi_wp2_with (refine⟨trivial,rfl,?_⟩;gi_at_call 57;refine hV.mono ?_;rintro e X4 ⟨rfl,hX4,y0,k0⟩)
       refine rd1 2 (by kernel_rfl) rfl (fun K hK=>?_)
       ·go_simp
        refine hK _ _ ?_;clear hK K
        exact hEnd _ hX4
   ·go_simp
    refine hK _ _ ?_;clear hK K
    refine rd3 0 3 4 (by kernel_rfl) rfl rfl rfl (fun K hK=>?_) (fun K hK=>?_) (fun K hK=>?_)
    ·go_simp
     refine hK _ _ ?_;clear hK K
     refine rd2 3 4 (by kernel_rfl) rfl rfl (fun K hK=>?_) (fun K hK=>?_)
     ·go_simp
      refine hK _ _ ?_;clear hK K
      refine rd1 4 (by kernel_rfl) rfl (fun K hK=>?_)
      ·go_simp
       refine hK _ _ ?_;clear hK K
       refine rd1 5 (by kernel_rfl) rfl (fun K hK=>?_)
       ·go_simp
        gi_wp2_with (refine⟨trivial,rfl,?_⟩;gi_at_call 57;refine hV.mono ?_;rintro e X4 ⟨rfl,hX4,y0,k0⟩)
        exact hEnd _ hX4
     ·go_simp
      refine hK _ _ ?_;clear hK K
      refine rd1 3 (by kernel_rfl) rfl (fun K hK=>?_)
      ·go_simp
       refine hK _ _ ?_;clear hK K
       refine rd1 5 (by kernel_rfl) rfl (fun K hK=>?_)
       ·go_simp
        gi_wp2_with (refine⟨trivial,rfl,?_⟩;gi_at_call 57;refine hV.mono ?_;rintro e X4 ⟨rfl,hX4,y0,k0⟩)
        exact hEnd _ hX4
    ·go_simp
     refine hK _ _ ?_;clear hK K
     refine rd2 0 4 (by kernel_rfl) rfl rfl (fun K hK=>?_) (fun K hK=>?_)
     ·go_simp
      refine hK _ _ ?_;clear hK K
      refine rd1 4 (by kernel_rfl) rfl (fun K hK=>?_)
      ·go_simp
       refine hK _ _ ?_;clear hK K
       refine rd1 5 (by kernel_rfl) rfl (fun K hK=>?_)
       ·go_simp
        gi_wp2_with (refine⟨trivial,rfl,?_⟩;gi_at_call 57;refine hV.mono ?_;rintro e X4 ⟨rfl,hX4,y0,k0⟩)
        exact hEnd _ hX4
     ·go_simp
      refine hK _ _ ?_;clear hK K
      refine rd2 0 5 (by kernel_rfl) rfl rfl (fun K hK=>?_) (fun K hK=>?_)
      ·go_simp
       refine hK _ _ ?_;clear hK K
       refine rd1 5 (by kernel_rfl) rfl (fun K hK=>?_)
       ·go_simp
        gi_wp2_with (refine⟨trivial,rfl,?_⟩;gi_at_call 57;refine hV.mono ?_;rintro e X4 ⟨rfl,hX4,y0,k0⟩)
        exact hEnd _ hX4
      ·go_simp
       gi_wp2_with (refine⟨trivial,rfl,?_⟩;gi_at_call 57;refine hV.mono ?_;rintro e X4 ⟨rfl,hX4,y0,k0⟩)
       refine rd1 0 (by kernel_rfl) rfl (fun K hK=>?_)
       ·go_simp
        refine hK _ _ ?_;clear hK K
        exact hEnd _ hX4
    ·go_simp
     refine hK _ _ ?_;clear hK K
     refine rd2 0 3 (by kernel_rfl) rfl rfl (fun K hK=>?_) (fun K hK=>?_)
     ·go_simp
      refine hK _ _ ?_;clear hK K
      refine rd1 3 (by kernel_rfl) rfl (fun K hK=>?_)
      ·go_simp
       refine hK _ _ ?_;clear hK K
       refine rd1 5 (by kernel_rfl) rfl (fun K hK=>?_)
       ·go_simp
        gi_wp2_with (refine⟨trivial,rfl,?_⟩;gi_at_call 57;refine hV.mono ?_;rintro e X4 ⟨rfl,hX4,y0,k0⟩)
        exact hEnd _ hX4
     ·go_simp
      refine hK _ _ ?_;clear hK K
      refine rd2 0 5 (by kernel_rfl) rfl rfl (fun K hK=>?_) (fun K hK=>?_)
      ·go_simp
       refine hK _ _ ?_;clear hK K
       refine rd1 5 (by kernel_rfl) rfl (fun K hK=>?_)
       ·go_simp
        gi_wp2_with (refine⟨trivial,rfl,?_⟩;gi_at_call 57;refine hV.mono ?_;rintro e X4 ⟨rfl,hX4,y0,k0⟩)
        exact hEnd _ hX4
      ·go_simp
       gi_wp2_with (refine⟨trivial,rfl,?_⟩;gi_at_call 57;refine hV.mono ?_;rintro e X4 ⟨rfl,hX4,y0,k0⟩)
       refine rd1 0 (by kernel_rfl) rfl (fun K hK=>?_)
       ·go_simp
        refine hK _ _ ?_;clear hK K
        exact hEnd _ hX4
   ·go_simp
    refine hK _ _ ?_;clear hK K
    refine rd3 0 2 4 (by kernel_rfl) rfl rfl rfl (fun K hK=>?_) (fun K hK=>?_) (fun K hK=>?_)
    ·go_simp
     refine hK _ _ ?_;clear hK K
     refine rd2 2 4 (by kernel_rfl) rfl rfl (fun K hK=>?_) (fun K hK=>?_)
     ·go_simp
      refine hK _ _ ?_;clear hK K
      refine rd1 4 (by kernel_rfl) rfl (fun K hK=>?_)
      ·go_simp
       refine hK _ _ ?_;clear hK K
       refine rd1 5 (by kernel_rfl) rfl (fun K hK=>?_)
       ·go_simp
        gi_wp2_with (refine⟨trivial,rfl,?_⟩;gi_at_call 57;refine hV.mono ?_;rintro e X4 ⟨rfl,hX4,y0,k0⟩)
        exact hEnd _ hX4
     ·go_simp
      refine hK _ _ ?_;clear hK K
      refine rd2 2 5 (by kernel_rfl) rfl rfl (fun K hK=>?_) (fun K hK=>?_)
      ·go_simp
       refine hK _ _ ?_;clear hK K
       refine rd1 5 (by kernel_rfl) rfl (fun K hK=>?_)
       ·go_simp
        gi_wp2_with (refine⟨trivial,rfl,?_⟩;gi_at_call 57;refine hV.mono ?_;rintro e X4 ⟨rfl,hX4,y0,k0⟩)
        exact hEnd _ hX4
      ·go_simp
       gi_wp2_with (refine⟨trivial,rfl,?_⟩;gi_at_call 57;refine hV.mono ?_;rintro e X4 ⟨rfl,hX4,y0,k0⟩)
       refine rd1 2 (by kernel_rfl) rfl (fun K hK=>?_)
       ·go_simp
        refine hK _ _ ?_;clear hK K
        exact hEnd _ hX4
    ·go_simp
     refine hK _ _ ?_;clear hK K
     refine rd2 0 4 (by kernel_rfl) rfl rfl (fun K hK=>?_) (fun K hK=>?_)
     ·go_simp
      refine hK _ _ ?_;clear hK K
      refine rd1 4 (by kernel_rfl) rfl (fun K hK=>?_)
      ·go_simp
       refine hK _ _ ?_;clear hK K
       refine rd1 5 (by kernel_rfl) rfl (fun K hK=>?_)
       ·go_simp
        gi_wp2_with (refine⟨trivial,rfl,?_⟩;gi_at_call 57;refine hV.mono ?_;rintro e X4 ⟨rfl,hX4,y0,k0⟩)
        exact hEnd _ hX4
     ·go_simp
      refine hK _ _ ?_;clear hK K
      refine rd2 0 5 (by kernel_rfl) rfl rfl (fun K hK=>?_) (fun K hK=>?_)
      ·go_simp
       refine hK _ _ ?_;clear hK K
       refine rd1 5 (by kernel_rfl) rfl (fun K hK=>?_)
       ·go_simp
        gi_wp2_with (refine⟨trivial,rfl,?_⟩;gi_at_call 57;refine hV.mono ?_;rintro e X4 ⟨rfl,hX4,y0,k0⟩)
        exact hEnd _ hX4
      ·go_simp
       gi_wp2_with (refine⟨trivial,rfl,?_⟩;gi_at_call 57;refine hV.mono ?_;rintro e X4 ⟨rfl,hX4,y0,k0⟩)
       refine rd1 0 (by kernel_rfl) rfl (fun K hK=>?_)
       ·go_simp
        refine hK _ _ ?_;clear hK K
        exact hEnd _ hX4
    ·go_simp
     refine hK _ _ ?_;clear hK K
     refine rd3 0 2 5 (by kernel_rfl) rfl rfl rfl (fun K hK=>?_) (fun K hK=>?_) (fun K hK=>?_)
     ·go_simp
      refine hK _ _ ?_;clear hK K
      refine rd2 2 5 (by kernel_rfl) rfl rfl (fun K hK=>?_) (fun K hK=>?_)
      ·go_simp
       refine hK _ _ ?_;clear hK K
       refine rd1 5 (by kernel_rfl) rfl (fun K hK=>?_)
       ·go_simp
        gi_wp2_with (refine⟨trivial,rfl,?_⟩;gi_at_call 57;refine hV.mono ?_;rintro e X4 ⟨rfl,hX4,y0,k0⟩)
        exact hEnd _ hX4
      ·go_simp
       gi_wp2_with (refine⟨trivial,rfl,?_⟩;gi_at_call 57;refine hV.mono ?_;rintro e X4 ⟨rfl,hX4,y0,k0⟩)
       refine rd1 2 (by kernel_rfl) rfl (fun K hK=>?_)
       ·go_simp
        refine hK _ _ ?_;clear hK K
        exact hEnd _ hX4
     ·go_simp
      refine hK _ _ ?_;clear hK K
      refine rd2 0 5 (by kernel_rfl) rfl rfl (fun K hK=>?_) (fun K hK=>?_)
      ·go_simp
       refine hK _ _ ?_;clear hK K
       refine rd1 5 (by kernel_rfl) rfl (fun K hK=>?_)
       ·go_simp
        gi_wp2_with (refine⟨trivial,rfl,?_⟩;gi_at_call 57;refine hV.mono ?_;rintro e X4 ⟨rfl,hX4,y0,k0⟩)
        exact hEnd _ hX4
      ·go_simp
       gi_wp2_with (refine⟨trivial,rfl,?_⟩;gi_at_call 57;refine hV.mono ?_;rintro e X4 ⟨rfl,hX4,y0,k0⟩)
       refine rd1 0 (by kernel_rfl) rfl (fun K hK=>?_)
       ·go_simp
        refine hK _ _ ?_;clear hK K
        exact hEnd _ hX4
     ·go_simp
      gi_wp2_with (refine⟨trivial,rfl,?_⟩;gi_at_call 57;refine hV.mono ?_;rintro e X4 ⟨rfl,hX4,y0,k0⟩)
      refine rd2 0 2 (by kernel_rfl) rfl rfl (fun K hK=>?_) (fun K hK=>?_)
      ·go_simp
       refine hK _ _ ?_;clear hK K
       refine rd1 2 (by kernel_rfl) rfl (fun K hK=>?_)
       ·go_simp
        refine hK _ _ ?_;clear hK K
        exact hEnd _ hX4
      ·go_simp
       refine hK _ _ ?_;clear hK K
       refine rd1 0 (by kernel_rfl) rfl (fun K hK=>?_)
       ·go_simp
        refine hK _ _ ?_;clear hK K
        exact hEnd _ hX4
   ·go_simp
    refine hK _ _ ?_;clear hK K
    refine rd3 0 2 3 (by kernel_rfl) rfl rfl rfl (fun K hK=>?_) (fun K hK=>?_) (fun K hK=>?_)
    ·go_simp
     refine hK _ _ ?_;clear hK K
     refine rd2 2 3 (by kernel_rfl) rfl rfl (fun K hK=>?_) (fun K hK=>?_)
     ·go_simp
      refine hK _ _ ?_;clear hK K
      refine rd1 3 (by kernel_rfl) rfl (fun K hK=>?_)
      ·go_simp
       refine hK _ _ ?_;clear hK K
       refine rd1 5 (by kernel_rfl) rfl (fun K hK=>?_)
       ·go_simp
        gi_wp2_with (refine⟨trivial,rfl,?_⟩;gi_at_call 57;refine hV.mono ?_;rintro e X4 ⟨rfl,hX4,y0,k0⟩)
        exact hEnd _ hX4
     ·go_simp
      refine hK _ _ ?_;clear hK K
      refine rd2 2 5 (by kernel_rfl) rfl rfl (fun K hK=>?_) (fun K hK=>?_)
      ·go_simp
       refine hK _ _ ?_;clear hK K
       refine rd1 5 (by kernel_rfl) rfl (fun K hK=>?_)
       ·go_simp
        gi_wp2_with (refine⟨trivial,rfl,?_⟩;gi_at_call 57;refine hV.mono ?_;rintro e X4 ⟨rfl,hX4,y0,k0⟩)
        exact hEnd _ hX4
      ·go_simp
       gi_wp2_with (refine⟨trivial,rfl,?_⟩;gi_at_call 57;refine hV.mono ?_;rintro e X4 ⟨rfl,hX4,y0,k0⟩)
       refine rd1 2 (by kernel_rfl) rfl (fun K hK=>?_)
       ·go_simp
        refine hK _ _ ?_;clear hK K
        exact hEnd _ hX4
    ·go_simp
     refine hK _ _ ?_;clear hK K
     refine rd2 0 3 (by kernel_rfl) rfl rfl (fun K hK=>?_) (fun K hK=>?_)
     ·go_simp
      refine hK _ _ ?_;clear hK K
      refine rd1 3 (by kernel_rfl) rfl (fun K hK=>?_)
      ·go_simp
       refine hK _ _ ?_;clear hK K
       refine rd1 5 (by kernel_rfl) rfl (fun K hK=>?_)
       ·go_simp
        gi_wp2_with (refine⟨trivial,rfl,?_⟩;gi_at_call 57;refine hV.mono ?_;rintro e X4 ⟨rfl,hX4,y0,k0⟩)
        exact hEnd _ hX4
     ·go_simp
      refine hK _ _ ?_;clear hK K
      refine rd2 0 5 (by kernel_rfl) rfl rfl (fun K hK=>?_) (fun K hK=>?_)
      ·go_simp
       refine hK _ _ ?_;clear hK K
       refine rd1 5 (by kernel_rfl) rfl (fun K hK=>?_)
       ·go_simp
        gi_wp2_with (refine⟨trivial,rfl,?_⟩;gi_at_call 57;refine hV.mono ?_;rintro e X4 ⟨rfl,hX4,y0,k0⟩)
        exact hEnd _ hX4
      ·go_simp
       gi_wp2_with (refine⟨trivial,rfl,?_⟩;gi_at_call 57;refine hV.mono ?_;rintro e X4 ⟨rfl,hX4,y0,k0⟩)
       refine rd1 0 (by kernel_rfl) rfl (fun K hK=>?_)
       ·go_simp
        refine hK _ _ ?_;clear hK K
        exact hEnd _ hX4
    ·go_simp
     refine hK _ _ ?_;clear hK K
     refine rd3 0 2 5 (by kernel_rfl) rfl rfl rfl (fun K hK=>?_) (fun K hK=>?_) (fun K hK=>?_)
     ·go_simp
      refine hK _ _ ?_;clear hK K
      refine rd2 2 5 (by kernel_rfl) rfl rfl (fun K hK=>?_) (fun K hK=>?_)
      ·go_simp
       refine hK _ _ ?_;clear hK K
       refine rd1 5 (by kernel_rfl) rfl (fun K hK=>?_)
       ·go_simp
        gi_wp2_with (refine⟨trivial,rfl,?_⟩;gi_at_call 57;refine hV.mono ?_;rintro e X4 ⟨rfl,hX4,y0,k0⟩)
        exact hEnd _ hX4
      ·go_simp
       gi_wp2_with (refine⟨trivial,rfl,?_⟩;gi_at_call 57;refine hV.mono ?_;rintro e X4 ⟨rfl,hX4,y0,k0⟩)
       refine rd1 2 (by kernel_rfl) rfl (fun K hK=>?_)
       ·go_simp
        refine hK _ _ ?_;clear hK K
        exact hEnd _ hX4
     ·go_simp
      refine hK _ _ ?_;clear hK K
      refine rd2 0 5 (by kernel_rfl) rfl rfl (fun K hK=>?_) (fun K hK=>?_)
      ·go_simp
       refine hK _ _ ?_;clear hK K
       refine rd1 5 (by kernel_rfl) rfl (fun K hK=>?_)
       ·go_simp
        gi_wp2_with (refine⟨trivial,rfl,?_⟩;gi_at_call 57;refine hV.mono ?_;rintro e X4 ⟨rfl,hX4,y0,k0⟩)
        exact hEnd _ hX4
      ·go_simp
       gi_wp2_with (refine⟨trivial,rfl,?_⟩;gi_at_call 57;refine hV.mono ?_;rintro e X4 ⟨rfl,hX4,y0,k0⟩)
       refine rd1 0 (by kernel_rfl) rfl (fun K hK=>?_)
       ·go_simp
        refine hK _ _ ?_;clear hK K
        exact hEnd _ hX4
     ·go_simp
      gi_wp2_with (refine⟨trivial,rfl,?_⟩;gi_at_call 57;refine hV.mono ?_;rintro e X4 ⟨rfl,hX4,y0,k0⟩)
      refine rd2 0 2 (by kernel_rfl) rfl rfl (fun K hK=>?_) (fun K hK=>?_)
      ·go_simp
       refine hK _ _ ?_;clear hK K
       refine rd1 2 (by kernel_rfl) rfl (fun K hK=>?_)
       ·go_simp
        refine hK _ _ ?_;clear hK K
        exact hEnd _ hX4
      ·go_simp
       refine hK _ _ ?_;clear hK K
       refine rd1 0 (by kernel_rfl) rfl (fun K hK=>?_)
       ·go_simp
        refine hK _ _ ?_;clear hK K
        exact hEnd _ hX4
 ·rintro D Y2 Wg hD hYD hJg hFg hGg hDW
  gi_wp2
  refine lR rfl hDW ⟨⟨_,rfl⟩,Y2,((F6.trans hFg).putObj (.inr (by omega)) _),(aJ.refl W Y).trans F6.size hGg,.inl (sJ _ _ _ _ hJg ((On.refl _ _).putObj hYD _))⟩
 ·rintro D c pre Y2 Wg hD hYD hpre hne ⟨rfl,h3⟩ hFg hGg hDW
  gi_wp2
  refine lR rfl hDW ⟨⟨_,rfl⟩,Y2,((F6.trans hFg).putObj (.inr (by omega)) _),(aJ.refl W Y).trans F6.size hGg,.inr ⟨pre,hpre,hne,sJx _ _ _ _ h3 ((On.refl _ _).putObj hYD _)⟩⟩
open Go.Shelf
attribute [local go_sem] Oper.semAt_some
theorem Qh (root:Int) (β:Nat) (ca:Option Addr) (cn cc:Nat) (lo hi:ByteArray) (w:World) :
  Calls Tryz.prog 78 #[.agg (tA β root ca cn cc),.string lo,.string hi] w fun e w' =>
   e=.returned (.func (.func 109) #[] #[.pointer (some ⟨w.heap.size,0,none⟩),.pointer (some ⟨w.heap.size+1,0,none⟩),.pointer (some ⟨w.heap.size+1+1,0,none⟩)]) ∧
   w'.heap[w.heap.size]?=some (.cells (tA β root ca cn cc) 95)∧w'.heap[w.heap.size+1]?=some (.cells #[.string lo] 9)∧w'.heap[w.heap.size+1+1]?=some (.cells #[.string hi] 9)∧Below w.heap.size w w':=by
 obtain⟨W1,hW1⟩:=nM (((w.alloc (.cells (tA β root ca cn cc) 95)).alloc (.cells #[.string lo] 9)).alloc (.cells #[.string hi] 9))
 have B:Below w.heap.size w W1:=hW1▸((bA _ _).alloc (by simp) _).alloc (by simp;omega) _
 have h0:W1.heap[w.heap.size]?=some (.cells (tA β root ca cn cc) 95):=hW1▸aB _ (aB _ (aA w _))
 have h1:W1.heap[w.heap.size+1]?=some (.cells #[.string lo] 9):=by
  rw [← hW1];refine aB _ ?_;have:=aA (w.alloc (.cells (tA β root ca cn cc) 95)) (.cells #[.string lo] 9);simpa using this
 have h2:W1.heap[w.heap.size+1+1]?=some (.cells #[.string hi] 9):=by
  rw [← hW1];have:=aA ((w.alloc (.cells (tA β root ca cn cc) 95)).alloc (.cells #[.string lo] 9)) (.cells #[.string hi] 9);simpa using this
 go_enter Tryz.func78,Tryz.ntmps78
 go_wp2
 go_ret
 exact⟨rfl,h0,h1,h2,B⟩
def fZ (xs:List En):List Value:=xs.flatMap (fun x=>[.string x.e.key,.string ⟨x.value.toArray⟩])
theorem Lw (xs:List En) (x:En):fZ (xs++[x])=fZ xs++[.string x.e.key,.string ⟨x.value.toArray⟩]:=by simp [fZ]
theorem qAq:(Tryz.prog.info? 60).map (fun i=>(i.zero,i.size,i.bytes))=some (some (.agg #[.string ⟨#[]⟩,.string ⟨#[]⟩]),2,32):=by kernel_rfl
def iI (o:Option (Nat×T)) (cs:List Ch) (q:Sp):List En:=bD (cP q o) (eH cs q)
theorem Vh {fs:Fs} {root:Nat} {o:Option (Nat×T)} {cs:List Ch} (hro:bJ fs root o) (hf:gS o) (hr:cI cs) (hc:∀ c∈cs,c.good) (q:Sp):∀ x∈iI o cs q,x.good fs:=by
 unfold iI
 rw [tO hro]
 exact fG (List.Pairwise.filter _ (dB hro)) (iN hr q) (fun x hx=>Cg hro hf x (List.mem_filter.1 hx).1) (fun c hcm=>hc c (List.mem_filter.1 hcm).1)
theorem Xs (β:Nat) (sv lv:Value) (fs:Fs) (hl:(fs.life==0)=false) (t:Tx) (o:Option (Nat×T)) (hro:bJ fs t.root o) (hfl:gS o) (q:Sp) (most:Nat) (w:World) (hf:aG w β sv lv fs) (hT:eF w β t) (hr:cI t.cs) (hgd:∀ c∈t.cs,c.good) (hn:t.cs.length≤1000) (hsm:(iI o t.cs q).length≤1000000) (hm:most≤9223372036854775807) :
  Calls Tryz.prog 54 #[.pointer (some ⟨t.b,0,none⟩),.string q.lo,.string q.hi,.int .i64 (most:Nat)] w fun e w'=>∃ v,e=.returned v∧w'.ownsRow 0 60 2 v ((iI o t.cs q).take most).length (fZ ((iI o t.cs q).take most))∧Below w.heap.size w w'∧∀ k,v.ownBlock=some k→w.heap.size≤k:=by
 have hgood:=Vh hro hfl hr hgd q
 obtain⟨ca0,cc0,he,hcc,hrow⟩:=cO hT.row
 simp only [Tx.cv,Value.slice.injEq,true_and] at he
 obtain⟨e1,e2⟩:=he
 subst e1 e2
 have hca:(t.ca=none∧t.cc=0)∨∃ b off,t.ca=some ⟨b,off,none⟩:=by
  rcases hT.row.2 with⟨h,_⟩|⟨g,cap,cur,h,_⟩
  ·simp only [Tx.cv,Value.slice.injEq] at h;exact .inl ⟨h.1,h.2.2⟩
  ·simp only [Tx.cv,Value.slice.injEq] at h;exact .inr ⟨g,0,h.1⟩
 obtain⟨W1,hW1⟩:=nM ((w.alloc (.cells #[.int .i64 (most:Nat)] 3)).alloc (.cells #[.slice none 0 0] 56))
 have B1:Below w.heap.size w W1:=hW1▸(bA _ _).alloc (by simp) _
 have m1:W1.heap[w.heap.size]?=some (.cells #[.int .i64 (most:Nat)] 3):=hW1▸aB _ (aA w _)
 have l1:W1.heap[w.heap.size+1]?=some (.cells #[.slice none 0 0] 56):=by
  rw [← hW1];have:=aA (w.alloc (.cells #[.int .i64 (most:Nat)] 3)) (.cells #[.slice none 0 0] 56);simpa using this
 have z1:W1.heap.size=w.heap.size+2:=by rw [← hW1];simp
 have t1:=(B1.block _ (gL hT.box)).trans hT.box
 obtain⟨q0,q1,q2,q3,q4,q5⟩:=rU t1
 have cm:=dG m1
 have cl:=dG l1
 by_cases hm0:most=0
 ·subst hm0
  have B1':Below w.heap.size w W1:=B1
  clear hgood hf hT hr hgd hrow B1
  go_enter Tryz.func54,Tryz.ntmps54
  go_wp2
  go_ret
  rw [← hW1] at B1'
  exact⟨_,rfl,World.ownsRow_nil _ _ _ _,B1',fun k hk=>by simp [Value.ownBlock] at hk⟩
 have hmb:(((most:Nat):Int)==0)=false:=by simp;omega
 have hPc:=Qh t.root β t.ca t.cs.length t.cc q.lo q.hi W1
 rw [z1] at hPc
 have HZ:Hid (W1.heap.size=w.heap.size+2):=z1
 clear z1
 refine(callsIn_wide (n:=0)).1 (callsIn_of_wp_marks Tryz.func54 rfl trivial ?_ rfl)
 simp only [Tryz.ntmps54,jA,jB,jN,Nat.reduceAdd,Nat.reduceSub,jR,jO,jP,jT,jE,jF]
 gi_wp2_with (refine⟨trivial,rfl,?_⟩;gi_at_call 78;refine(callsIn_wide.2 hPc).mono ?_;clear hPc;rintro e W3 ⟨rfl,v0,v1,v2,hb3⟩)
 have hb3':Below W1.heap.size W1 W3:=by rw [HZ.out];exact hb3
 have f3:Fr Bl.none W1 W3:=Fr.of_below hb3'
 have F3:Fr Bl.none w W3:=(Fr.of_below B1).trans f3
 have z3:w.heap.size+2+1+1<W3.heap.size:=(gL v2)
 have zw:W1.heap.size=w.heap.size+2:=HZ.out
 have m3:=f3.heap m1 (fun h=>h)
 have l3:=f3.heap l1 (fun h=>h)
 have hf3:aG W3 β sv lv fs:=hf.on (F3.on (fun k hk=>⟨hf.lies k hk,fun h=>h⟩))
 have hS:∀ k,t.cv.ownBlock=some k→k<w.heap.size:=fun k hk=>aX hT.row hk
 have hrow3:=hrow.on (F3.on (fun k hk=>⟨hS k hk,fun h=>h⟩))
 let b:=w.heap.size+1
 let Rc:Bl:=fun k=>k=w.heap.size+2∨k=w.heap.size+2+1∨k=w.heap.size+2+1+1∨fpF β sv lv k∨t.cv.ownBlock=some k
 have hit:=Qg β sv lv fs hl t.root t.ca t.cc t.cs q o hro (fun k=>t.cv.ownBlock=some k) (w.heap.size+2) (w.heap.size+2+1) (w.heap.size+2+1+1) Rc W3 v0 v1 v2 hf3 hrow3 (fun k hk=>by have:=hS k hk;omega) hr (by omega) hcc hca hgood (.inl rfl) (.inr (.inl rfl)) (.inr (.inr (.inl rfl))) (fun k hk=>.inr (.inr (.inr (.inl hk)))) (fun k hk=>.inr (.inr (.inr (.inr hk))))
 obtain⟨xs,hxs⟩:=nM (iI o t.cs q)
 rw [show bD (cP q o) (eH t.cs q)=xs from hxs] at hit
 rw [hxs] at hsm
 have HXS:Hid (iI o t.cs q=xs):=hxs
 clear hxs
 let J:List En→Bl→World→Prop:=fun pre Y W=>∃ v,W.heap[b]?=some (.cells #[v] 56)∧W.ownsRow 0 60 2 v pre.length (fZ pre)∧(∀ k,Y k↔k=b∨v.ownBlock=some k)∧(∀ k,v.ownBlock=some k→w.heap.size≤k∧k≠w.heap.size)
 let I:List En→Bl→World→Prop:=fun pre Y W=>pre.length<most∧J pre Y W
 let Ix:Code→List En→Bl→World→Prop:=fun c pre Y W=>c=.exit 0∧pre.length=most∧J pre Y W
 have hfl':=hf.lies
 refine fY (P:=Tryz.prog) (Has:=qEl) (Rd:=Rc) rfl (enters_of Tryz.func109 (by kernel_rfl) rfl) hit (fun x args S W hH=>by rw [show args=_ from hH];rfl) I Ix ?_ ?_ ?_ ?_ (Bl.one b) ⟨by simp;omega,.slice none 0 0,l3,by simpa [fZ] using World.ownsRow_nil _ _ _ _,fun k=>by simp [Bl.one,Value.ownBlock],by simp [Value.ownBlock]⟩ ?_ ?_ ?_ ?_
 ·rintro pre Y A B ⟨hp,v,h1,h2,h3,h4⟩ ho
  exact⟨hp,v,ho.heap h1 ((h3 _).2 (.inl rfl)),bK h2 ho (fun k hk=>(h3 k).2 (.inr hk)),h3,h4⟩
 ·rintro c pre Y A B ⟨hc,hp,v,h1,h2,h3,h4⟩ ho
  exact⟨hc,hp,v,ho.heap h1 ((h3 _).2 (.inl rfl)),bK h2 ho (fun k hk=>(h3 k).2 (.inr hk)),h3,h4⟩
 ·rintro pre Y A ⟨hp,v,h1,h2,h3,h4⟩ k hk
  rcases (h3 k).1 hk with rfl|h
  ·exact(gL h1)
  ·exact aX h2 h
 ·rintro c pre Y A ⟨hc,hp,v,h1,h2,h3,h4⟩ k hk
  rcases (h3 k).1 hk with rfl|h
  ·exact(gL h1)
  ·exact aX h2 h
 ·rintro k (rfl|rfl|rfl|hk|hk)
  ·exact⟨fun h=>by simp only [Bl.one,b] at h;omega,by omega⟩
  ·exact⟨fun h=>by simp only [Bl.one,b] at h;omega,by omega⟩
  ·exact⟨fun h=>by simp only [Bl.one,b] at h;omega,by omega⟩
  ·exact⟨fun h=>by simp only [Bl.one,b] at h;have:=hfl' k hk;omega,by have:=hfl' k hk;omega⟩
  ·exact⟨fun h=>by simp only [Bl.one,b] at h;have:=hS k hk;omega,by have:=hS k hk;omega⟩
 ·rintro l pre x rest args S Y' W hx ⟨hpm0,v,h1,h2,h3,h4⟩ hH hS' hFW hGW hl0 hl1 hl2 ⟨r,hr'⟩
  have hH':args=#[.string x.e.key,.string ⟨x.value.toArray⟩]:=hH
  subst hH'
  have hpl:pre.length+1≤1000000:=by have:=congrArg List.length hx;simp at this;omega
  obtain⟨lst,hlst⟩:=nM (decide (pre.length+1=most))
  have hpm:(((pre.length:Int)+1)==(most:Int))=lst:=by rw [← hlst,Bool.eq_iff_iff,beq_iff_eq,decide_eq_true_iff];omega
  have HLS:Hid (decide (pre.length+1=most)=lst):=hlst
  clear hx hlst
  cases lst
  all_goals
   unfold iZ
   gi_wp2
   refine⟨Fr.refl _ _,?_⟩
   intro W₂ hT2
   have fX:Fr (Bl.one l) W W₂:=hT2.fr
   have b2:=fX.heap h1 (fun h=>by simp only [Bl.one] at h;exact hl2 ((h3 _).2 (.inl h.symm)))
   have o2:W₂.ownsRow 0 60 2 v pre.length (fZ pre):=bK h2 (fX.on (Z:=fun k=>v.ownBlock=some k) (fun k hk=>⟨aX h2 hk,fun h=>by simp only [Bl.one] at h;subst h;exact hl2 ((h3 _).2 (.inr hk))⟩)) (fun k hk=>hk)
   have mW:=fX.heap (hFW.heap m3 (fun h=>by simp only [Bl.one,b] at h;omega)) (fun h=>by simp only [Bl.one] at h;have:=hFW.size;omega)
   have c2:W₂.cell? ⟨w.heap.size+1,0,none⟩=some v:=by
    have:W₂.heap[w.heap.size+1]?=_:=b2
    simp [World.cell?,this]
   have nb:=aV o2 b2 (by decide)
   obtain⟨a,c,rfl⟩:=aO o2
   have zb:b<W₂.heap.size:=(gL b2)
   gi_wp2_with (gi_at_builtin;refine Fy W₂ rfl (.tmp 24) (.tmp 28) 56 60 _ 2 32 rfl Tryz.underlying56 qAq rfl (by decide) (.slice a pre.length c) pre.length (fZ pre) rfl o2 [.string x.e.key,.string ⟨x.value.toArray⟩] rfl rfl (by simp [Value.oneCell']) (by omega) (by omega) ?_;intro v3 W₃ A3;obtain⟨g3,k3,rfl⟩:=A3.shape (by decide);have b3:=A3.fr.heap b2 nb;have c3:W₃.cell? ⟨w.heap.size+1,0,none⟩=some (.slice a pre.length c):=(by have:W₃.heap[w.heap.size+1]?=_:=b3;simp [World.cell?,this]);have mfr:∀ k,W₃.frozen? ⟨w.heap.size+1,k,none⟩=false:=aF (show W₃.heap[w.heap.size+1]?=_ from b3);have m4:=A3.fr.heap mW (fun hk=>(h4 _ hk).2 rfl);obtain⟨W₄,hW4⟩:=nM (W₃.setCell ⟨w.heap.size+1,0,none⟩ (.slice (some ⟨g3,0,none⟩) (pre.length+1) k3));have b4:W₄.heap[w.heap.size+1]?=some (.cells #[.slice (some ⟨g3,0,none⟩) (pre.length+1) k3] 56):=(by rw [← hW4];simpa using aD (show W₃.heap[w.heap.size+1]?=_ from b3) 0 (.slice (some ⟨g3,0,none⟩) (pre.length+1) k3));have d4:=dG b4;have m5:W₄.cell? ⟨w.heap.size,0,none⟩=some (.int .i64 (most:Nat)):=(by have:=(hW4▸((Fr.refl (Bl.one (w.heap.size+1)) W₃).setCell (p:=⟨w.heap.size+1,0,none⟩) (.inl rfl) _):Fr (Bl.one (w.heap.size+1)) W₃ W₄).heap m4 (oN (by omega));exact dG this))
   have FA:Fr Y' W₂ W₃:=A3.fr.mono (fun k hk=>.inl ((h3 k).2 (.inr hk)))
   have HJ:J (pre++[x]) (fun k=>k=b∨g3=k) W₄:=by
    refine⟨.slice (some ⟨g3,0,none⟩) (pre.length+1) k3,b4,?_,fun k=>by simp [Value.ownBlock],?_⟩
    ·rw [jK,List.length_singleton,Lw,← hW4]
     exact bK A3.row ((On.refl (fun k=>Value.ownBlock _=some k) W₃).setCell (p:=⟨w.heap.size+1,0,none⟩) (fun hk=>aV A3.row (show W₃.heap[w.heap.size+1]?=_ from b3) (by decide) hk) _) (fun k hk=>hk)
    ·intro k hk
     rcases A3.lies k hk with h|h
     ·exact h4 k h
     ·have:w.heap.size+1<W₂.heap.size:=zb;omega
   refine⟨fun k=>k=b∨g3=k,?_,?_,?_⟩
   ·first
     | exact⟨by have:=of_decide_eq_false HLS.out;rw [jK,List.length_singleton];omega,HJ⟩
     | exact⟨rfl,by have:=of_decide_eq_true HLS.out;rw [jK,List.length_singleton];omega,HJ⟩
   ·rw [← hW4]
    exact FA.setCell (p:=⟨w.heap.size+1,0,none⟩) (.inl ((h3 _).2 (.inl rfl))) _
   ·rintro k (rfl|hk)
    ·exact .inl ((h3 _).2 (.inl rfl))
    ·rcases A3.lies k (by simp [Value.ownBlock,hk]) with h|h
     ·exact .inl ((h3 k).2 (.inr h))
     ·exact .inr h
 ·rintro D Y' W hD hYD ⟨hpm0,v,h1,h2,h3,h4⟩ hFW hGW hDW
  have c1:W.cell? ⟨w.heap.size+1,0,none⟩=some v:=by
   have:W.heap[w.heap.size+1]?=_:=h1
   simp [World.cell?,this]
  obtain⟨a,c,rfl⟩:=aO h2
  have hm':Marks w.heap.size [mk D] W:=(Marks.nil w.heap.size W3).cons (fun D' _ h=>hFW.heap h (fun e=>by simp only [Bl.one,b] at e;subst e;rw [l3] at h;simp at h)) (by omega) hDW hD
  gi_wp2
  refine Nz rfl hm' ?_
  intro w' ht'
  rw [HXS.out,List.take_of_length_le (Nat.le_of_lt hpm0)]
  exact⟨_,rfl,qY h2 ht',((F3.grow hFW (fun k hk=>.inr (by simp only [Bl.one,b] at hk;omega))).took ht' (jU _)).below0,fun k hk=>(h4 k hk).1⟩
 ·rintro D c0 pre Y' W hD hYD hp hne ⟨rfl,hpm0,v,h1,h2,h3,h4⟩ hFW hGW hDW
  have HPM:Hid (pre.length=most):=hpm0
  clear hpm0
  have c1:W.cell? ⟨w.heap.size+1,0,none⟩=some v:=by
   have:W.heap[w.heap.size+1]?=_:=h1
   simp [World.cell?,this]
  obtain⟨a,c,rfl⟩:=aO h2
  have hm':Marks w.heap.size [mk D] W:=(Marks.nil w.heap.size W3).cons (fun D' _ h=>hFW.heap h (fun e=>by simp only [Bl.one,b] at e;subst e;rw [l3] at h;simp at h)) (by omega) hDW hD
  gi_wp2
  refine Nz rfl hm' ?_
  intro w' ht'
  have hpx:xs.take most=pre:=by obtain⟨rest,rfl⟩:=hp;rw [← HPM.out];simp
  rw [HXS.out,hpx]
  exact⟨_,rfl,qY h2 ht',((F3.grow hFW (fun k hk=>.inr (by simp only [Bl.one,b] at hk;omega))).took ht' (jU _)).below0,fun k hk=>(h4 k hk).1⟩
variable {D:Db} {K:List ByteArray} {Kp:Bl} {ao o:Option (Nat×T)} {b d j m n:Nat} {cs:List Ch} {w wq:World} {wr:Bool} {x:Int} {xs ys:List En}
theorem Ih (D:Db) (g:Nat) (first lb:Array Value) (eg:∀ args w,(callFunc g args).run Tryz.prog w=.ok (.enter g args) w) (w:World) (h:aN w 0 D) (Z:Bl) (R:Int→World→Prop) (hZ:∀ k,Z k→¬ fpD D k∧k<w.heap.size)
    (hC:∀ W0,aN W0 1 D→Fr (Bl.one D.d) w W0→w.heap.size<W0.heap.size→Calls Tryz.prog g (first++lb) W0 fun e w'=>∃ z,e=.returned (.int .i64 z)∧Fr Z W0 w'∧R z w')
    (hR:∀ z W k v,R z W→k=w.heap.size∨k=D.d→R z (W.setCell ⟨k,0,none⟩ v)) :
    Calls Tryz.prog 35 #[.pointer (some ⟨D.d,0,none⟩),.func (.func g) first lb] w fun e w'=>∃ z,e=.returned (.int .i64 z)∧aN w' 0 D∧Fr (Bl.or (Bl.one D.d) Z) w w'∧R z w':=by
  have dlt:D.d<w.heap.size:=(gL h.box)
  obtain⟨W1,hW1⟩:=nM (w.setCell ⟨D.d,0,none⟩ (.int .i32 1))
  have h1:aN W1 1 D:=hW1▸h.lock
  have F1:Fr (Bl.one D.d) w W1:=hW1▸(Fr.refl (Bl.one D.d) w).setCell (p:=⟨D.d,0,none⟩) (.inl rfl) _
  have s1:W1.heap.size=w.heap.size:=by rw [← hW1];simp
  obtain⟨W0,hW0⟩:=nM (W1.alloc (.cells #[.int .i64 0] 37))
  have B0:Below W1.heap.size W1 W0:=hW0▸(bA _ _)
  have x0:W0.heap[w.heap.size]?=some (.cells #[.int .i64 0] 37):=by rw [← hW0,← s1];exact aA W1 _
  have h0:aN W0 1 D:=h1.on (vV B0 h1.lies)
  have F0:Fr (Bl.one D.d) w W0:=F1.trans (Fr.of_below B0)
  have z0:w.heap.size<W0.heap.size:=(gL x0)
  have nN:¬ fpD D w.heap.size:=fun hk=>by have:=h.lies _ hk;omega
  have nZ:¬ Z w.heap.size:=fun hk=>by have:=(hZ _ hk).2;omega
  refine(Du D.d g first lb eg w (fun z W=>aN W 1 D∧Fr Z W0 W∧R z W) _ h.box rfl ?_).mono ?_
  · rw [hW1,hW0]
    refine(hC W0 h0 F0 z0).mono ?_
    rintro e w' ⟨z,rfl,hF,hRz⟩
    have hD':aN w' 1 D:=h0.on (hF.on (fun k hk=>⟨h0.lies k hk,fun hz=>(hZ k hz).1 hk⟩))
    exact⟨z,rfl,hF.heap x0 nZ,⟨_,hD'.box,rfl⟩,hD',hF,hRz⟩
  · rintro e w' ⟨z,W,rfl,⟨hD',hF,hRz⟩,rfl⟩
    refine⟨z,rfl,?_,?_,hR _ _ _ _ (hR _ _ _ _ hRz (.inl rfl)) (.inr rfl)⟩
    · exact(hD'.beside (i:=0) nN (.int .i64 z)).lock (st':=0)
    · exact(((F0.mono (fun k hk=>.inl (.inl hk))).trans (hF.mono (fun k hk=>.inl (.inr hk)))).setCell (p:=⟨w.heap.size,0,none⟩) (.inr (jU _)) _).setCell (p:=⟨D.d,0,none⟩) (.inl (.inl rfl)) _
def qGh (o:Option (Nat×T)) (cs:List Ch) (key:ByteArray) (q:Nat) (z:Int) (W:World):Prop :=
  ∃ v,W.heap[q]?=some (.cells #[.string v] 9)∧((kW o cs key=none∧z=5∧v=⟨#[]⟩)∨∃ l,kW o cs key=some l∧z=0∧v=⟨l.toArray⟩)
theorem qAv (D:Db) (x:Int) (i:Nat) (t:Tx) (o:Option (Nat×T)) (key:ByteArray) (b0 b1 b2 b3:Nat) (w:World) (h:aN w 1 D) (hal:(D.fs.life==0)=false) (hro:bJ D.fs t.root o) (hfl:gS o) (hn:D.ts.length≤1000) (hi:i<D.ts.length) (ht:D.ts[i]=t) (hx:mU D.ts x=i) (hr:cI t.cs) (hgd:∀ c∈t.cs,c.good) (hcs:t.cs.length≤1000) (hk1:1≤key.size) (hk2:key.size≤24)
    (x0:w.heap[b0]?=some (.cells #[.pointer (some ⟨D.d,0,none⟩)] 23)) (x1:w.heap[b1]?=some (.cells #[.int .i64 x] 3)) (x2:w.heap[b2]?=some (.cells #[.string key] 9)) (x3:w.heap[b3]?=some (.cells #[.string ⟨#[]⟩] 9)) :
    Calls Tryz.prog 56 #[.pointer (some ⟨b0,0,none⟩),.pointer (some ⟨b1,0,none⟩),.pointer (some ⟨b2,0,none⟩),.pointer (some ⟨b3,0,none⟩)] w fun e w'=>∃ z,e=.returned (.int .i64 z)∧Fr (Bl.one b3) w w'∧qGh o t.cs key b3 z w':=by
  have hWr:=pW D 1 x i t w h (by omega) hi ht hx
  have hm:t∈D.ts:=ht▸List.getElem_mem hi
  have HK:Hid (∀ X,Below w.heap.size w X→aN X 1 D∧X.cell? ⟨b0,0,none⟩=some (.pointer (some ⟨D.d,0,none⟩))∧X.cell? ⟨b1,0,none⟩=some (.int .i64 x)∧X.heap[b2]?=some (.cells #[.string key] 9)∧X.cell? ⟨t.b,2,none⟩=some (.pointer (some ⟨D.β,0,none⟩))∧X.cell? ⟨t.b,3,none⟩=some (.int .i64 t.root)∧X.cell? ⟨t.b,4,none⟩=some (.slice t.ca t.cs.length t.cc)∧X.heap[b3]?=some (.cells #[.string ⟨#[]⟩] 9)):=by
    intro X hX
    have hD:=h.on (vV hX h.lies)
    obtain⟨q0,q1,q2,q3,q4,q5⟩:=rU (hD.each t hm).box
    exact⟨hD,dG ((hX.block _ (gL x0)).trans x0),dG ((hX.block _ (gL x1)).trans x1),(hX.block _ (gL x2)).trans x2,q2,q3,q4,(hX.block _ (gL x3)).trans x3⟩
  obtain⟨_,c0,c1,y2,q2,q3,q4,y3⟩:=HK.out w (Below.refl _ _)
  have c2:=dG y2
  have hKy:∀ X,Calls Tryz.prog 45 #[.string key] X fun e w'=>e=.returned (.bool true)∧w'=X:=fun X=>by
    have:=xO key X
    rw [decide_eq_true (And.intro hk1 hk2)] at this
    exact this
  obtain⟨fb,hfb⟩:=nM (dZ o t.cs key)
  have HFi:Hid (∀ X,aN X 1 D→Calls Tryz.prog 49 #[.agg #[.pointer (some ⟨D.β,0,none⟩),.int .i64 t.root,.slice t.ca t.cs.length t.cc],.string key] X fun e w'=>∃ E:Ent,e=.returned (.tuple #[.agg #[.string E.key,.string E.val,.int .i64 E.size,.int .i64 E.over],.bool fb])∧Below X.heap.size X w'∧Hid ((fb=false∧kW o t.cs key=none)∨∃ V:En,V.good D.fs∧E=V.e∧fb=true∧kW o t.cs key=some V.value)):=fun X hX=>by
    obtain⟨a0,cc0,he,hcc,hrow⟩:=cO (hX.each t hm).row
    simp only [Tx.cv,Value.slice.injEq,true_and] at he
    obtain⟨e1,e2⟩:=he
    subst e1 e2
    refine(Ns D.β D.sv D.lv D.fs hal t.root t.ca t.cc t.cs key o hro (fun k=>t.cv.ownBlock=some k) X hX.file hrow (fun k hk=>aX (hX.each t hm).row hk) hr hcs hcc (by omega)).mono ?_
    rintro e w' ⟨E,rfl,hE1,hE2,hb⟩
    refine⟨E,by rw [hfb],hb,?_⟩
    have:=Ig hro hfl hr hgd hE1 hE2
    rw [hfb] at this
    exact this
  have HVa:Hid (∀ X (V:En),aN X 1 D→V.good D.fs→Calls Tryz.prog 57 #[.agg #[.pointer (some ⟨D.β,0,none⟩),.int .i64 t.root,.slice t.ca t.cs.length t.cc],.agg #[.string V.e.key,.string V.e.val,.int .i64 V.e.size,.int .i64 V.e.over]] X fun e w'=>e=.returned (.string ⟨V.value.toArray⟩)∧Below X.heap.size X w'):=fun X V hX hV=>Bd D.β D.sv D.lv D.fs hal t.root t.ca t.cs.length t.cc V X hX.file (An hV).1 (An hV).2
  have l3:b3<w.heap.size:=(gL x3)
  clear x0 x1 x2 x3 h ht hx hr hfb hgd
  go_enter Tryz.func56,Tryz.ntmps56
  go_wp2_with (first
    | (go_at_call 53;(with_reducible refine jC hWr ?_);rintro e X1 ⟨rfl,hX1⟩;obtain⟨hD1,c0,c1,y2,q2,q3,q4,y3⟩:=HK.out X1 hX1;have c2:=dG y2;have hKy1:=hKy X1)
    | (go_at_call 45;(with_reducible refine jC hKy1 ?_);rintro e X1' ⟨rfl,hX1'⟩;subst X1'))
  have HS:Hid (∀ X,Below w.heap.size w X→X.cell? ⟨b2,0,none⟩=some (.string key)∧X.cell? ⟨t.b,2,none⟩=some (.pointer (some ⟨D.β,0,none⟩))∧X.cell? ⟨t.b,3,none⟩=some (.int .i64 t.root)∧X.cell? ⟨t.b,4,none⟩=some (.slice t.ca t.cs.length t.cc)):=fun X hX=>by
    obtain⟨_,_,_,y2,q2,q3,q4,_⟩:=HK.out X hX
    exact⟨dG y2,q2,q3,q4⟩
  have zX1:=hX1.size
  go_region_held3 (fun X=>X.cell? ⟨b2,0,none⟩=some (.string key)∧X.cell? ⟨t.b,2,none⟩=some (.pointer (some ⟨D.β,0,none⟩))∧X.cell? ⟨t.b,3,none⟩=some (.int .i64 t.root)∧X.cell? ⟨t.b,4,none⟩=some (.slice t.ca t.cs.length t.cc))
    ((refine HS.out _ ?_;(repeat (first|exact hX1|exact B2|(refine Below.drew ?_)|(refine Below.alloc ?_ (by first|omega|(simp;omega)) _)|(refine Below.setCell ?_ (by first|omega|(simp;omega)|(show w.heap.size≤X2.heap.size;omega)|(show w.heap.size≤X1.heap.size;omega)) _)))))
    (first
      | (go_at_call 49;(with_reducible refine jC (HFi.out _ (HK.out _ ?_).1) ?_);(first|exact hX1.drew|exact hX1|exact(hX1.alloc zX1 _).drew|exact hX1.drew.alloc zX1 _);rintro e X2 ⟨E,rfl,hX2,HE⟩;have B2:Below w.heap.size w X2:=(by first|exact hX1.drew.trans (hX2.mono zX1)|exact(hX1.alloc zX1 _).drew.trans (hX2.mono (by simp;omega)));have zX2:=B2.size;have xE:=aA X2 nJ;obtain⟨g0,g1,g2,g3⟩:=zU xE;have gfr:=aF xE;try (have xF:X2.heap[X1.heap.size]?=some nJ:=(hX2.block _ (by simp)).trans (by first|exact aA X1 nJ|exact aA X1.drew nJ);clear g0 g1 g2 g3 gfr;obtain⟨g0,g1,g2,g3⟩:=zU xF;have gfr:=aF xF)))
  all_goals
    clear hKy1 hWr
    first
      | (obtain⟨X3,hX3⟩:=nM (X2.alloc (.cells #[.string E.key,.string E.val,.int .i64 E.size,.int .i64 E.over] 108))
         rw [hX3]
         have B3:Below w.heap.size w X3:=hX3▸B2.alloc zX2 _
         have xe:X3.heap[X2.heap.size]?=some (.cells #[.string E.key,.string E.val,.int .i64 E.size,.int .i64 E.over] 108):=hX3▸aA X2 _
         clear hX3)
      | (obtain⟨X3,hX3⟩:=nM ((((X2.setCell ⟨X1.heap.size,0,none⟩ (.string E.key)).setCell ⟨X1.heap.size,1,none⟩ (.string E.val)).setCell ⟨X1.heap.size,2,none⟩ (.int .i64 E.size)).setCell ⟨X1.heap.size,3,none⟩ (.int .i64 E.over))
         rw [hX3]
         have B3:Below w.heap.size w X3:=hX3▸((((B2.setCell (p:=⟨X1.heap.size,0,none⟩) zX1 _).setCell (p:=⟨X1.heap.size,1,none⟩) zX1 _).setCell (p:=⟨X1.heap.size,2,none⟩) zX1 _).setCell (p:=⟨X1.heap.size,3,none⟩) zX1 _)
         have xe:X3.heap[X1.heap.size]?=some (.cells #[.string E.key,.string E.val,.int .i64 E.size,.int .i64 E.over] 108):=(by
           have e0:=aD (aD (aD (aD xF 0 (.string E.key)) 1 (.string E.val)) 2 (.int .i64 E.size)) 3 (.int .i64 E.over)
           rw [hX3] at e0
           simpa [nJ] using e0)
         clear hX3)
    clear g0 g1 g2 g3 gfr xE
    obtain⟨hD3,c0,c1,y2,q2,q3,q4,y3⟩:=HK.out X3 B3
    have c2:=dG y2
    rcases HE.out with⟨rfl,hsee⟩|⟨V,hV,rfl,rfl,hsee⟩
    · go_wp2
      go_ret
      exact⟨5,rfl,Fr.of_below B3,_,y3,.inl ⟨hsee,rfl,rfl⟩⟩
    · obtain⟨k0,k1,k2,k3⟩:=iE xe
      have HSE:Hid (kW o t.cs key=some V.value):=hsee
      clear hsee
      have hne:¬ Bl.one b3 t.b:=fun e=>by
        simp only [Bl.one] at e
        have h1:=(hD3.each t hm).box
        rw [e,y3] at h1
        simp [txO] at h1
      go_wp2
      first
        | (have HS2:Hid (∀ X,Fr (Bl.one b3) X3 X→X.cell? ⟨t.b,2,none⟩=some (.pointer (some ⟨D.β,0,none⟩))∧X.cell? ⟨t.b,3,none⟩=some (.int .i64 t.root)∧X.cell? ⟨t.b,4,none⟩=some (.slice t.ca t.cs.length t.cc)∧X.cell? ⟨X2.heap.size,0,none⟩=some (.string V.e.key)∧X.cell? ⟨X2.heap.size,1,none⟩=some (.string V.e.val)∧X.cell? ⟨X2.heap.size,2,none⟩=some (.int .i64 V.e.size)∧X.cell? ⟨X2.heap.size,3,none⟩=some (.int .i64 V.e.over)):=(fun X hF=>by
             obtain⟨_,_,r2,r3,r4,_⟩:=rU (hF.heap (hD3.each t hm).box hne)
             obtain⟨n0,n1,n2,n3⟩:=iE (hF.heap xe (oN (by omega)))
             exact⟨r2,r3,r4,n0,n1,n2,n3⟩)
           go_region_held3 (fun X=>X.cell? ⟨t.b,2,none⟩=some (.pointer (some ⟨D.β,0,none⟩))∧X.cell? ⟨t.b,3,none⟩=some (.int .i64 t.root)∧X.cell? ⟨t.b,4,none⟩=some (.slice t.ca t.cs.length t.cc)∧X.cell? ⟨X2.heap.size,0,none⟩=some (.string V.e.key)∧X.cell? ⟨X2.heap.size,1,none⟩=some (.string V.e.val)∧X.cell? ⟨X2.heap.size,2,none⟩=some (.int .i64 V.e.size)∧X.cell? ⟨X2.heap.size,3,none⟩=some (.int .i64 V.e.over))
            ((refine HS2.out _ ?_;(first|(with_reducible exact(Fr.refl _ _).drew)|(with_reducible exact Fr.refl _ _)|(with_reducible exact F4)|(with_reducible exact F4'))))
            (first
              | (go_at_call 57;(with_reducible refine jC (HVa.out _ V (HK.out _ ?_).1 hV) ?_);(first|exact B3.drew|exact B3);rintro e X4 ⟨rfl,hX4⟩;have B4:Below w.heap.size w X4:=B3.drew.trans (hX4.mono B3.size);have F4:Fr (Bl.one b3) X3 X4:=(Fr.refl _ X3).drew.trans (Fr.of_below hX4);have F4':Fr (Bl.one b3) X3 (X4.setCell ⟨b3,0,none⟩ (.string ⟨V.value.toArray⟩)):=F4.setCell (p:=⟨b3,0,none⟩) (.inl rfl) _;obtain⟨_,_,_,_,_,_,_,y4⟩:=HK.out X4 B4;have c4:=dG y4;have g4:=aF y4)))
        | (have HS2:Hid (∀ X,Fr (Bl.one b3) X3 X→X.cell? ⟨t.b,2,none⟩=some (.pointer (some ⟨D.β,0,none⟩))∧X.cell? ⟨t.b,3,none⟩=some (.int .i64 t.root)∧X.cell? ⟨t.b,4,none⟩=some (.slice t.ca t.cs.length t.cc)∧X.cell? ⟨X1.heap.size,0,none⟩=some (.string V.e.key)∧X.cell? ⟨X1.heap.size,1,none⟩=some (.string V.e.val)∧X.cell? ⟨X1.heap.size,2,none⟩=some (.int .i64 V.e.size)∧X.cell? ⟨X1.heap.size,3,none⟩=some (.int .i64 V.e.over)):=(fun X hF=>by
             obtain⟨_,_,r2,r3,r4,_⟩:=rU (hF.heap (hD3.each t hm).box hne)
             obtain⟨n0,n1,n2,n3⟩:=iE (hF.heap xe (oN (by omega)))
             exact⟨r2,r3,r4,n0,n1,n2,n3⟩)
           go_region_held3 (fun X=>X.cell? ⟨t.b,2,none⟩=some (.pointer (some ⟨D.β,0,none⟩))∧X.cell? ⟨t.b,3,none⟩=some (.int .i64 t.root)∧X.cell? ⟨t.b,4,none⟩=some (.slice t.ca t.cs.length t.cc)∧X.cell? ⟨X1.heap.size,0,none⟩=some (.string V.e.key)∧X.cell? ⟨X1.heap.size,1,none⟩=some (.string V.e.val)∧X.cell? ⟨X1.heap.size,2,none⟩=some (.int .i64 V.e.size)∧X.cell? ⟨X1.heap.size,3,none⟩=some (.int .i64 V.e.over))
            ((refine HS2.out _ ?_;(first|(with_reducible exact(Fr.refl _ _).drew)|(with_reducible exact Fr.refl _ _)|(with_reducible exact F4)|(with_reducible exact F4'))))
            (first
              | (go_at_call 57;(with_reducible refine jC (HVa.out _ V (HK.out _ ?_).1 hV) ?_);(first|exact B3.drew|exact B3);rintro e X4 ⟨rfl,hX4⟩;have B4:Below w.heap.size w X4:=B3.drew.trans (hX4.mono B3.size);have F4:Fr (Bl.one b3) X3 X4:=(Fr.refl _ X3).drew.trans (Fr.of_below hX4);have F4':Fr (Bl.one b3) X3 (X4.setCell ⟨b3,0,none⟩ (.string ⟨V.value.toArray⟩)):=F4.setCell (p:=⟨b3,0,none⟩) (.inl rfl) _;obtain⟨_,_,_,_,_,_,_,y4⟩:=HK.out X4 B4;have c4:=dG y4;have g4:=aF y4)))
      all_goals go_wp2
      all_goals go_ret
      all_goals exact⟨0,rfl,(Fr.of_below B4:Fr (Bl.one b3) w X4).setCell (p:=⟨b3,0,none⟩) (.inl rfl) _,_,(by simpa using aD y4 0 (.string ⟨V.value.toArray⟩)),.inr ⟨_,HSE.out,rfl,rfl⟩⟩
theorem qDk (D:Db) (x:Int) (i:Nat) (t:Tx) (o:Option (Nat×T)) (key:ByteArray) (w:World) (h:aN w 0 D) (hal:(D.fs.life==0)=false) (hro:bJ D.fs t.root o) (hfl:gS o) (hn:D.ts.length≤1000) (hi:i<D.ts.length) (ht:D.ts[i]=t) (hx:mU D.ts x=i) (hr:cI t.cs) (hgd:∀ c∈t.cs,c.good) (hcs:t.cs.length≤1000) (hk1:1≤key.size) (hk2:key.size≤24) :
    Calls Tryz.prog 30 #[.pointer (some ⟨D.d,0,none⟩),.int .i64 x,.string key] w fun e w'=>∃ (v:ByteArray) (z:Int),e=.returned (.tuple #[.string v,.int .i64 z])∧aN w' 0 D∧Fr (Bl.one D.d) w w'∧((kW o t.cs key=none∧z=5∧v=⟨#[]⟩)∨∃ l,kW o t.cs key=some l∧z=0∧v=⟨l.toArray⟩):=by
  obtain⟨W1,hW1⟩:=nM ((((w.alloc (.cells #[.pointer (some ⟨D.d,0,none⟩)] 23)).alloc (.cells #[.int .i64 x] 3)).alloc (.cells #[.string key] 9)).alloc (.cells #[.string ⟨#[]⟩] 9))
  have B1:Below w.heap.size w W1:=hW1▸(((bA _ _).alloc (by simp) _).alloc (by simp;omega) _).alloc (by simp;omega) _
  have x0:W1.heap[w.heap.size]?=some (.cells #[.pointer (some ⟨D.d,0,none⟩)] 23):=hW1▸aB _ (aB _ (aB _ (aA w _)))
  have x1:W1.heap[w.heap.size+1]?=some (.cells #[.int .i64 x] 3):=by
    rw [← hW1];refine aB _ (aB _ ?_);have:=aA (w.alloc (.cells #[.pointer (some ⟨D.d,0,none⟩)] 23)) (.cells #[.int .i64 x] 3);simpa using this
  have x2:W1.heap[w.heap.size+1+1]?=some (.cells #[.string key] 9):=by
    rw [← hW1];refine aB _ ?_;have:=aA ((w.alloc (.cells #[.pointer (some ⟨D.d,0,none⟩)] 23)).alloc (.cells #[.int .i64 x] 3)) (.cells #[.string key] 9);simpa using this
  have x3:W1.heap[w.heap.size+1+1+1]?=some (.cells #[.string ⟨#[]⟩] 9):=by
    rw [← hW1];have:=aA (((w.alloc (.cells #[.pointer (some ⟨D.d,0,none⟩)] 23)).alloc (.cells #[.int .i64 x] 3)).alloc (.cells #[.string key] 9)) (.cells #[.string ⟨#[]⟩] 9);simpa using this
  have h1:aN W1 0 D:=h.on (vV B1 h.lies)
  have dlt:=(gL h.box)
  have l3:=(gL x3)
  have c0:=dG x0
  have hFc:=Ih D 56 #[] #[.pointer (some ⟨w.heap.size,0,none⟩),.pointer (some ⟨w.heap.size+1,0,none⟩),.pointer (some ⟨w.heap.size+1+1,0,none⟩),.pointer (some ⟨w.heap.size+1+1+1,0,none⟩)] (enters_of Tryz.func56 (by kernel_rfl) rfl) W1 h1 (Bl.one (w.heap.size+1+1+1)) (qGh o t.cs key (w.heap.size+1+1+1)) (fun k hk=>by
    simp only [Bl.one] at hk;subst hk
    exact⟨fun hf=>by have:=h.lies _ hf;omega,l3⟩) (by
    intro W0 hD0 hF0 hs0
    have nd:∀ k,w.heap.size≤k→¬ Bl.one D.d k:=fun k hk e=>by simp only [Bl.one] at e;omega
    exact qAv D x i t o key _ _ _ _ W0 hD0 hal hro hfl hn hi ht hx hr hgd hcs hk1 hk2 (hF0.heap x0 (nd _ (by omega))) (hF0.heap x1 (nd _ (by omega))) (hF0.heap x2 (nd _ (by omega))) (hF0.heap x3 (nd _ (by omega)))) (by
    rintro z W k v ⟨v',g1,g2⟩ hk
    refine⟨v',?_,g2⟩
    exact(Fr.setCell (Fr.refl (Bl.one k) W) (p:=⟨k,0,none⟩) (.inl rfl) v).heap g1 (oN (by omega)))
  have hset:W1.setCell ⟨w.heap.size+1+1+1,0,none⟩ (.string ⟨#[]⟩)=W1:=eO x3 rfl
  have c3:=dG x3
  have fz3:=aF x3 0
  clear x0 x1 x2 x3
  go_enter Tryz.func30,Tryz.ntmps30
  go_wp2_with (go_at_call 35;(with_reducible refine jC hFc ?_);rintro e X ⟨z,rfl,hD',hF',v,hv,hR⟩;have cv:=dG hv)
  go_ret2
  refine⟨v,z,rfl,hD',(Fr.of_below B1:Fr (Bl.one D.d) w W1).grow hF' (fun k hk=>?_),hR⟩
  rcases hk with hk|hk
  · exact .inl hk
  · simp only [Bl.one] at hk;exact .inr (by omega)
def qEj (xs:List En) (p B:Nat) (z:Int) (W:World):Prop :=
 z=0∧∃ v,W.heap[p]?=some (.cells #[v] 56)∧W.ownsRow 0 60 2 v xs.length (fZ xs)∧∀ k,v.ownBlock=some k→B<k
theorem Vj (D:Db) (x:Int) (i:Nat) (t:Tx) (o:Option (Nat×T)) (q:Sp) (most:Nat) (b0 b1 b2 b3 b4 b5 B:Nat) (w:World) (h:aN w 1 D) (hal:(D.fs.life==0)=false) (hro:bJ D.fs t.root o) (hfl:gS o) (hn:D.ts.length≤1000) (hi:i<D.ts.length) (ht:D.ts[i]=t) (hx:mU D.ts x=i) (hr:cI t.cs) (hgd:∀ c∈t.cs,c.good) (hcs:t.cs.length≤1000) (hlo:q.lo.size≤24) (hhi:q.hi.size≤24) (hsm:(iI o t.cs q).length≤1000000) (hm:most≤9223372036854775807) (hB:B<w.heap.size)
  (x0:w.heap[b0]?=some (.cells #[.pointer (some ⟨D.d,0,none⟩)] 23)) (x1:w.heap[b1]?=some (.cells #[.int .i64 x] 3)) (x2:w.heap[b2]?=some (.cells #[.string q.lo] 9)) (x3:w.heap[b3]?=some (.cells #[.string q.hi] 9)) (x4:w.heap[b4]?=some (.cells #[.int .i64 (most:Nat)] 3)) (x5:w.heap[b5]?=some (.cells #[.slice none 0 0] 56)) :
  Calls Tryz.prog 52 #[.pointer (some ⟨b0,0,none⟩),.pointer (some ⟨b1,0,none⟩),.pointer (some ⟨b2,0,none⟩),.pointer (some ⟨b3,0,none⟩),.pointer (some ⟨b4,0,none⟩),.pointer (some ⟨b5,0,none⟩)] w fun e w'=>∃ z,e=.returned (.int .i64 z)∧Fr (Bl.one b5) w w'∧qEj ((iI o t.cs q).take most) b5 B z w':=by
 obtain⟨ys,hys⟩:=nM ((iI o t.cs q).take most)
 rw [hys]
 have hWr:=pW D 1 x i t w h (by omega) hi ht hx
 have hmem:t∈D.ts:=ht▸List.getElem_mem hi
 have HK:Hid (∀ X,Below w.heap.size w X→aN X 1 D∧X.cell? ⟨b2,0,none⟩=some (.string q.lo)∧X.cell? ⟨b3,0,none⟩=some (.string q.hi)∧X.cell? ⟨b4,0,none⟩=some (.int .i64 (most:Nat))∧X.heap[b5]?=some (.cells #[.slice none 0 0] 56)):=by
  intro X hX
  exact⟨h.on (vV hX h.lies),dG ((hX.block _ (gL x2)).trans x2),dG ((hX.block _ (gL x3)).trans x3),dG ((hX.block _ (gL x4)).trans x4),(hX.block _ (gL x5)).trans x5⟩
 have HFi:Hid (∀ X,aN X 1 D→Calls Tryz.prog 54 #[.pointer (some ⟨t.b,0,none⟩),.string q.lo,.string q.hi,.int .i64 (most:Nat)] X fun e w'=>∃ v,e=.returned v∧w'.ownsRow 0 60 2 v ys.length (fZ ys)∧Below X.heap.size X w'∧∀ k,v.ownBlock=some k→X.heap.size≤k):=fun X hX=>hys▸Xs D.β D.sv D.lv D.fs hal t o hro hfl q most X hX.file (hX.each t hmem) hr hgd hcs hsm hm
 have c0:=dG x0
 have c1:=dG x1
 have hloi:(q.lo.size:Int)≤24:=by omega
 have hhii:(q.hi.size:Int)≤24:=by omega
 have hmi:(0:Int)≤(most:Int):=by omega
 clear hys x0 x1 x2 x3 x4 x5 h ht hx hr hgd hlo hhi
 go_enter Tryz.func52,Tryz.ntmps52
 go_wp2_with (first
  | (go_at_call 53;(with_reducible refine jC hWr ?_);rintro e X1 ⟨rfl,hX1⟩;obtain⟨hD1,d2,d3,d4,y5⟩:=HK.out X1 hX1;have hF1:=HFi.out X1 hD1)
  | (go_at_call 54;(with_reducible refine jC hF1 ?_);rintro e X2 ⟨v,rfl,hrow,hX2,hli⟩;have B2:Below w.heap.size w X2:=hX1.trans (hX2.mono hX1.size);obtain⟨_,_,_,_,z5⟩:=HK.out X2 B2;have e5:=dG z5;have g5:=aF z5;have hne:=aV hrow z5 (by decide);have HR:Hid (X2.ownsRow 0 60 2 v ys.length (fZ ys)):=hrow;obtain⟨va,vc,rfl⟩:=aO hrow;clear hrow))
 go_ret
 refine⟨0,rfl,(Fr.of_below B2:Fr (Bl.one b5) w X2).setCell (p:=⟨b5,0,none⟩) (.inl rfl) _,rfl,_,(by simpa using aD z5 0 (.slice va ys.length vc)),?_,fun k hk=>?_⟩
 ·exact bK HR.out ((On.refl (fun k=>Value.ownBlock _=some k) X2).setCell (p:=⟨b5,0,none⟩) (fun hk=>hne hk) _) (fun k hk=>hk)
 ·have h1:=hli k hk
  have h2:=hX1.size
  omega
theorem Zf (D:Db) (x:Int) (i:Nat) (t:Tx) (o:Option (Nat×T)) (q:Sp) (most:Nat) (w:World) (h:aN w 0 D) (hal:(D.fs.life==0)=false) (hro:bJ D.fs t.root o) (hfl:gS o) (hn:D.ts.length≤1000) (hi:i<D.ts.length) (ht:D.ts[i]=t) (hx:mU D.ts x=i) (hr:cI t.cs) (hgd:∀ c∈t.cs,c.good) (hcs:t.cs.length≤1000) (hlo:q.lo.size≤24) (hhi:q.hi.size≤24) (hsm:(iI o t.cs q).length≤1000000) (hm:most≤9223372036854775807) :
  Calls Tryz.prog 28 #[.pointer (some ⟨D.d,0,none⟩),.int .i64 x,.string q.lo,.string q.hi,.int .i64 (most:Nat)] w fun e w'=>∃ v,e=.returned (.tuple #[v,.int .i64 0])∧aN w' 0 D∧Fr (Bl.one D.d) w w'∧w'.ownsRow 0 60 2 v ((iI o t.cs q).take most).length (fZ ((iI o t.cs q).take most))∧∀ k,v.ownBlock=some k→w.heap.size≤k:=by
 obtain⟨ys,hys⟩:=nM ((iI o t.cs q).take most)
 rw [hys]
 obtain⟨W1,hW1⟩:=nM (((((((w.alloc (.cells #[.pointer (some ⟨D.d,0,none⟩)] 23)).alloc (.cells #[.int .i64 x] 3)).alloc (.cells #[.string q.lo] 9)).alloc (.cells #[.string q.hi] 9)).alloc (.cells #[.int .i64 (most:Nat)] 3)).alloc (.cells #[.slice none 0 0] 56)))
 have B1:Below w.heap.size w W1:=by
  rw [← hW1]
  exact(((((bA _ _).alloc (by simp) _).alloc (by simp;omega) _).alloc (by simp;omega) _).alloc (by simp;omega) _).alloc (by simp;omega) _
 have x0:W1.heap[w.heap.size]?=some (.cells #[.pointer (some ⟨D.d,0,none⟩)] 23):=by
  rw [← hW1]
  refine aB _ ?_
  refine aB _ ?_
  refine aB _ ?_
  refine aB _ ?_
  refine aB _ ?_
  have:=aA w (.cells #[.pointer (some ⟨D.d,0,none⟩)] 23);simpa using this
 have x1:W1.heap[w.heap.size+1]?=some (.cells #[.int .i64 x] 3):=by
  rw [← hW1]
  refine aB _ ?_
  refine aB _ ?_
  refine aB _ ?_
  refine aB _ ?_
  have:=aA (w.alloc (.cells #[.pointer (some ⟨D.d,0,none⟩)] 23)) (.cells #[.int .i64 x] 3);simpa using this
 have x2:W1.heap[w.heap.size+1+1]?=some (.cells #[.string q.lo] 9):=by
  rw [← hW1]
  refine aB _ ?_
  refine aB _ ?_
  refine aB _ ?_
  have:=aA ((w.alloc (.cells #[.pointer (some ⟨D.d,0,none⟩)] 23)).alloc (.cells #[.int .i64 x] 3)) (.cells #[.string q.lo] 9);simpa using this
 have x3:W1.heap[w.heap.size+1+1+1]?=some (.cells #[.string q.hi] 9):=by
  rw [← hW1]
  refine aB _ ?_
  refine aB _ ?_
  have:=aA (((w.alloc (.cells #[.pointer (some ⟨D.d,0,none⟩)] 23)).alloc (.cells #[.int .i64 x] 3)).alloc (.cells #[.string q.lo] 9)) (.cells #[.string q.hi] 9);simpa using this
 have x4:W1.heap[w.heap.size+1+1+1+1]?=some (.cells #[.int .i64 (most:Nat)] 3):=by
  rw [← hW1]
  refine aB _ ?_
  have:=aA ((((w.alloc (.cells #[.pointer (some ⟨D.d,0,none⟩)] 23)).alloc (.cells #[.int .i64 x] 3)).alloc (.cells #[.string q.lo] 9)).alloc (.cells #[.string q.hi] 9)) (.cells #[.int .i64 (most:Nat)] 3);simpa using this
 have x5:W1.heap[w.heap.size+1+1+1+1+1]?=some (.cells #[.slice none 0 0] 56):=by
  rw [← hW1]
  have:=aA (((((w.alloc (.cells #[.pointer (some ⟨D.d,0,none⟩)] 23)).alloc (.cells #[.int .i64 x] 3)).alloc (.cells #[.string q.lo] 9)).alloc (.cells #[.string q.hi] 9)).alloc (.cells #[.int .i64 (most:Nat)] 3)) (.cells #[.slice none 0 0] 56);simpa using this
 have h1:aN W1 0 D:=h.on (vV B1 h.lies)
 have dlt:=(gL h.box)
 have l5:=(gL x5)
 have c0:=dG x0
 have hFc:=Ih D 52 #[] #[.pointer (some ⟨w.heap.size,0,none⟩),.pointer (some ⟨w.heap.size+1,0,none⟩),.pointer (some ⟨w.heap.size+1+1,0,none⟩),.pointer (some ⟨w.heap.size+1+1+1,0,none⟩),.pointer (some ⟨w.heap.size+1+1+1+1,0,none⟩),.pointer (some ⟨w.heap.size+1+1+1+1+1,0,none⟩)] (enters_of Tryz.func52 (by kernel_rfl) rfl) W1 h1 (Bl.one (w.heap.size+1+1+1+1+1)) (qEj ys (w.heap.size+1+1+1+1+1) W1.heap.size) (fun k hk=>by
  simp only [Bl.one] at hk;subst hk
  exact⟨fun hf=>by have:=h.lies _ hf;omega,l5⟩) (by
  intro W0 hD0 hF0 hs0
  have nd:∀ k,w.heap.size≤k→¬ Bl.one D.d k:=fun k hk e=>by simp only [Bl.one] at e;omega
  rw [← hys]
  exact Vj D x i t o q most _ _ _ _ _ _ W1.heap.size W0 hD0 hal hro hfl hn hi ht hx hr hgd hcs hlo hhi hsm hm hs0 (hF0.heap x0 (nd _ (by omega))) (hF0.heap x1 (nd _ (by omega))) (hF0.heap x2 (nd _ (by omega))) (hF0.heap x3 (nd _ (by omega))) (hF0.heap x4 (nd _ (by omega))) (hF0.heap x5 (nd _ (by omega)))) (by
  rintro z W k u ⟨rfl,v,g1,g2,g3⟩ hk
  refine⟨rfl,v,?_,?_,g3⟩
  ·exact(Fr.setCell (Fr.refl (Bl.one k) W) (p:=⟨k,0,none⟩) (.inl rfl) u).heap g1 (oN (by omega))
  ·exact bK g2 ((On.refl (fun k=>v.ownBlock=some k) W).setCell (p:=⟨k,0,none⟩) (fun hk'=>by have:=g3 k hk';omega) u) (fun k hk=>hk))
 clear hys x0 x1 x2 x3 x4
 go_enter Tryz.func28,Tryz.ntmps28
 go_wp2_with (go_at_call 35;(with_reducible refine jC hFc ?_);rintro e X ⟨z,rfl,hD',hF',rfl,v,hv,hrow,hli⟩;have cv:=dG hv;have HR:Hid (X.ownsRow 0 60 2 v ys.length (fZ ys)):=hrow;obtain⟨va,vc,rfl⟩:=aO hrow;clear hrow)
 go_ret2
 refine⟨_,rfl,hD',(Fr.of_below B1:Fr (Bl.one D.d) w W1).grow hF' (fun k hk=>?_),HR.out,fun k hk=>by have:=hli k hk;have:=B1.size;omega⟩
 rcases hk with hk|hk
 ·exact .inl hk
 ·simp only [Bl.one] at hk;exact .inr (by omega)
theorem Zg (D:Db) (x:Int) (i:Nat) (t:Tx) (o:Option (Nat×T)) (q:Sp) (most:Nat) (w:World) (h:aN w 0 D) (hal:(D.fs.life==0)=false) (hro:bJ D.fs t.root o) (hfl:gS o) (hn:D.ts.length≤1000) (hi:i<D.ts.length) (ht:D.ts[i]=t) (hx:mU D.ts x=i) (hr:cI t.cs) (hgd:∀ c∈t.cs,c.good) (hcs:t.cs.length≤1000) (hlo:q.lo.size≤24) (hhi:q.hi.size≤24) (hlt:(iI o t.cs q).length<most) (hm:most≤1000000) :
  Calls Tryz.prog 28 #[.pointer (some ⟨D.d,0,none⟩),.int .i64 x,.string q.lo,.string q.hi,.int .i64 (most:Nat)] w fun e w'=>∃ v,e=.returned (.tuple #[v,.int .i64 0])∧aN w' 0 D∧Fr (Bl.one D.d) w w'∧w'.ownsRow 0 60 2 v (iI o t.cs q).length (fZ (iI o t.cs q))∧∀ k,v.ownBlock=some k→w.heap.size≤k:=by
 have:=Zf D x i t o q most w h hal hro hfl hn hi ht hx hr hgd hcs hlo hhi (by omega) (by omega)
 rw [List.take_of_length_le (Nat.le_of_lt hlt)] at this
 exact this
structure Sk (K:List ByteArray) (n:Nat) (Kp:Bl) (w wq:World) (D:Db) (j m:Nat) (o ao:Option (Nat×T)):Prop where
 db:aN wq 0 D
 well:D.fs.well
 failed:D.failed=false
 ver:D.ver=j
 root:D.root=rootOf o
 aroot:D.aroot=rootOf ao
 last0:0≤D.last
 last1:D.last≤(m:Nat)
 store:dV K n D.fs j o ao
 new:∀ k,fpD D k→¬ Kp k
 kept:On Kp w wq
 lies:∀ k,Kp k→k<w.heap.size
theorem Sk.on {w wq w':World}    (h:Sk K n Kp w wq D j m o ao) {Y:Bl} (hF:Fr Y wq w') (hY:∀ k,Y k→¬ Kp k):On Kp w w' :=
 h.kept.trans (hF.on (fun k hk=>⟨jY (h.lies k hk) h.kept.size,fun hy=>hY k hy hk⟩))
theorem Sk.grows {D D':Db}   (h:Sk K n Kp w wq D j m o ao) (hG:aJ wq (fpD D) (fpD D')):∀ k,fpD D' k→¬ Kp k:=fun k hk hp=>by
 rcases hG k hk with h1|h1
 ·exact h.new k h1 hp
 ·have:=h.lies k hp
  have:=h.kept.size
  omega
def SkL (K:List ByteArray) (n:Nat) (Kp:Bl) (w wq:World) (d b j m:Nat) (o ao:Option (Nat×T)):Prop:=∃ D,Sk K n Kp w wq D j m o ao∧D.ts=[]∧D.d=d∧D.β=b
def SkO (K:List ByteArray) (n:Nat) (Kp:Bl) (w wq:World) (d b j m:Nat) (o ao:Option (Nat×T)) (wr:Bool) (x:Int) (cs:List Ch):Prop:=∃ D,Sk K n Kp w wq D j m o ao∧(∃ t,D.ts=[t]∧t.num=x∧t.wr=wr∧t.root=rootOf o∧t.cs=cs∧t.ks=[])∧D.d=d∧D.β=b
theorem Km (h:SkL K n Kp w wq d b j m o ao) (wr:Bool) (hm:m≤1000000) :
  Calls Tryz.prog 18 #[.pointer (some ⟨d,0,none⟩),.bool wr] wq fun e w'=>∃ x,e=.returned (.tuple #[.int .i64 x,.int .i64 0])∧SkO K n Kp w w' d b j (m+1) o ao wr x []:=by
 obtain⟨D,h,hi,rfl,rfl⟩:=h
 have h1:=h.last0
 have h2:=h.last1
 refine(xT D wr wq h.db (by rw [hi];simp) h1 (by omega)).mono ?_
 rintro e w' ⟨rfl,b,ov',hD,hF,hb,hov⟩
 rw [hi,jE] at hD
 have hs:=h.kept.size
 refine⟨_,rfl,_,⟨hD,h.well,h.failed,h.ver,h.root,h.aroot,by show 0≤D.last+1;omega,by show D.last+1≤((m+1:Nat):Int);omega,h.store,?_,h.on hF h.new,h.lies⟩,⟨_,rfl,rfl,rfl,h.root,rfl,rfl⟩,rfl,rfl⟩
 rintro k (hk|hk|hk|⟨y,hy,hk⟩) hp
 ·exact h.new k (.inl hk) hp
 ·exact h.new k (.inr (.inl hk)) hp
 ·rcases hov k hk with h'|h'
  ·exact h.new k (.inr (.inr (.inl h'))) hp
  ·have:=h.lies k hp;omega
 ·rw [List.mem_singleton] at hy
  subst hy
  have:=rG hk
  have:=h.lies k hp
  omega
theorem qFu (h:SkO K n Kp w wq d b j m o ao true x cs) (key val:ByteArray) (hr:cI cs) (hn:cs.length≤1000) (hk1:1≤key.size) (hk2:key.size≤24) (hv:val.size≤400) :
  Calls Tryz.prog 23 #[.pointer (some ⟨d,0,none⟩),.int .i64 x,.string key,.string val] wq fun e w'=>e=.returned (.int .i64 0)∧SkO K n Kp w w' d b j m o ao true x (bM cs ⟨key,val,false⟩):=by
 obtain⟨D,h,⟨t,hts,hx,hwr,htr,hcs,hks⟩,rfl,rfl⟩:=h
 subst hcs
 have hti:D.ts[0]'(by rw [hts];simp)=t:=by simp [hts]
 refine(Jj D x 0 t key val wq h.db (by rw [hts];simp) (by rw [hts];simp) hti (by rw [hts];exact kL (j:=0) (by simp) (by simp [hx]) (fun m hm h=>by omega)) hwr hr hn hk1 hk2 hv).mono ?_
 rintro e w' ⟨rfl,ca',cc',hD,hF,hG⟩
 refine⟨rfl,_,⟨hD,h.well,h.failed,h.ver,h.root,h.aroot,h.last0,h.last1,h.store,h.grows hG,h.on hF h.new,h.lies⟩,⟨{ t with cs:=bM t.cs ⟨key,val,false⟩,ca:=ca',cc:=cc' },?_,hx,hwr,htr,rfl,hks⟩,rfl,rfl⟩
 show D.ts.set 0 _=[_]
 rw [hts];rfl
theorem qEg (h:SkO K n Kp w wq d b j m o ao true x cs) (key:ByteArray) (hr:cI cs) (hn:cs.length≤1000) (hk1:1≤key.size) (hk2:key.size≤24) :
  Calls Tryz.prog 25 #[.pointer (some ⟨d,0,none⟩),.int .i64 x,.string key] wq fun e w'=>∃ z cs',e=.returned (.int .i64 z)∧SkO K n Kp w w' d b j m o ao true x cs'∧((dZ o cs key=true∧z=0∧cs'=bM cs ⟨key,⟨#[]⟩,true⟩)∨(dZ o cs key=false∧z=5∧cs'=cs)):=by
 obtain⟨D,h,⟨t,hts,hx,hwr,htr,hcs,hks⟩,rfl,rfl⟩:=h
 subst hcs
 have hti:D.ts[0]'(by rw [hts];simp)=t:=by simp [hts]
 refine(uE D x 0 t o key wq h.db (Fs.well_alive h.well) (htr▸h.store.sure.rooted) (by rw [hts];simp) (by rw [hts];simp) hti (by rw [hts];exact kL (j:=0) (by simp) (by simp [hx]) (fun m hm h=>by omega)) hwr hr hn hk1 hk2).mono ?_
 rintro e w' ⟨z,D',rfl,hD,hd,hF,hG,hR⟩
 rcases hR with⟨h1,h2,ca',cc',rfl⟩|⟨h1,h2,rfl⟩
 ·refine⟨z,_,rfl,⟨_,⟨hD,h.well,h.failed,h.ver,h.root,h.aroot,h.last0,h.last1,h.store,h.grows hG,h.on hF h.new,h.lies⟩,⟨{ t with cs:=bM t.cs ⟨key,⟨#[]⟩,true⟩,ca:=ca',cc:=cc' },?_,hx,hwr,htr,rfl,hks⟩,rfl,rfl⟩,.inl ⟨h1,h2,rfl⟩⟩
  show D.ts.set 0 _=[_]
  rw [hts];rfl
 ·exact⟨z,_,rfl,⟨_,⟨hD,h.well,h.failed,h.ver,h.root,h.aroot,h.last0,h.last1,h.store,h.new,h.on hF h.new,h.lies⟩,⟨t,hts,hx,hwr,htr,rfl,hks⟩,rfl,rfl⟩,.inr ⟨h1,h2,rfl⟩⟩
theorem qEf (h:SkO K n Kp w wq d b j m o ao wr x cs) (hc:lT K cs) (key:ByteArray) (hk1:1≤key.size) (hk2:key.size≤24) :
  Calls Tryz.prog 30 #[.pointer (some ⟨d,0,none⟩),.int .i64 x,.string key] wq fun e w'=>∃ (v:ByteArray) (z:Int),e=.returned (.tuple #[.string v,.int .i64 z])∧SkO K n Kp w w' d b j m o ao wr x cs∧Fr (Bl.one d) wq w'∧((kW o cs key=none∧z=5∧v=⟨#[]⟩)∨∃ l,kW o cs key=some l∧z=0∧v=⟨l.toArray⟩):=by
 obtain⟨D,h,⟨t,hts,hx,hwr,htr,hcs,hks⟩,rfl,rfl⟩:=h
 subst hcs
 have hti:D.ts[0]'(by rw [hts];simp)=t:=by simp [hts]
 refine(qDk D x 0 t o key wq h.db (Fs.well_alive h.well) (htr▸h.store.sure.rooted) h.store.sure.flat (by rw [hts];simp) (by rw [hts];simp) hti (by rw [hts];exact kL (j:=0) (by simp) (by simp [hx]) (fun m hm h=>by omega)) hc.rise hc.good hc.len hk1 hk2).mono ?_
 rintro e w' ⟨v,z,rfl,hD,hF,hR⟩
 exact⟨v,z,rfl,⟨D,⟨hD,h.well,h.failed,h.ver,h.root,h.aroot,h.last0,h.last1,h.store,h.new,h.on hF (fun k hk=>h.new k (.inl hk)),h.lies⟩,⟨t,hts,hx,hwr,htr,rfl,hks⟩,rfl,rfl⟩,hF,hR⟩
theorem qEs (h:SkO K n Kp w wq d b j m o ao wr x cs) (hc:lT K cs) (q:Sp) (most:Nat) (hlo:q.lo.size≤24) (hhi:q.hi.size≤24) (hlt:(iI o cs q).length<most) (hm:most≤1000000) :
  Calls Tryz.prog 28 #[.pointer (some ⟨d,0,none⟩),.int .i64 x,.string q.lo,.string q.hi,.int .i64 (most:Nat)] wq fun e w'=>∃ v,e=.returned (.tuple #[v,.int .i64 0])∧SkO K n Kp w w' d b j m o ao wr x cs∧Fr (Bl.one d) wq w'∧w'.ownsRow 0 60 2 v (iI o cs q).length (fZ (iI o cs q))∧∀ k,v.ownBlock=some k→wq.heap.size≤k:=by
 obtain⟨D,h,⟨t,hts,hx,hwr,htr,hcs,hks⟩,rfl,rfl⟩:=h
 subst hcs
 have hti:D.ts[0]'(by rw [hts];simp)=t:=by simp [hts]
 refine(Zg D x 0 t o q most wq h.db (Fs.well_alive h.well) (htr▸h.store.sure.rooted) h.store.sure.flat (by rw [hts];simp) (by rw [hts];simp) hti (by rw [hts];exact kL (j:=0) (by simp) (by simp [hx]) (fun m hm h=>by omega)) hc.rise hc.good hc.len hlo hhi hlt hm).mono ?_
 rintro e w' ⟨v,rfl,hD,hF,hrow,hli⟩
 exact⟨v,rfl,⟨D,⟨hD,h.well,h.failed,h.ver,h.root,h.aroot,h.last0,h.last1,h.store,h.new,h.on hF (fun k hk=>h.new k (.inl hk)),h.lies⟩,⟨t,hts,hx,hwr,htr,rfl,hks⟩,rfl,rfl⟩,hF,hrow,hli⟩
theorem qGa (hK:KOk K n)        (h:SkO K n Kp w wq d b j m o ao wr x cs) (hc:lT K cs) (hne:0<cs.length) (hj:j≤1000000) :
  Calls Tryz.prog 26 #[.pointer (some ⟨d,0,none⟩),.int .i64 x] wq fun e w'=>e=.returned (.int .i64 0)∧∃ o1,SkL K n Kp w w' d b (j+1) m o1 o∧(cQ o1).map En.kv=(bD (cQ o) cs).map En.kv:=by
 obtain⟨D,h,⟨t,hts,hx,hwr,htr,hcs,hks⟩,rfl,rfl⟩:=h
 subst hcs
 obtain⟨hP,_⟩:=Ai (K:=K) (n:=n) (fs:=D.fs) (o:=o) (cs:=t.cs) (os:=[o,ao]) h.store.len hK.small (fun o' ho'=>by
  rcases List.mem_cons.1 ho' with rfl|ho'
  ·exact h.store.sure
  ·rw [List.mem_singleton] at ho';subst ho';exact h.store.ahead) (by simp) hc.rise hc.good hc.keys hK.k24 hK.ksum (by simp only [jB,jN];exact hK.room)
 have hlen:=h.store.len
 have hn40:=hK.n40
 rw [← hlen] at hP
 have hP':nK K n D.fs o t.cs (eJ D.fs.safe.length (dF [o,ao])):=by rw [hlen] at hP ⊢;exact hP
 obtain⟨c1,c2,c3,c4,c5⟩:=gM h.store hP' (by omega) (by omega)
 refine(Uj D x j o ao t wq h.db hts hx hne hks hc.len h.well h.failed h.ver (by omega) h.store (by omega) h.root h.aroot hP').mono ?_
 rintro e w' ⟨z,D',rfl,hD,hd,hF,hG,rfl,g,c,lv',hov,rfl⟩
 exact⟨rfl,_,⟨_,⟨hD,h.well,h.failed,rfl,rfl,h.root,h.last0,h.last1,c1,h.grows hG,h.on hF h.new,h.lies⟩,rfl,rfl,rfl⟩,c4⟩
theorem qEb (h:Sk K n Kp w wq D j m o ao) :
  Calls Tryz.prog 17 #[.pointer (some ⟨D.d,0,none⟩)] wq fun e w'=>e=.returned (.int .i64 (j:Nat))∧Sk K n Kp w w' D j m o ao:=by
 refine(qO D wq h.db).mono ?_
 rintro e w' ⟨rfl,hD,hF⟩
 exact⟨by rw [h.ver],hD,h.well,h.failed,h.ver,h.root,h.aroot,h.last0,h.last1,h.store,h.new,h.on hF (fun k hk=>hk.elim),h.lies⟩
theorem Sk.make (h:Sk K n Kp w wq D j m o ao) (ob:Obj):Sk K n (Bl.or Kp (Bl.one wq.heap.size)) (wq.alloc ob) (wq.alloc ob) D j m o ao:=by
 have hb:Below wq.heap.size wq (wq.alloc ob):=bA _ _
 have hs:=h.kept.size
 refine⟨h.db.on (vV hb h.db.lies),h.well,h.failed,h.ver,h.root,h.aroot,h.last0,h.last1,h.store,?_,On.refl _ _,?_⟩
 ·rintro k hk (hp|hp)
  ·exact h.new k hk hp
  ·simp only [Bl.one] at hp;have:=h.db.lies k hk;omega
 ·rintro k (hp|hp)
  ·have:=h.lies k hp;simp;omega
  ·simp only [Bl.one] at hp;subst hp;simp
theorem zK (d:Nat) (β:Nat) (t:Tx) (w:World) (hT:eF w β t) (hcs:t.cs=[]) :
  Calls Tryz.prog 51 #[.pointer (some ⟨d,0,none⟩),.pointer (some ⟨t.b,0,none⟩)] w fun e w'=>e=.returned (.int .i64 0)∧w'=w:=by
 obtain⟨q0,q1,q2,q3,q4,q5⟩:=rU hT.box
 have hl:t.cs.length=0:=by rw [hcs];rfl
 rw [Tx.cv,hl] at q4
 clear hT hcs hl
 go_enter Tryz.func51,Tryz.ntmps51
 go_wp2
 go_ret
 exact⟨rfl,rfl⟩
def qGi (D:Db) (z:Int) (D':Db):Prop:=z=0∧∃ g c,D.ov=.slice (some ⟨g,0,none⟩) 1 c∧D' = { D with ov:=.slice (some ⟨g,0,none⟩) 0 c,ts:=[] }
theorem Oq (D:Db) (x:Int) (t:Tx) (w:World) (h:aN w 0 D) (hts:D.ts=[t]) (hx:t.num=x) (hcs:t.cs=[]) :
  Calls Tryz.prog 26 #[.pointer (some ⟨D.d,0,none⟩),.int .i64 x] w fun e w'=>∃ z D',e=.returned (.int .i64 z)∧aN w' 0 D'∧D'.d=D.d∧Fr (fpD D) w w'∧aJ w (fpD D) (fpD D')∧qGi D z D':=by
 refine qFl D x t w h hts hx _ (fun X g c hov hX hTX=>?_)
 refine(zK D.d D.β t X hTX hcs).mono ?_
 rintro e w' ⟨rfl,rfl⟩
 exact⟨0,_,rfl,hX,rfl,rfl,rfl,rfl,rfl,Fr.refl _ _,aJ.refl _ _,rfl,g,c,hov,rfl⟩
theorem qBr (h:SkO K n Kp w wq d b j m o ao wr x []) :
  Calls Tryz.prog 26 #[.pointer (some ⟨d,0,none⟩),.int .i64 x] wq fun e w'=>e=.returned (.int .i64 0)∧SkL K n Kp w w' d b j m o ao:=by
 obtain⟨D,h,⟨t,hts,hx,hwr,htr,hcs,hks⟩,rfl,rfl⟩:=h
 refine(Oq D x t wq h.db hts hx hcs).mono ?_
 rintro e w' ⟨z,D',rfl,hD,hd,hF,hG,rfl,g,c,hov,rfl⟩
 exact⟨rfl,_,⟨hD,h.well,h.failed,h.ver,h.root,h.aroot,h.last0,h.last1,h.store,h.grows hG,h.on hF h.new,h.lies⟩,rfl,rfl,rfl⟩
abbrev whole:Sp:=⟨⟨#[]⟩,⟨#[]⟩⟩
theorem Ga (k:ByteArray):whole.has k=true:=by
 simp only [whole,Sp.has,Bool.and_eq_true,fH]
 exact⟨Cl k,.inl trivial⟩
theorem Vi {fs:Fs} {root:Nat}  (hro:bJ fs root o) (cs:List Ch):iI o cs whole=bD (cQ o) cs:=by
 unfold iI
 rw [tO hro,List.filter_eq_self.2 (fun x _=>Ga _)]
 unfold eH
 rw [List.filter_eq_self.2 (fun c _=>Ga _)]
structure Told (xs:List En) (th:List Bool) (vs:List ByteArray):Prop where
 lt:th.length=12
 lv:vs.length=12
 rise:cR xs
 keys:∀ x∈xs,x.e.key∈aQ
 tells:∀ k (hk:k<12),valOf xs (aQ[k]'hk)=if th[k]'(by omega) then some (vs[k]'(by omega)).data.toList else none
 neat:∀ k (hk:k<12),th[k]'(by omega)=false→vs[k]'(by omega)=⟨#[]⟩
theorem told_none:Told [] (List.replicate 12 false) (List.replicate 12 ⟨#[]⟩):=⟨by simp,by simp,.nil,by simp,fun k hk=>by
  rw [show (List.replicate 12 false)[k]'(by simpa using hk)=false from List.getElem_replicate _]
  rfl,fun k hk _=>List.getElem_replicate _⟩
theorem Yq (h:xs.map En.kv=ys.map En.kv) (k:ByteArray):valOf xs k=valOf ys k:=by
 have key:∀ l:List En,valOf l k=((l.map En.kv).find? (fun p=>decide (p.1=k))).map (·.2):=fun l=>by
  unfold valOf
  rw [List.find?_map,Option.map_map]
  rfl
 rw [key,key,h]
theorem qDf (h:xs.map En.kv=ys.map En.kv):xs.map (fun x=>x.e.key)=ys.map (fun x=>x.e.key):=by
 have:∀ l:List En,l.map (fun x=>x.e.key)=(l.map En.kv).map (·.1):=fun l=>by simp [En.kv]
 rw [this,this,h]
theorem Told.kv {th:List Bool} {vs:List ByteArray} (h:Told xs th vs) (he:ys.map En.kv=xs.map En.kv) (hr:cR ys):Told ys th vs:=by
 refine⟨h.lt,h.lv,hr,fun x hx=>?_,fun k hk=>by rw [Yq he];exact h.tells k hk,h.neat⟩
 have h1:x.e.key∈ys.map (fun x=>x.e.key):=List.mem_map_of_mem hx
 rw [qDf he] at h1
 obtain⟨y,hy,e⟩:=List.mem_map.1 h1
 rw [← e]
 exact h.keys y hy
theorem key_inj:∀ i (hi:i<12) j (hj:j<12),aQ[i]'hi=aQ[j]'hj→i=j:=by
 intro i hi j hj h
 have hn:aQ.Nodup:=by decide +kernel
 exact(List.getElem_inj (h₀:=hi) (h₁:=hj) hn).1 h
theorem Told.change {es:List En}  {th:List Bool} {vs:List ByteArray} (he:cR es) (hr:cI cs) (h:Told (bD es cs) th vs) (k:Nat) (hk:k<12) (v:ByteArray) (g:Bool) (hg:g=true→v=⟨#[]⟩) :
  Told (bD es (bM cs ⟨aQ[k]'hk,v,g⟩)) (th.set k (!g)) (vs.set k v):=by
 have hw:=Fz hr ⟨aQ[k]'hk,v,g⟩
 refine⟨by simpa using h.lt,by simpa using h.lv,jG he hw,fun x hx=>?_,fun j hj=>?_,fun j hj hf=>?_⟩
 ·rcases (dJ he hw x).1 hx with⟨c,hc,hg,rfl⟩|⟨hx1,hx2⟩
  ·rcases (fJ hr _ c).1 hc with rfl|⟨hc1,hc2⟩
   ·exact cL k hk
   ·exact h.keys _ ((dJ he hr _).2 (.inl ⟨c,hc1,hg,rfl⟩))
  ·refine h.keys x ((dJ he hr x).2 (.inr ⟨hx1,fun c hc e=>?_⟩))
   by_cases hck:c.key=aQ[k]'hk
   ·exact hx2 _ ((fJ hr _ _).2 (.inl rfl)) (by rw [← e,hck])
   ·exact hx2 c ((fJ hr _ c).2 (.inr ⟨hc,hck⟩)) e
 ·have ht:=h.tells j hj
  rw [Cd he hr] at ht
  rw [Cd he hw]
  by_cases hjk:j=k
  ·subst hjk
   have hf:(bM cs ⟨aQ[j]'hj,v,g⟩).find? (fun c=>decide (c.key=aQ[j]'hj))=some ⟨aQ[j]'hj,v,g⟩:=by
    cases hq:(bM cs ⟨aQ[j]'hj,v,g⟩).find? (fun c=>decide (c.key=aQ[j]'hj)) with
    | none=>have:=List.find?_eq_none.1 hq _ ((fJ hr _ _).2 (.inl rfl));simp at this
    | some c =>
     have a1:=List.mem_of_find?_eq_some hq
     have a2:c.key=aQ[j]'hj:=by simpa using List.find?_some hq
     rcases (fJ hr _ c).1 a1 with rfl|⟨_,hc2⟩
     ·rfl
     ·exact absurd a2 hc2
   rw [hf]
   cases g<;>simp
  ·have hne:aQ[k]'hk≠aQ[j]'hj:=fun e=>hjk (key_inj _ hk _ hj e).symm
   have hf:(bM cs ⟨aQ[k]'hk,v,g⟩).find? (fun c=>decide (c.key=aQ[j]'hj))=cs.find? (fun c=>decide (c.key=aQ[j]'hj)):=by
    cases hq:cs.find? (fun c=>decide (c.key=aQ[j]'hj)) with
    | none =>
     refine List.find?_eq_none.2 fun c hc=>?_
     rcases (fJ hr _ c).1 hc with rfl|⟨hc1,_⟩
     ·simpa using hne
     ·exact List.find?_eq_none.1 hq c hc1
    | some d =>
     have d1:=List.mem_of_find?_eq_some hq
     have d2:d.key=aQ[j]'hj:=by simpa using List.find?_some hq
     cases hq2:(bM cs ⟨aQ[k]'hk,v,g⟩).find? (fun c=>decide (c.key=aQ[j]'hj)) with
     | none=>have:=List.find?_eq_none.1 hq2 d ((fJ hr _ d).2 (.inr ⟨d1,fun e=>hne (e.symm.trans d2)⟩));simp [d2] at this
     | some c =>
      have c1:=List.mem_of_find?_eq_some hq2
      have c2:c.key=aQ[j]'hj:=by simpa using List.find?_some hq2
      rcases (fJ hr _ c).1 c1 with rfl|⟨c3,_⟩
      ·exact absurd c2 hne
      ·obtain⟨i1,hi1,rfl⟩:=List.getElem_of_mem c3
       obtain⟨i2,hi2,rfl⟩:=List.getElem_of_mem d1
       rcases Nat.lt_trichotomy i1 i2 with hh|hh|hh
       ·have:=List.pairwise_iff_getElem.1 hr i1 i2 hi1 hi2 hh
        rw [c2,d2,bU] at this;cases this
       ·subst hh;rfl
       ·have:=List.pairwise_iff_getElem.1 hr i2 i1 hi2 hi1 hh
        rw [c2,d2,bU] at this;cases this
   rw [hf,ht]
   simp [List.getElem_set,Ne.symm hjk]
 ·rw [List.getElem_set] at hf ⊢
  split
  ·rename_i e
   rw [if_pos e] at hf
   exact hg (by simpa using hf)
  ·rename_i e
   rw [if_neg e] at hf
   exact h.neat j hj hf
def Hi:List Int:=[0,1,5,60,61,240,241,400]
theorem Qs:∀ n∈Hi,0≤n∧n≤400:=by decide
theorem kM (c d:Int) (hd:0<d) (h0 : -9223372036854775808≤c) (h1:c≤9223372036854775807) : -9223372036854775808≤c.tdiv d∧c.tdiv d≤9223372036854775807:=by
 rcases Int.lt_or_le c 0 with h|h
 ·obtain⟨e,rfl⟩:∃ e:Int,c = -e:=⟨-c,by omega⟩
  rw [Int.neg_tdiv,Int.tdiv_eq_ediv_of_nonneg (by omega)]
  have a:=Int.ediv_nonneg (a:=e) (b:=d) (by omega) (by omega)
  have b:=Int.ediv_le_self (a:=e) d (by omega)
  omega
 ·rw [Int.tdiv_eq_ediv_of_nonneg h]
  have a:=Int.ediv_nonneg (a:=c) (b:=d) h (by omega)
  have b:=Int.ediv_le_self (a:=c) d h
  omega
theorem Wq (n:Nat):(madeCells (Value.int .u8 0).cells (n * 1)).toList=Lib.byteCells (List.replicate n 0):=by
 apply List.ext_getElem
 ·simp [madeCells,Lib.byteCells]
 ·intro i h1 h2
  simp [madeCells,Value.cells,Nat.mod_one,Lib.byteCells]
theorem Qo (W:World) (n:Nat) (hn:n≤1000000):∃ w1,(Instr.makeSlice 115 (.int .i64 n) (.int .i64 n)).run Tryz.prog W=.ok (.slice (some ⟨W.heap.size,0,none⟩) n n) w1∧w1.ownsRow 0 5 1 (.slice (some ⟨W.heap.size,0,none⟩) n n) n (Lib.byteCells (List.replicate n 0))∧Below W.heap.size W w1:=by
 obtain⟨i0,hi,hz0,hz1,hz2⟩:=Hx
 obtain⟨w1,hmk,hown,hg⟩:=run_makeSlice_full (P:=Tryz.prog) W 0 115 5 i0 (.int .u8 0) 1 Tryz.underlying115 hi hz0 hz1 .i64 .i64 n (by omega) (by rw [hz2];omega) (by unfold maxLen;omega) (Nat.zero_le _)
 rw [Wq] at hown
 exact⟨w1,hmk,hown,hg.os,hg.tape,hg.output,hg.size,fun k hk=>hg.block k hk (by simp)⟩
theorem Qy (c:Int) (w:World) (h0 : -9223372036854775808≤c) (h1:c≤9223372036854775807) :
  Calls Tryz.prog 40 #[.int .i64 c] w fun e w'=>∃ v:ByteArray,e=.returned (.string v)∧v.size≤400∧Below w.heap.size w w':=by
 obtain⟨m,hm⟩:∃ m:Nat,kB c 8=m:=⟨(kB c 8).toNat,(Int.toNat_of_nonneg (dI c 8 (by omega)).1).symm⟩
 have hm8:m<8:=by have:=(dI c 8 (by omega)).2;omega
 have hr:=Qs _ (List.getElem_mem hm8)
 obtain⟨n,hn⟩:∃ n:Nat,Hi[m]'hm8=n:=⟨_,(Int.toNat_of_nonneg hr.1).symm⟩
 have hn4:n≤400:=by rw [hn] at hr;omega
 clear hr
 obtain⟨W1,hW1⟩:=nM (w.alloc (.cells (Hi.map (Value.int .i64)).toArray 3))
 have B1:Below w.heap.size w W1:=hW1▸(bA _ _)
 have x1:W1.heap[w.heap.size]?=some (.cells (Hi.map (Value.int .i64)).toArray 3):=hW1▸aA w _
 have hc:W1.cell? ⟨w.heap.size,m,none⟩=some (.int .i64 (n:Nat)):=by
  have hq:Hi[m]?=some n:=List.getElem?_eq_some_iff.2 ⟨hm8,hn⟩
  unfold World.cell?
  dsimp only
  rw [x1]
  simp [hq]
 obtain⟨W2,hmk,hown,hb2⟩:=Qo W1 n (by omega)
 have B2:Below w.heap.size w W2:=B1.trans (hb2.mono B1.size)
 have hPk:Calls Tryz.prog 22 #[.int .i64 c,.int .i64 8] W1 fun e w'=>e=.returned (.int .i64 m)∧w'=W1:=hm▸mL c 8 W1 h0 h1 (by omega)
 have hmi:(m:Int)<8:=by omega
 have HLg:Hid (w.heap.size≤W1.heap.size):=B1.size
 have hPq:Hid (∀ X,Calls Tryz.prog 22 #[.int .i64 (c.tdiv 8),.int .i64 1073741824] X fun e w'=>∃ p:Int,0≤p∧p<1073741824∧e=.returned (.int .i64 p)∧w'=X):=fun X=>Zn (c.tdiv 8) 1073741824 X (kM c 8 (by omega) h0 h1).1 (kM c 8 (by omega) h0 h1).2 (by omega)
 simp only [Hi,List.map_cons,List.map_nil] at hW1
 clear x1 hn hm
 go_enter Tryz.func40,Tryz.ntmps40
 go_wp2_with (go_at_call 22;(with_reducible refine jC hPk ?_);rintro e X ⟨rfl,hX⟩;subst X)
 have H0:Hid ((List.replicate n (0:UInt8)).length=n∧W2.ownsRow 0 5 1 (.slice (some ⟨W1.heap.size,0,none⟩) n n) n (Lib.byteCells (List.replicate n 0))∧Below w.heap.size w W2):=⟨by simp,hown,B2⟩
 clear hown hb2 hmk hc hPk
 go_loopw [5] (fun i wr=>∃ (j:Nat) (l:List UInt8),i=.int .i64 j∧j≤n∧Hid (l.length=n∧wr.ownsRow 0 5 1 (.slice (some ⟨W1.heap.size,0,none⟩) n n) n (Lib.byteCells l)∧Below w.heap.size w wr)) (fun i _=>n-(intOf i).toNat)
 case atStart=>exact⟨0,_,rfl,Nat.zero_le _,H0⟩
 case round =>
  obtain⟨j,l,rfl,hj,HL⟩:=hrel
  rename World=>wr
  by_cases hlt:j<n
  ·have hlti:(j:Int)<(n:Int):=by omega
   obtain⟨hll,hrow,hB⟩:=HL.out
   have hcj:wr.cell? ⟨W1.heap.size,j,none⟩=some (.int .u8 (l[j]'(by omega)).toNat):=by
    rw [World.ownsRow.cellAt (w:=wr) hrow j (by omega)]
    simp [Lib.byteCells,hll,hlt]
   have hfj:=World.ownsRow.frozenAt (w:=wr) hrow j
   have hPr:=hPq.out wr
   have HS:Hid (∀ y:Int,0≤y→y<256→∃ l':List UInt8,l'.length=n∧(wr.setCell ⟨W1.heap.size,j,none⟩ (.int .u8 y)).ownsRow 0 5 1 (.slice (some ⟨W1.heap.size,0,none⟩) n n) n (Lib.byteCells l')∧Below w.heap.size w (wr.setCell ⟨W1.heap.size,j,none⟩ (.int .u8 y))):=fun y hy0 hy1=>by
    refine⟨l.set j (UInt8.ofNat y.toNat),by simpa using hll,?_,hB.setCell (p:=⟨W1.heap.size,j,none⟩) HLg.out _⟩
    have h2:=(World.ownsRow.stored (w:=wr) hrow j (.int .u8 y)).1
    have h3:Lib.byteCells (l.set j (UInt8.ofNat y.toNat))=(Lib.byteCells l).set j (.int .u8 y):=by
     simp only [Lib.byteCells,List.map_set,byte_of y hy0 hy1]
    rw [h3]
    exact h2
   clear hrow hB
   go_wp2_with (go_at_call 22;(with_reducible refine jC hPr ?_);rintro e X ⟨p,hp0,hp1,rfl,hX⟩;subst X)
   obtain⟨l',hl'⟩:=HS.out (wrap64 (p / 2 ^ (j % 20)+(j:Int)) % 256) (by omega) (by omega)
   refine⟨⟨j+1,l',by simp,by omega,hl'⟩,?_⟩
   simp [intOf]
   omega
  ·obtain rfl:j=n:=by omega
   have hlti:¬ (j:Int)<(j:Int):=by omega
   obtain⟨hll,hrow,hB⟩:=HL.out
   have hcv:=run_convert_bytes_back (P:=Tryz.prog) wr 115 9 5 ⟨W1.heap.size,0,none⟩ j l Tryz.underlying115 Tryz.underlying5 Tryz.underlying9 (fun i hi=>by
    have:=World.ownsRow.cells (w:=wr) hrow (g:=W1.heap.size) rfl i (.int .u8 (l[i]).toNat) (by simp [Lib.byteCells,hi])
    simpa using this)
   rw [hll] at hcv
   have hsz:(⟨l.toArray⟩:ByteArray).size=j:=by show l.toArray.size=j;simpa using hll
   clear hrow hll
   go_wp2
   go_ret
   exact⟨_,rfl,by rw [hsz];exact hn4,hB⟩
