import Derived.Test.YtpifffkkgnbfpaaGreatP27
set_option linter.unusedSimpArgs false
set_option linter.unusedVariables false
set_option maxRecDepth 100000
set_option maxHeartbeats 8000000
namespace Go.Proofs.YtpifffkkgnbfpaaGreat.Tree
open Go.RowKit Pages
variable {A s:ByteArray} {K:List ByteArray} {ao o:Option (Nat×T)} {b i k n p q v:Nat} {v10 v3 v4 v5 v6 v7 v8 v9 x:Value} {w:World}
theorem aH.wr {S:Bl} {a:Option Addr} {l:List (Nat×ByteArray)} {j:Nat} (h:aH w S a (l.flatMap dE)) (hj:j<l.length):∃ b off,a=some ⟨b,off,none⟩∧S b∧w.cell? ⟨b,off+j * 2,none⟩=some (.int .i64 (l[j]).1)∧w.cell? ⟨b,off+j * 2+1,none⟩=some (.string (l[j]).2):=by
 obtain⟨c0,c1⟩:=rX hj
 rcases h with h|⟨b,off,ha,hb,hc⟩
 ·rw [h] at c0;simp at c0
 ·exact⟨b,off,ha,hb,hc _ _ c0,hc _ _ c1⟩
def lF (l:List (Nat×Pg)):List (Nat×ByteArray):=l.map fun y=>(y.1,y.2.encS)
def fV (P:Program) (md:Region.Mode) (ops:Array Oper) (Q:Exit→Act→World→Prop) (S:World→Prop):List (Nat×Tmp×Value)→Nat→Array Bool→Act→World→Prop
 | [],n,L,a,w=>wpAnyH P md ops Q S n L a w
 | (i,d,v) :: l,n,L,a,w=>∃ oi,ops[i]?=some oi∧oi.dst=some d∧(Region.noSelect ops&&Region.free md ops L i&&(Region.ready md ops L).contains i)=true∧(∀ c a w,Q (.panic c) (a.put (some d) v) w→Q (.panic c) a w)∧YieldsIf P ops S oi v a∧fV P md ops Q S l n (L.setIfInBounds i true) (a.put (some d) v) w
theorem fV.take {P:Program} {md:Region.Mode} {ops:Array Oper} {Q:Exit→Act→World→Prop} {S:World→Prop}:∀ (l:List (Nat×Tmp×Value)) {n k:Nat} {L:Array Bool} {a:Act} {w:World},k=n+l.length→S w→fV P md ops Q S l n L a w→wpAnyH P md ops Q S k L a w
 | [],n,k,L,a,w,hk,hS,h=>by subst hk;exact h
 | (i,d,v) :: l,n,k,L,a,w,hk,hS,⟨oi,h1,hd,h2,hQ,h3,h4⟩=>by
  subst hk
  simp only [Bool.and_eq_true] at h2
  rw [← hd] at hQ h4
  exact wpAnyH_take h1 h2.1.1 h2.1.2 h2.2 hQ h3 hS (fV.take l rfl hS h4)
def Fs.dy (fs:Fs):Prop:=fs.wait = -1∧-1≤fs.life∧fs.life≤9223372036854775807
theorem Fs.dy_ch {fs:Fs} (h:fs.dy):fs.ch.dy:=by
 obtain⟨h1,h2,h3⟩:=h
 unfold Fs.ch
 split
 ·refine⟨by simp [h1],?_,?_⟩
  ·show -1≤(if 0<fs.life then fs.life-1 else fs.life);split<;>omega
  ·show (if 0<fs.life then fs.life-1 else fs.life)≤_;split<;>omega
 ·exact⟨by show (if _ then _ else _)=_;split<;>simp [h1],h2,h3⟩
theorem Fs.well_dy {fs:Fs} (h:fs.well):fs.dy:=⟨h.1,by rw [h.2];decide,by rw [h.2];decide⟩
theorem Fs.fits_ch {fs:Fs} (h:fs.fits):fs.ch.fits:=by unfold Fs.fits;rw [Fs.ch_late,Fs.ch_safe];exact h
theorem Fs.fits_put {fs:Fs} (h:fs.fits)  (hp:p<fs.safe.length) (d:ByteArray):(fs.put p d).fits:=by
 intro x hx
 simp only [Fs.put,List.mem_append,List.mem_singleton] at hx
 rcases hx with hx|rfl
 ·exact h x hx
 ·exact hp
def Fs.wrL:Fs→List (Nat×ByteArray)→Bool×Fs
 | fs,[]=>(true,fs)
 | fs,x :: l=>if fs.chOk then (fs.ch.put x.1 x.2).wrL l else (false,fs.ch)
def Fs.wrS (fs:Fs):Fs:=if fs.chOk then fs.ch.synced else fs.ch
def Fs.wrP (fs:Fs) (m:Nat) (d:ByteArray):Fs:=if fs.chOk then fs.ch.put m d else fs.ch
def Fs.wrE (fs:Fs) (m:Nat) (d:ByteArray):Bool×Fs :=
 if fs.chOk then (if fs.wrS.chOk then ((fs.wrS.wrP m d).chOk,(fs.wrS.wrP m d).wrS) else (false,fs.wrS.wrP m d)) else (false,fs.wrS)
def Fs.wrA (fs:Fs) (l:List (Nat×ByteArray)) (m:Nat) (d:ByteArray):Bool×Fs:=if (fs.wrL l).1 then (fs.wrL l).2.wrE m d else fs.wrL l
variable {fs:Fs}
theorem Fs.wrS_dy (h:fs.dy):fs.wrS.dy:=by unfold Fs.wrS;split;exact Fs.dy_ch h;exact Fs.dy_ch h
theorem Fs.wrP_dy (h:fs.dy) (m:Nat) (d:ByteArray):(fs.wrP m d).dy:=by unfold Fs.wrP;split;exact Fs.dy_ch h;exact Fs.dy_ch h
theorem Fs.wrS_fits (h:fs.fits):fs.wrS.fits:=by
 unfold Fs.wrS
 split
 ·intro x hx;simp [Fs.synced] at hx
 ·exact Fs.fits_ch h
theorem Fs.wrS_len (fs:Fs):fs.wrS.safe.length=fs.safe.length:=by
 unfold Fs.wrS
 split
 ·show (laid _ _).length=_;rw [cU,Fs.ch_safe]
 ·rw [Fs.ch_safe]
theorem Fs.wrS_late (fs:Fs):fs.wrS.late.length≤fs.late.length:=by
 unfold Fs.wrS
 split
 ·simp [Fs.synced]
 ·rw [Fs.ch_late];exact jU _
theorem Fs.wrP_fits (h:fs.fits) {m:Nat} (hm:m<fs.safe.length) (d:ByteArray):(fs.wrP m d).fits:=by
 unfold Fs.wrP
 split
 ·exact Fs.fits_put (Fs.fits_ch h) (by rw [Fs.ch_safe];exact hm) d
 ·exact Fs.fits_ch h
theorem qEm (D:Db) (st:Int) (l:List (Nat×Pg)) (m:MV) (rt:Nat) (wa:Option Addr) (wc:Nat) (S:Bl) (w:World) (h:aN w st D) (hw:D.fs.dy) (hlate:D.fs.late=[])
  (hR:aH w S wa ((lF l).flatMap dE)) (hS:∀ k,S k→k<w.heap.size∧¬ fpF D.β D.sv D.lv k) (hlc:l.length≤wc) (hll:l.length≤4096)
  (hE:∀ y∈l,y.2.encE=0) (hp:∀ y∈l,y.1<D.fs.safe.length) (hmE:(aY m.ver m.root).encE=0) (hms:(aY m.ver m.root).small) (h2:2≤D.fs.safe.length) (R:Bool×Fs) (hRR:D.fs.wrA (lF l) (m.ver % 2) (aY m.ver m.root).encS=R) :
  Calls Tryz.prog 108 #[.pointer (some ⟨D.d,0,none⟩),.agg #[.int .i64 (rt:Int),.slice wa l.length wc],.agg #[.int .i64 1,.int .i64 m.ver,.int .i64 m.root,.int .i64 0,.slice m.ka 0 m.kc,.slice m.ia 0 m.ic,.slice m.ea 0 m.ec,.string ⟨#[]⟩]] w fun e w'=>e=.returned (.bool R.1)∧∃ lv',aN w' st { D with lv:=lv',fs:=R.2 }∧Fr (fpF D.β D.sv D.lv) w w'∧aJ w (fpF D.β D.sv D.lv) (fpF D.β D.sv lv'):=by
 obtain⟨W1,hW1⟩:=nM ((w.alloc (.cells #[.int .i64 (rt:Int),.slice wa l.length wc] 179)).alloc (.cells #[.int .i64 1,.int .i64 m.ver,.int .i64 m.root,.int .i64 0,.slice m.ka 0 m.kc,.slice m.ia 0 m.ic,.slice m.ea 0 m.ec,.string ⟨#[]⟩] 85))
 have B1:Below w.heap.size w W1:=hW1▸(bA _ _).alloc (by simp) _
 have x1:W1.heap[w.heap.size]?=some (.cells #[.int .i64 (rt:Int),.slice wa l.length wc] 179):=hW1▸aB _ (aA w _)
 have x2:W1.heap[w.heap.size+1]?=some (.cells #[.int .i64 1,.int .i64 m.ver,.int .i64 m.root,.int .i64 0,.slice m.ka 0 m.kc,.slice m.ia 0 m.ic,.slice m.ea 0 m.ec,.string ⟨#[]⟩] 85):=by
  rw [← hW1];have:=aA (w.alloc (.cells #[.int .i64 (rt:Int),.slice wa l.length wc] 179)) (.cells #[.int .i64 1,.int .i64 m.ver,.int .i64 m.root,.int .i64 0,.slice m.ka 0 m.kc,.slice m.ia 0 m.ic,.slice m.ea 0 m.ec,.string ⟨#[]⟩] 85);simpa using this
 have l2:=(gL x2)
 obtain⟨p0,p1⟩:=cG x1
 obtain⟨m0,m1,m2,m3,m4,m5,m6,m7⟩:=bL x2
 have hEn:=rN (aY m.ver m.root) m.ka m.ia m.ea m.kc m.ic m.ec (fun _=>False) W1 ⟨.inl rfl,.inl rfl,.inl rfl⟩ (fun _ hb=>hb.elim) hms hmE
 simp only [aY,jN,Int.ofNat_zero] at hEn
 obtain⟨ms,hmsd⟩:=nM ((aY m.ver m.root).encS)
 have HMS:Hid ((aY m.ver m.root).encS=ms):=hmsd
 have hEn':Calls Tryz.prog 89 #[.agg #[.int .i64 1,.int .i64 m.ver,.int .i64 m.root,.int .i64 0,.slice m.ka 0 m.kc,.slice m.ia 0 m.ic,.slice m.ea 0 m.ec,.string ⟨#[]⟩]] W1 fun e w'=>e=.returned (.string ms)∧Below W1.heap.size W1 w':=by
  rw [← hmsd];exact hEn
 clear hEn
 go_enter Tryz.func108,Tryz.ntmps108
 go_wp2_with (go_at_call 89;(with_reducible refine jC hEn' ?_);rintro e w2 ⟨rfl,hb2⟩;have B2:=B1.trans (hb2.mono B1.size);have y1:=(hb2.block _ (by omega)).trans x1;obtain⟨q0,q1⟩:=cG y1)
 have y2:=(hb2.block _ l2).trans x2
 have HD:Hid (∀ X,Fr (fpF D.β D.sv D.lv) w X→X.heap[D.d]?=some (dbO st D)∧aH X S wa ((lF l).flatMap dE)):=fun X hX=>⟨hX.heap h.box h.noFile,hR.on (hX.on hS)⟩
 have HS0:Hid (aG w2 D.β D.sv D.lv D.fs∧Fr (fpF D.β D.sv D.lv) w w2∧aJ w (fpF D.β D.sv D.lv) (fpF D.β D.sv D.lv)∧w2.heap[w.heap.size+1]?=some (.cells #[.int .i64 1,.int .i64 m.ver,.int .i64 m.root,.int .i64 0,.slice m.ka 0 m.kc,.slice m.ia 0 m.ic,.slice m.ea 0 m.ec,.string ⟨#[]⟩] 85)):=by
  refine⟨?_,Fr.of_below B2,aJ.refl _ _,y2⟩
  exact h.file.on (vV B2 h.file.lies)
 have HH:Hid (aN w st D):=h
 have HW:Hid (D.fs.dy∧D.fs.safe.length=D.fs.safe.length∧D.fs.late.length=0∧D.fs.fits∧D.fs.wrL (lF l)=D.fs.wrL ((lF l).drop 0)):=⟨hw,rfl,by rw [hlate];rfl,fun x hx=>by rw [hlate] at hx;simp at hx,rfl⟩
 have HE:Hid _:=hE
 have HP:Hid _:=hp
 rw [hmsd] at hRR
 have HRR:Hid (D.fs.wrA (lF l) (m.ver % 2) ms=R):=hRR
 clear h hR hS hE hp hw hlate hmsd hRR hW1 x1 x2 p0 p1 m0 m1 m2 m3 m4 m5 m6 m7 hEn' y1 y2 q0 q1
 go_loopw [15] (fun a wq=>∃ (j:Nat) (lvj:Value) (F:Fs),a=.int .i64 j∧j≤l.length∧Hid (F.dy∧F.safe.length=D.fs.safe.length∧F.late.length=j∧F.fits∧D.fs.wrL (lF l)=F.wrL ((lF l).drop j))∧Hid (aG wq D.β D.sv lvj F∧Fr (fpF D.β D.sv D.lv) w wq∧aJ w (fpF D.β D.sv D.lv) (fpF D.β D.sv lvj)∧wq.heap[w.heap.size+1]?=some (.cells #[.int .i64 1,.int .i64 m.ver,.int .i64 m.root,.int .i64 0,.slice m.ka 0 m.kc,.slice m.ia 0 m.ic,.slice m.ea 0 m.ec,.string ⟨#[]⟩] 85))) (fun a _=>l.length-(intOf a).toNat)
 case atStart=>exact⟨0,D.lv,D.fs,rfl,Nat.zero_le _,HW.out,HS0.out⟩
 case round =>
  obtain⟨j,lvj,F,rfl,hj,HQ,HF⟩:=hrel
  clear HW
  obtain⟨hFj,hFr,hG,hbx⟩:=HF.out
  obtain⟨hdb,hrow⟩:=HD.out wr hFr
  by_cases hlt:j<l.length
  ·have hlti:(j:Int)<(l.length:Int):=by omega
   obtain⟨y,hy⟩:=nM (l[j])
   have hym:y∈l:=hy▸List.getElem_mem hlt
   obtain⟨rb,ro,hwa,hrb,k0,k1⟩:=hrow.wr (j:=j) (by simp [lF];exact hlt)
   simp only [lF,List.getElem_map,hy] at k0 k1
   subst hwa
   obtain⟨yp,ye⟩:=y
   simp only at k0 k1
   obtain⟨d,hd⟩:=nM (ye.encS)
   rw [hd] at k1
   have hd256:d.size=256:=hd▸iD ye (HE.out _ hym)
   obtain⟨g1,g2,g3,g4,g5⟩:=HQ.out
   obtain⟨b,hb⟩:=nM (F.chOk)
   obtain⟨F',hF'⟩:∃ F',F.wrP yp d=F':=⟨_,rfl⟩
   have hdr:(lF l).drop j=(yp,d) :: (lF l).drop (j+1):=by
    rw [List.drop_eq_getElem_cons (by simp [lF];exact hlt)]
    simp [lF,hy,hd]
   have HT:Hid (b=true→F'.dy∧F'.safe.length=D.fs.safe.length∧F'.late.length=j+1∧F'.fits∧D.fs.wrL (lF l)=F'.wrL ((lF l).drop (j+1))):=fun e=>by
    rw [e] at hb
    have e':F'=F.ch.put yp d:=by rw [← hF',Fs.wrP,hb,if_pos rfl]
    refine⟨hF'▸Fs.wrP_dy g1 yp d,?_,?_,hF'▸Fs.wrP_fits g4 (by rw [g2];exact HP.out _ hym) d,?_⟩
    ·rw [e'];show F.ch.safe.length=_;rw [Fs.ch_safe,g2]
    ·rw [e'];show (F.ch.late++[_]).length=_;rw [Fs.ch_late,jK,g3];rfl
    ·rw [g5,hdr,Fs.wrL,hb,if_pos rfl,e']
   have HN:Hid (b=false→D.fs.wrA (lF l) (m.ver % 2) ms=(false,F')):=fun e=>by
    rw [e] at hb
    have:D.fs.wrL (lF l)=(false,F'):=by rw [g5,hdr,Fs.wrL,← hF',Fs.wrP,hb];rfl
    rw [Fs.wrA,this];rfl
   have HWc:Hid (∀ X,Below wr.heap.size wr X→Calls Tryz.prog 88 #[.pointer (some ⟨D.β,0,none⟩),.int .i64 (yp:Int),.string d] X fun e w'=>e=.returned (.bool b)∧∃ lv',aG w' D.β D.sv lv' F'∧Fr (fpF D.β D.sv lvj) X w'∧aJ X (fpF D.β D.sv lvj) (fpF D.β D.sv lv')∧(∀ (k:Nat) (cs:Array Value) (t:TypeId),X.heap[k]?=some (Obj.cells cs t)→t≠73→t≠9→t≠75→w'.heap[k]?=some (Obj.cells cs t))):=by
    intro X hX
    have hFX:=hFj.on (vV hX hFj.lies)
    refine(wM D.β D.sv lvj F yp d X hFX (by rw [g1.1];decide) (by rw [g1.1];decide) g1.2.1 g1.2.2 hd256 (by rw [g2];exact HP.out _ hym) (by omega)).mono ?_
    rintro e w' ⟨he,lv',h1,h2,h3⟩
    exact⟨hb▸he,lv',hF'▸h1,h2,h3,fun k cs t hk n1 n2 n3=>h2.heap hk (gK hFX hk n1 n2 n3)⟩
   obtain⟨c0,c1,c2,c3,c4,c5,c6,c7,c8,c9,c10,c11,c12,c13,c14⟩:=eT hdb
   obtain⟨W3,hW3⟩:=nM (wr.alloc (.cells #[.int .i64 (yp:Int),.string d] 209))
   have B3:Below wr.heap.size wr W3:=hW3▸(bA _ _)
   have z3:W3.heap[wr.heap.size]?=some (.cells #[.int .i64 (yp:Int),.string d] 209):=hW3▸aA wr _
   have db3:=(B3.block _ (gL hdb)).trans hdb
   have bx3:=(B3.block _ (gL hbx)).trans hbx
   obtain⟨z0,z1⟩:=cG z3
   have z2:W3.cell? ⟨D.d,2,none⟩=some (.pointer (some ⟨D.β,0,none⟩)):=by simp [World.cell?,db3]
   clear c0 c1 c2 c3 c4 c5 c6 c7 c8 c9 c10 c11 c12 c13 c14 hd hy hrow g1 g2 g3 g4 g5 hb hF' hdr HQ
   cases b
   all_goals go_wp2
   all_goals go_region_held3 (fun X=>X.cell? ⟨D.d,2,none⟩=some (.pointer (some ⟨D.β,0,none⟩))∧X.cell? ⟨wr.heap.size,0,none⟩=some (.int .i64 (yp:Int))∧X.cell? ⟨wr.heap.size,1,none⟩=some (.string d))
    ((first|(with_reducible exact⟨z2,z0,z1⟩)|(simp [z2,z0,z1])))
    (first
     | (go_at_call 88;(with_reducible refine jC (HWc.out _ ?_) ?_);(first|exact B3.drew|exact B3);rintro e w6 ⟨rfl,lv6,hf6,hr6,hg6,hk6⟩;have db6:=hk6 _ _ _ db3 (by decide) (by decide) (by decide);have bx6:=hk6 _ _ _ bx3 (by decide) (by decide) (by decide);have z6:=hk6 _ _ _ z3 (by decide) (by decide) (by decide);obtain⟨z0,z1⟩:=cG z6;have z2:w6.cell? ⟨D.d,2,none⟩=some (.pointer (some ⟨D.β,0,none⟩)):=(by simp [World.cell?,db6])))
   all_goals go_wp2
   all_goals
    have F6:Fr (fpF D.β D.sv lvj) wr w6:=by first|exact(Fr.of_below B3.drew).trans hr6|exact(Fr.of_below B3).trans hr6
    have G6:aJ w (fpF D.β D.sv D.lv) (fpF D.β D.sv lv6):=by
     have s1:=hFr.size
     have s2:=B3.size
     first|exact hG.trans (b:=W3.drew) (by show _≤W3.heap.size;omega) hg6|exact hG.trans (b:=W3) (by omega) hg6
    first
     | exact⟨⟨j+1,lv6,F',by simp,by omega,HT.out (by simp),hf6,hFr.grow F6 hG,G6,bx6⟩,by simp [intOf];omega⟩
     | (go_ret;obtain rfl:=HRR.out.symm.trans (HN.out (by simp));exact⟨rfl,lv6,HH.out.refile hf6 (hFr.grow F6 hG),hFr.grow F6 hG,G6⟩)
  ·obtain rfl:j=l.length:=by omega
   have hlti:¬ (l.length:Int)<(l.length:Int):=by omega
   obtain⟨g1,g2,g3,g4,g5⟩:=HQ.out
   obtain⟨b1,hb1⟩:∃ b,F.chOk=b:=⟨_,rfl⟩
   obtain⟨F1,hF1⟩:∃ F',F.wrS=F':=⟨_,rfl⟩
   obtain⟨b2,hb2⟩:∃ b,F1.chOk=b:=⟨_,rfl⟩
   obtain⟨F2,hF2⟩:∃ F',F1.wrP (m.ver % 2) ms=F':=⟨_,rfl⟩
   obtain⟨b3,hb3⟩:∃ b,F2.chOk=b:=⟨_,rfl⟩
   obtain⟨F3,hF3⟩:∃ F',F2.wrS=F':=⟨_,rfl⟩
   have HR:Hid (R=if b1 then (if b2 then (b3,F3) else (false,F2)) else (false,F1)):=by
    have e:D.fs.wrL (lF l)=(true,F):=by rw [g5,List.drop_of_length_le (by simp [lF])];rfl
    show R=_
    rw [← HRR.out,Fs.wrA,e]
    show F.wrE _ _=_
    rw [Fs.wrE,hF1,hF2,hF3,hb1,hb2,hb3]
   have hm1:m.ver % 2<F1.safe.length:=by rw [← hF1,Fs.wrS_len,g2];omega
   have d1:F1.dy:=hF1▸Fs.wrS_dy g1
   have d2:F2.dy:=hF2▸Fs.wrP_dy d1 _ _
   have f1:F1.fits:=hF1▸Fs.wrS_fits g4
   have f2:F2.fits:=hF2▸Fs.wrP_fits f1 hm1 _
   have r1:F1.late.length<1000000:=by have:=Fs.wrS_late F;rw [hF1,g3] at this;omega
   have HY:Hid (∀ X lvx fx b fy,fx.chOk=b→fx.wrS=fy→aG X D.β D.sv lvx fx→fx.dy→fx.fits→Calls Tryz.prog 60 #[.pointer (some ⟨D.β,0,none⟩)] X fun e w'=>e=.returned (.bool b)∧∃ lv',aG w' D.β D.sv lv' fy∧Fr (fpF D.β D.sv lvx) X w'∧aJ X (fpF D.β D.sv lvx) (fpF D.β D.sv lv')∧(∀ (k:Nat) (cs:Array Value) (t:TypeId),X.heap[k]?=some (Obj.cells cs t)→t≠73→t≠9→t≠75→w'.heap[k]?=some (Obj.cells cs t))):=by
    rintro X lvx fx b fy rfl rfl hX hwx hfx
    exact(Lf D.β D.sv lvx fx X hX (by rw [hwx.1];decide) (by rw [hwx.1];decide) hwx.2.1 hwx.2.2 hfx).mono fun e w' ⟨he,lv',h1,h2,h3⟩=>⟨he,lv',h1,h2,h3,fun k cs t hk n1 n2 n3=>h2.heap hk (gK hX hk n1 n2 n3)⟩
   have HZ:Hid (∀ X lvx,aG X D.β D.sv lvx F1→Calls Tryz.prog 88 #[.pointer (some ⟨D.β,0,none⟩),.int .i64 ((m.ver:Int) % 2),.string ms] X fun e w'=>e=.returned (.bool b2)∧∃ lv',aG w' D.β D.sv lv' F2∧Fr (fpF D.β D.sv lvx) X w'∧aJ X (fpF D.β D.sv lvx) (fpF D.β D.sv lv')∧(∀ (k:Nat) (cs:Array Value) (t:TypeId),X.heap[k]?=some (Obj.cells cs t)→t≠73→t≠9→t≠75→w'.heap[k]?=some (Obj.cells cs t))):=by
    intro X lvx hX
    have hmod:(((m.ver % 2:Nat)):Int)=(m.ver:Int) % 2:=by simp
    rw [← hmod]
    exact(wM D.β D.sv lvx F1 (m.ver % 2) ms X hX (by rw [d1.1];decide) (by rw [d1.1];decide) d1.2.1 d1.2.2 (HMS.out▸iD _ hmE) hm1 r1).mono fun e w' ⟨he,lv',h1,h2,h3⟩=>⟨hb2▸he,lv',hF2▸h1,h2,h3,fun k cs t hk n1 n2 n3=>h2.heap hk (gK hX hk n1 n2 n3)⟩
   have HPl:Hid (∀ X,Calls Tryz.prog 135 #[.agg #[.int .i64 1,.int .i64 m.ver,.int .i64 m.root,.int .i64 0,.slice m.ka 0 m.kc,.slice m.ia 0 m.ic,.slice m.ea 0 m.ec,.string ⟨#[]⟩]] X fun e w'=>e=.returned (.int .i64 ((m.ver:Int) % 2))∧Below X.heap.size X w'):=by
    intro X
    have:=yK m X
    rw [show (((m.ver % 2:Nat)):Int)=(m.ver:Int) % 2 by simp] at this
    exact this
   have HS1:=HY.out wr.drew lvj F b1 F1 hb1 hF1 (hFj.on (vV (Below.refl _ wr).drew hFj.lies)) g1 g4
   have HY3:Hid (∀ X lvx,aG X D.β D.sv lvx F2→Calls Tryz.prog 60 #[.pointer (some ⟨D.β,0,none⟩)] X fun e w'=>e=.returned (.bool b3)∧∃ lv',aG w' D.β D.sv lv' F3∧Fr (fpF D.β D.sv lvx) X w'∧aJ X (fpF D.β D.sv lvx) (fpF D.β D.sv lv')∧(∀ (k:Nat) (cs:Array Value) (t:TypeId),X.heap[k]?=some (Obj.cells cs t)→t≠73→t≠9→t≠75→w'.heap[k]?=some (Obj.cells cs t))):=fun X lvx hX=>HY.out X lvx F2 b3 F3 hb3 hF3 hX d2 f2
   obtain⟨n0,n1,n2,n3,n4,n5,n6,n7⟩:=bL hbx
   have z2:wr.cell? ⟨D.d,2,none⟩=some (.pointer (some ⟨D.β,0,none⟩)):=by simp [World.cell?,hdb]
   clear hrow hb1 hb2 hb3 hF1 hF2 hF3 hm1 d1 d2 f1 f2 r1 g1 g2 g3 g4 g5 HQ HY
   have hcs:b1=false∨(b1=true∧b2=false)∨(b1=true∧b2=true∧b3=false)∨(b1=true∧b2=true∧b3=true):=by cases b1<;>cases b2<;>cases b3<;>simp
   rcases hcs with rfl|⟨rfl,rfl⟩|⟨rfl,rfl,rfl⟩|⟨rfl,rfl,rfl⟩
   ·go_wp2
    refine wp_region_held_drew (S:=(fun X=>X.cell? ⟨D.d,2,none⟩=some (.pointer (some ⟨D.β,0,none⟩))∧X.cell? ⟨w.heap.size+1,0,none⟩=some (.int .i64 1)∧X.cell? ⟨w.heap.size+1,1,none⟩=some (.int .i64 m.ver)∧X.cell? ⟨w.heap.size+1,2,none⟩=some (.int .i64 m.root)∧X.cell? ⟨w.heap.size+1,3,none⟩=some (.int .i64 0)∧X.cell? ⟨w.heap.size+1,4,none⟩=some (.slice m.ka 0 m.kc)∧X.cell? ⟨w.heap.size+1,5,none⟩=some (.slice m.ia 0 m.ic)∧X.cell? ⟨w.heap.size+1,6,none⟩=some (.slice m.ea 0 m.ec)∧X.cell? ⟨w.heap.size+1,7,none⟩=some (.string ⟨#[]⟩))) (by kernel_rfl) (by first|(with_reducible exact⟨z2,n0,n1,n2,n3,n4,n5,n6,n7⟩)|(simp [z2,n0,n1,n2,n3,n4,n5,n6,n7])) (fun hHeld=>?_)
    change wpAnyH _ _ _ _ _ 23 #[false,false,false,false,false,false,false,false,false,false,false,false,false,false,false,false,false,false,false,false,false,false,false] _ _
    refine fV.take [(0,30,.pointer (some ⟨D.d,0,none⟩)),(1,31,.pointer (some ⟨D.d,0,none⟩)),(2,32,.pointer (some ⟨D.d,2,none⟩)),(3,33,.pointer (some ⟨D.β,0,none⟩))] (n:=19) (by kernel_rfl) (by assumption) ?_
    iterate 4 (refine⟨_,rfl,rfl,by kernel_rfl,fun _ _ _ h=>h,.inl ⟨by rfl,fun X hX=>by(try dsimp only at hX);go_simp⟩,?_⟩;simp only [Act.put,jV,jZ,jX])
    rw [fV]
    refine wpAnyH_ready (rs:=[4]) (by kernel_rfl) (by simp) (AllReadyH.cons rfl (fun K hK=>?_) AllReadyH.nil)
    go_simp
    go_at_call 60;(with_reducible refine jC HS1 ?_);rintro e w6 ⟨rfl,lv6,hf6,hr6,hg6,hk6⟩;have db6:=hk6 _ _ _ hdb (by decide) (by decide) (by decide);have bx6:=hk6 _ _ _ hbx (by decide) (by decide) (by decide);obtain⟨n0,n1,n2,n3,n4,n5,n6,n7⟩:=bL bx6;have z2:w6.cell? ⟨D.d,2,none⟩=some (.pointer (some ⟨D.β,0,none⟩)):=(by simp [World.cell?,db6])
    refine hK.out _ _ (by first|(with_reducible exact⟨z2,n0,n1,n2,n3,n4,n5,n6,n7⟩)|(simp [z2,n0,n1,n2,n3,n4,n5,n6,n7])) (fun hHeld=>?_)
    clear hK K
    try simp only [Act.put,jV,jZ,jX]
    refine fV.take [(5,35,.bool false),(6,36,undef),(7,37,undef),(8,38,undef),(9,39,undef),(10,40,undef),(11,41,undef),(12,42,undef),(13,43,undef),(14,44,.bool false),(15,45,.bool false),(16,46,undef),(17,47,undef),(18,48,undef),(19,49,undef),(20,50,undef),(21,51,.bool false)] (n:=1) (by kernel_rfl) (by assumption) ?_
    iterate 1 (refine⟨_,rfl,rfl,by kernel_rfl,fun _ _ _ h=>h,.inl ⟨by rfl,fun X hX=>by(try dsimp only at hX);go_simp⟩,?_⟩;simp only [Act.put,jV,jZ,jX])
    iterate 8 (refine⟨_,rfl,rfl,by kernel_rfl,fun _ _ _ h=>h,.inr ⟨by rfl,rfl⟩,?_⟩;simp only [Act.put,jV,jZ,jX])
    iterate 2 (refine⟨_,rfl,rfl,by kernel_rfl,fun _ _ _ h=>h,.inl ⟨by rfl,fun X hX=>by(try dsimp only at hX);go_simp⟩,?_⟩;simp only [Act.put,jV,jZ,jX])
    iterate 5 (refine⟨_,rfl,rfl,by kernel_rfl,fun _ _ _ h=>h,.inr ⟨by rfl,rfl⟩,?_⟩;simp only [Act.put,jV,jZ,jX])
    iterate 1 (refine⟨_,rfl,rfl,by kernel_rfl,fun _ _ _ h=>h,.inl ⟨by rfl,fun X hX=>by(try dsimp only at hX);go_simp⟩,?_⟩;simp only [Act.put,jV,jZ,jX])
    rw [fV]
    refine wpAnyH_ready (rs:=[22]) (by kernel_rfl) (by simp) (AllReadyH.cons rfl (fun K hK=>?_) AllReadyH.nil)
    go_simp
    refine hK.out _ _ (by first|(with_reducible exact⟨z2,n0,n1,n2,n3,n4,n5,n6,n7⟩)|(simp [z2,n0,n1,n2,n3,n4,n5,n6,n7])) (fun hHeld=>?_)
    clear hK K
    try simp only [Act.put,jV,jZ,jX]
    refine wpAnyH_done (by kernel_rfl) ?_ _
    go_wp2
    have F6:=hFr.grow ((Fr.refl _ wr).drew.trans hr6) hG
    have G6:=hG.trans (b:=wr.drew) hFr.size hg6
    have hRe:=HR.out
    subst hRe
    go_ret
    exact⟨rfl,lv6,HH.out.refile hf6 F6,F6,G6⟩
   ·go_wp2
    refine wp_region_held_drew (S:=(fun X=>X.cell? ⟨D.d,2,none⟩=some (.pointer (some ⟨D.β,0,none⟩))∧X.cell? ⟨w.heap.size+1,0,none⟩=some (.int .i64 1)∧X.cell? ⟨w.heap.size+1,1,none⟩=some (.int .i64 m.ver)∧X.cell? ⟨w.heap.size+1,2,none⟩=some (.int .i64 m.root)∧X.cell? ⟨w.heap.size+1,3,none⟩=some (.int .i64 0)∧X.cell? ⟨w.heap.size+1,4,none⟩=some (.slice m.ka 0 m.kc)∧X.cell? ⟨w.heap.size+1,5,none⟩=some (.slice m.ia 0 m.ic)∧X.cell? ⟨w.heap.size+1,6,none⟩=some (.slice m.ea 0 m.ec)∧X.cell? ⟨w.heap.size+1,7,none⟩=some (.string ⟨#[]⟩))) (by kernel_rfl) (by first|(with_reducible exact⟨z2,n0,n1,n2,n3,n4,n5,n6,n7⟩)|(simp [z2,n0,n1,n2,n3,n4,n5,n6,n7])) (fun hHeld=>?_)
    change wpAnyH _ _ _ _ _ 23 #[false,false,false,false,false,false,false,false,false,false,false,false,false,false,false,false,false,false,false,false,false,false,false] _ _
    refine fV.take [(0,30,.pointer (some ⟨D.d,0,none⟩)),(1,31,.pointer (some ⟨D.d,0,none⟩)),(2,32,.pointer (some ⟨D.d,2,none⟩)),(3,33,.pointer (some ⟨D.β,0,none⟩))] (n:=19) (by kernel_rfl) (by assumption) ?_
    iterate 4 (refine⟨_,rfl,rfl,by kernel_rfl,fun _ _ _ h=>h,.inl ⟨by rfl,fun X hX=>by(try dsimp only at hX);go_simp⟩,?_⟩;simp only [Act.put,jV,jZ,jX])
    rw [fV]
    refine wpAnyH_ready (rs:=[4]) (by kernel_rfl) (by simp) (AllReadyH.cons rfl (fun K hK=>?_) AllReadyH.nil)
    go_simp
    go_at_call 60;(with_reducible refine jC HS1 ?_);rintro e w6 ⟨rfl,lv6,hf6,hr6,hg6,hk6⟩;have db6:=hk6 _ _ _ hdb (by decide) (by decide) (by decide);have bx6:=hk6 _ _ _ hbx (by decide) (by decide) (by decide);obtain⟨n0,n1,n2,n3,n4,n5,n6,n7⟩:=bL bx6;have z2:w6.cell? ⟨D.d,2,none⟩=some (.pointer (some ⟨D.β,0,none⟩)):=(by simp [World.cell?,db6])
    refine hK.out _ _ (by first|(with_reducible exact⟨z2,n0,n1,n2,n3,n4,n5,n6,n7⟩)|(simp [z2,n0,n1,n2,n3,n4,n5,n6,n7])) (fun hHeld=>?_)
    clear hK K
    try simp only [Act.put,jV,jZ,jX]
    refine fV.take [(5,35,.bool true),(6,36,.pointer (some ⟨D.d,0,none⟩)),(7,37,.pointer (some ⟨D.d,0,none⟩)),(8,38,.pointer (some ⟨D.d,2,none⟩)),(9,39,.pointer (some ⟨D.β,0,none⟩)),(10,40,.agg #[.int .i64 1,.int .i64 m.ver,.int .i64 m.root,.int .i64 0,.slice m.ka 0 m.kc,.slice m.ia 0 m.ic,.slice m.ea 0 m.ec,.string ⟨#[]⟩]),(12,42,.string ms)] (n:=11) (by kernel_rfl) (by assumption) ?_
    iterate 7 (refine⟨_,rfl,rfl,by kernel_rfl,fun _ _ _ h=>h,.inl ⟨by rfl,fun X hX=>by(try dsimp only at hX);go_simp⟩,?_⟩;simp only [Act.put,jV,jZ,jX])
    rw [fV]
    refine wpAnyH_ready (rs:=[11]) (by kernel_rfl) (by simp) (AllReadyH.cons rfl (fun K hK=>?_) AllReadyH.nil)
    go_simp
    go_at_call 135;(with_reducible refine jC (HPl.out _) ?_);rintro e w7 ⟨rfl,hb7⟩;have db7:=(hb7.block _ (gL db6)).trans db6;have bx7:=(hb7.block _ (gL bx6)).trans bx6;obtain⟨n0,n1,n2,n3,n4,n5,n6,n7⟩:=bL bx7;have z2:w7.cell? ⟨D.d,2,none⟩=some (.pointer (some ⟨D.β,0,none⟩)):=(by simp [World.cell?,db7]);have hf7:=hf6.on (vV hb7 hf6.lies);have HS2:=HZ.out w7 lv6 hf7
    refine hK.out _ _ (by first|(with_reducible exact⟨z2,n0,n1,n2,n3,n4,n5,n6,n7⟩)|(simp [z2,n0,n1,n2,n3,n4,n5,n6,n7])) (fun hHeld=>?_)
    clear hK K
    try simp only [Act.put,jV,jZ,jX]
    refine wpAnyH_ready (rs:=[13]) (by kernel_rfl) (by simp) (AllReadyH.cons rfl (fun K hK=>?_) AllReadyH.nil)
    go_simp
    go_at_call 88;(with_reducible refine jC HS2 ?_);rintro e w8 ⟨rfl,lv8,hf8,hr8,hg8,hk8⟩;have db8:=hk8 _ _ _ db7 (by decide) (by decide) (by decide);have bx8:=hk8 _ _ _ bx7 (by decide) (by decide) (by decide);obtain⟨n0,n1,n2,n3,n4,n5,n6,n7⟩:=bL bx8;have z2:w8.cell? ⟨D.d,2,none⟩=some (.pointer (some ⟨D.β,0,none⟩)):=(by simp [World.cell?,db8]);have HS3:=HY3.out w8 lv8 hf8
    refine hK.out _ _ (by first|(with_reducible exact⟨z2,n0,n1,n2,n3,n4,n5,n6,n7⟩)|(simp [z2,n0,n1,n2,n3,n4,n5,n6,n7])) (fun hHeld=>?_)
    clear hK K
    try simp only [Act.put,jV,jZ,jX]
    refine fV.take [(14,44,.bool false),(15,45,.bool false),(16,46,undef),(17,47,undef),(18,48,undef),(19,49,undef),(20,50,undef),(21,51,.bool false)] (n:=1) (by kernel_rfl) (by assumption) ?_
    iterate 2 (refine⟨_,rfl,rfl,by kernel_rfl,fun _ _ _ h=>h,.inl ⟨by rfl,fun X hX=>by(try dsimp only at hX);go_simp⟩,?_⟩;simp only [Act.put,jV,jZ,jX])
    iterate 5 (refine⟨_,rfl,rfl,by kernel_rfl,fun _ _ _ h=>h,.inr ⟨by rfl,rfl⟩,?_⟩;simp only [Act.put,jV,jZ,jX])
    iterate 1 (refine⟨_,rfl,rfl,by kernel_rfl,fun _ _ _ h=>h,.inl ⟨by rfl,fun X hX=>by(try dsimp only at hX);go_simp⟩,?_⟩;simp only [Act.put,jV,jZ,jX])
    rw [fV]
    refine wpAnyH_ready (rs:=[22]) (by kernel_rfl) (by simp) (AllReadyH.cons rfl (fun K hK=>?_) AllReadyH.nil)
    go_simp
    refine hK.out _ _ (by first|(with_reducible exact⟨z2,n0,n1,n2,n3,n4,n5,n6,n7⟩)|(simp [z2,n0,n1,n2,n3,n4,n5,n6,n7])) (fun hHeld=>?_)
    clear hK K
    try simp only [Act.put,jV,jZ,jX]
    refine wpAnyH_done (by kernel_rfl) ?_ _
    go_wp2
    have F6:=hFr.grow ((Fr.refl _ wr).drew.trans hr6) hG
    have G6:=hG.trans (b:=wr.drew) hFr.size hg6
    have hRe:=HR.out
    subst hRe
    go_ret
    have F7:=F6.trans (Fr.of_below hb7)
    have F8:=F7.grow hr8 G6
    exact⟨rfl,lv8,HH.out.refile hf8 F8,F8,G6.trans F7.size hg8⟩
   all_goals go_wp2
   all_goals go_region_held3 (fun X=>X.cell? ⟨D.d,2,none⟩=some (.pointer (some ⟨D.β,0,none⟩))∧X.cell? ⟨w.heap.size+1,0,none⟩=some (.int .i64 1)∧X.cell? ⟨w.heap.size+1,1,none⟩=some (.int .i64 m.ver)∧X.cell? ⟨w.heap.size+1,2,none⟩=some (.int .i64 m.root)∧X.cell? ⟨w.heap.size+1,3,none⟩=some (.int .i64 0)∧X.cell? ⟨w.heap.size+1,4,none⟩=some (.slice m.ka 0 m.kc)∧X.cell? ⟨w.heap.size+1,5,none⟩=some (.slice m.ia 0 m.ic)∧X.cell? ⟨w.heap.size+1,6,none⟩=some (.slice m.ea 0 m.ec)∧X.cell? ⟨w.heap.size+1,7,none⟩=some (.string ⟨#[]⟩))
    ((first|(with_reducible exact⟨z2,n0,n1,n2,n3,n4,n5,n6,n7⟩)|(simp [z2,n0,n1,n2,n3,n4,n5,n6,n7])))
    (first
     | (go_at_call 60;(with_reducible refine jC HS1 ?_);rintro e w6 ⟨rfl,lv6,hf6,hr6,hg6,hk6⟩;have db6:=hk6 _ _ _ hdb (by decide) (by decide) (by decide);have bx6:=hk6 _ _ _ hbx (by decide) (by decide) (by decide);obtain⟨n0,n1,n2,n3,n4,n5,n6,n7⟩:=bL bx6;have z2:w6.cell? ⟨D.d,2,none⟩=some (.pointer (some ⟨D.β,0,none⟩)):=(by simp [World.cell?,db6]))
     | (go_at_call 135;(with_reducible refine jC (HPl.out _) ?_);rintro e w7 ⟨rfl,hb7⟩;have db7:=(hb7.block _ (gL db6)).trans db6;have bx7:=(hb7.block _ (gL bx6)).trans bx6;obtain⟨n0,n1,n2,n3,n4,n5,n6,n7⟩:=bL bx7;have z2:w7.cell? ⟨D.d,2,none⟩=some (.pointer (some ⟨D.β,0,none⟩)):=(by simp [World.cell?,db7]);have hf7:=hf6.on (vV hb7 hf6.lies);have HS2:=HZ.out w7 lv6 hf7)
     | (go_at_call 88;(with_reducible refine jC HS2 ?_);rintro e w8 ⟨rfl,lv8,hf8,hr8,hg8,hk8⟩;have db8:=hk8 _ _ _ db7 (by decide) (by decide) (by decide);have bx8:=hk8 _ _ _ bx7 (by decide) (by decide) (by decide);obtain⟨n0,n1,n2,n3,n4,n5,n6,n7⟩:=bL bx8;have z2:w8.cell? ⟨D.d,2,none⟩=some (.pointer (some ⟨D.β,0,none⟩)):=(by simp [World.cell?,db8]);have HS3:=HY3.out w8 lv8 hf8)
     | (go_at_call 60;(with_reducible refine jC HS3 ?_);rintro e w9 ⟨rfl,lv9,hf9,hr9,hg9,hk9⟩;have db9:=hk9 _ _ _ db8 (by decide) (by decide) (by decide);have bx9:=hk9 _ _ _ bx8 (by decide) (by decide) (by decide);obtain⟨n0,n1,n2,n3,n4,n5,n6,n7⟩:=bL bx9;have z2:w9.cell? ⟨D.d,2,none⟩=some (.pointer (some ⟨D.β,0,none⟩)):=(by simp [World.cell?,db9])))
   all_goals go_wp2
   all_goals
    have F6:=hFr.grow ((Fr.refl _ wr).drew.trans hr6) hG
    have G6:=hG.trans (b:=wr.drew) hFr.size hg6
    have hRe:=HR.out
    subst hRe
    go_ret
    have F7:=F6.trans (Fr.of_below hb7)
    have F8:=F7.grow hr8 G6
    have G8:=G6.trans F7.size hg8
    have F9:=F8.grow hr9 G8
    exact⟨rfl,lv9,HH.out.refile hf9 F9,F9,G8.trans F8.size hg9⟩
theorem Co (v r:Int):(aY v r).small:=by
 refine⟨by simp [aY],by simp [aY],by simp [aY],by simp [aY],?_,?_,Nat.zero_le _⟩
 ·simp [aY,eE,aI]
 ·simp [aY,lK,aI]
theorem wH {X:World} {st:Int} {D:Db} (h:X.heap[D.d]?=some (dbO st D)):X.cell? ⟨D.d,2,none⟩=some (.pointer (some ⟨D.β,0,none⟩))∧X.cell? ⟨D.d,3,none⟩=some (.int .i64 1)∧X.cell? ⟨D.d,4,none⟩=some (.int .i64 D.ver)∧X.cell? ⟨D.d,5,none⟩=some (.int .i64 D.root)∧X.cell? ⟨D.d,6,none⟩=some (.int .i64 0)∧X.cell? ⟨D.d,7,none⟩=some (.slice D.ka 0 D.kc)∧X.cell? ⟨D.d,8,none⟩=some (.slice D.ia 0 D.ic)∧X.cell? ⟨D.d,9,none⟩=some (.slice D.ea 0 D.ec)∧X.cell? ⟨D.d,10,none⟩=some (.string ⟨#[]⟩):=by simp [World.cell?,h]
theorem Ru (D:Db) (st:Int) (p:Nat) (w:World) (h:aN w st D) (hw:D.fs.well) (hlate:D.fs.late=[]) (hp:p<D.fs.safe.length) (hE:(aY D.ver D.root).encE=0) (hsm:(aY D.ver D.root).small) :
  Calls Tryz.prog 65 #[.pointer (some ⟨D.d,0,none⟩),.int .i64 (p:Nat)] w fun e w'=>e=.returned (.int .i64 0)∧∃ lv',aN w' st { D with lv:=lv',fs:=(D.fs.put p (aY D.ver D.root).encS).synced,aroot:=D.root }∧Fr (fun k=>k=D.d∨fpF D.β D.sv D.lv k) w w'∧aJ w (fpF D.β D.sv D.lv) (fpF D.β D.sv lv'):=by
 obtain⟨ms,hms⟩:=nM ((aY D.ver D.root).encS)
 have hsz:ms.size=256:=hms▸iD _ hE
 have HEn:Hid (∀ X,Calls Tryz.prog 89 #[.agg #[.int .i64 1,.int .i64 D.ver,.int .i64 D.root,.int .i64 0,.slice D.ka 0 D.kc,.slice D.ia 0 D.ic,.slice D.ea 0 D.ec,.string ⟨#[]⟩]] X fun e w'=>e=.returned (.string ms)∧Below X.heap.size X w'):=fun X=>by
  have:=rN (aY D.ver D.root) D.ka D.ia D.ea D.kc D.ic D.ec (fun _=>False) X ⟨.inl rfl,.inl rfl,.inl rfl⟩ (fun _ hb=>hb.elim) hsm hE
  simp only [aY,jN,Int.ofNat_zero] at this
  rw [← hms];exact this
 rw [hms]
 have HWr:Hid (∀ X,Below w.heap.size w X→Calls Tryz.prog 88 #[.pointer (some ⟨D.β,0,none⟩),.int .i64 (p:Int),.string ms] X fun e w'=>e=.returned (.bool true)∧∃ lv',aG w' D.β D.sv lv' (D.fs.put p ms)∧Fr (fpF D.β D.sv D.lv) X w'∧aJ X (fpF D.β D.sv D.lv) (fpF D.β D.sv lv')∧w'.heap[D.d]?=some (dbO st D)):=fun X hX =>
  have hD:=h.on (vV hX h.lies)
  (Pm D.β D.sv D.lv D.fs p ms X hD.file hw hsz hp (by rw [hlate];decide)).mono fun e w' ⟨he,lv',h1,h2,h3⟩=>⟨he,lv',h1,h2,h3,h2.heap hD.box hD.noFile⟩
 have HSy:Hid (∀ X lvx,aG X D.β D.sv lvx (D.fs.put p ms)→X.heap[D.d]?=some (dbO st D)→Calls Tryz.prog 60 #[.pointer (some ⟨D.β,0,none⟩)] X fun e w'=>e=.returned (.bool true)∧∃ lv',aG w' D.β D.sv lv' (D.fs.put p ms).synced∧Fr (fpF D.β D.sv lvx) X w'∧aJ X (fpF D.β D.sv lvx) (fpF D.β D.sv lv')∧w'.heap[D.d]?=some (dbO st D)):=fun X lvx hX hb =>
  (Gi D.β D.sv lvx _ X hX (Fs.well_put hw p ms) (fun x hx=>by
   simp only [Fs.put,hlate,jE,List.mem_singleton] at hx
   subst hx
   exact hp)).mono fun e w' ⟨he,lv',h1,h2,h3⟩=>⟨he,lv',h1,h2,h3,h2.heap hb (gK hX hb (by decide) (by decide) (by decide))⟩
 have HDe:Hid (∀ X lvx,aG X D.β D.sv lvx (D.fs.put p ms).synced→Calls Tryz.prog 61 #[.pointer (some ⟨D.β,0,none⟩)] X fun e w'=>e=.returned (.bool false)∧w'=X):=fun X lvx hX=>by
  have:=rP D.β D.sv lvx _ X hX
  rw [show ((D.fs.put p ms).synced.life==0)=false from Fs.well_alive hw] at this
  exact this
 have hbx:=h.box
 have HH:Hid (aN w st D):=h
 obtain⟨z2,n0,n1,n2,n3,n4,n5,n6,n7⟩:=wH hbx
 have b0:Below w.heap.size w w.drew:=(Below.refl _ _).drew
 clear h hw hlate hE hsm hms hsz
 go_enter Tryz.func65,Tryz.ntmps65
 go_wp2
 go_region_held3 (fun X=>X.cell? ⟨D.d,2,none⟩=some (.pointer (some ⟨D.β,0,none⟩))∧X.cell? ⟨D.d,3,none⟩=some (.int .i64 1)∧X.cell? ⟨D.d,4,none⟩=some (.int .i64 D.ver)∧X.cell? ⟨D.d,5,none⟩=some (.int .i64 D.root)∧X.cell? ⟨D.d,6,none⟩=some (.int .i64 0)∧X.cell? ⟨D.d,7,none⟩=some (.slice D.ka 0 D.kc)∧X.cell? ⟨D.d,8,none⟩=some (.slice D.ia 0 D.ic)∧X.cell? ⟨D.d,9,none⟩=some (.slice D.ea 0 D.ec)∧X.cell? ⟨D.d,10,none⟩=some (.string ⟨#[]⟩))
  ((first|(with_reducible exact⟨z2,n0,n1,n2,n3,n4,n5,n6,n7⟩)|(simp [z2,n0,n1,n2,n3,n4,n5,n6,n7])))
  (first
   | (go_at_call 89;(with_reducible refine jC (HEn.out _) ?_);rintro e X1 ⟨rfl,hb1⟩;have B1:Below w.heap.size w X1:=b0.trans hb1;have e1:=(B1.block _ (gL hbx)).trans hbx;have hWr:=HWr.out X1 B1;obtain⟨z2,n0,n1,n2,n3,n4,n5,n6,n7⟩:=wH e1)
   | (go_at_call 88;(with_reducible refine jC hWr ?_);rintro e X2 ⟨rfl,lv2,hf2,hF2,hG2,e2⟩;have hSy:=HSy.out X2 lv2 hf2 e2;obtain⟨z2,n0,n1,n2,n3,n4,n5,n6,n7⟩:=wH e2)
   | (go_at_call 60;(with_reducible refine jC hSy ?_);rintro e X3 ⟨rfl,lv3,hf3,hF3,hG3,e3⟩;have hDe:=HDe.out X3 lv3 hf3;obtain⟨z2,n0,n1,n2,n3,n4,n5,n6,n7⟩:=wH e3)
   | (go_at_call 61;(with_reducible refine jC hDe ?_);rintro e X4 ⟨rfl,hX4⟩;subst X4))
 all_goals
  have F2:Fr (fpF D.β D.sv D.lv) w X2:=(Fr.of_below B1).trans hF2
  have G2:aJ w (fpF D.β D.sv D.lv) (fpF D.β D.sv lv2):=(aJ.refl w _).trans B1.size hG2
  have F3:=F2.grow hF3 G2
  have G3:=G2.trans F2.size hG3
  have HD3:Hid (aN X3 st { D with lv:=lv3,fs:=(D.fs.put p ms).synced }):=HH.out.refile hf3 F3
  have afr:=aF e3
  have HB:=aD e3 11 (.int .i64 (D.root:Nat))
  have HFX:Fr (Bl.one D.d) X3 (X3.setCell ⟨D.d,11,none⟩ (.int .i64 (D.root:Nat))):=(Fr.refl (Bl.one D.d) X3).setCell (p:=⟨D.d,11,none⟩) (.inl rfl) _
  have HDf:Hid (aN (X3.setCell ⟨D.d,11,none⟩ (.int .i64 (D.root:Nat))) st { D with lv:=lv3,fs:=(D.fs.put p ms).synced,aroot:=D.root }):=HD3.out.rebox (D':={ D with lv:=lv3,fs:=(D.fs.put p ms).synced,aroot:=D.root }) HFX rfl rfl rfl rfl rfl rfl rfl (by simpa using HB)
  have a11:∃ x,X3.cell? ⟨D.d,11,none⟩=some x:=⟨.int .i64 D.aroot,by simp [World.cell?,e3]⟩
  obtain⟨x11,a11⟩:=a11
  clear HB
  go_wp2
  go_ret
  exact⟨rfl,lv3,HDf.out,(F3.mono (fun k hk=>.inl (.inr hk))).trans (HFX.mono (fun k hk=>.inl (.inl hk))),G3⟩
def qGj (s:ByteArray):Prop:=¬ (s.size=256∧(dD s.data.toList).encE=0∧(dD s.data.toList).encS=s)
abbrev qDl (z:Int):List PanicEntry:=[{ v:=.iface 151 (.agg #[.int .i64 z]),recovered:=false }]
theorem zJ (hs:qGj s) (w:World) :
  Calls Tryz.prog 116 #[.string s] w fun e w'=>e=.returned (.tuple #[.agg #[.int .i64 0,.int .i64 0,.int .i64 0,.int .i64 0,.slice none 0 0,.slice none 0 0,.slice none 0 0,.string ⟨#[]⟩],.int .i64 2])∧Below w.heap.size w w':=by
 refine(uG s w).mono ?_
 rintro e w' ⟨hb,(⟨h1,h2,h3,_⟩|⟨_,rfl⟩)⟩
 ·exact absurd ⟨h1,h2,h3⟩ hs
 ·exact⟨rfl,hb⟩
theorem Ze {s t:ByteArray} (hs:s.size=256) (ht:t.size=256) (h:∀ k,k<4→sect s k=sect t k):s=t:=by
 have h1:=gT s
 have h2:=gT t
 apply ByteArray.ext
 apply Array.ext'
 apply List.ext_getElem?
 intro i
 by_cases hi:i<256
 ·have hm:i % 64<64:=Nat.mod_lt i (by decide)
  have:=congrArg (fun l:List UInt8=>l[i % 64]?) (h (i / 64) (by omega))
  simp only [sect,List.getElem?_take_of_lt hm,List.getElem?_drop] at this
  rwa [show 64 * (i / 64)+i % 64=i by omega] at this
 ·rw [List.getElem?_eq_none (by omega),List.getElem?_eq_none (by omega)]
theorem getD_in {l:List ByteArray}  (h:p<l.length):l.getD p ⟨#[]⟩=l[p]:=by rw [List.getD_eq_getElem?_getD,jQ h];rfl
theorem fW.same {safe safe':List ByteArray} {late:List (Nat×ByteArray)} (h:fW safe late safe') (hz:∀ s∈safe,s.size=256)  (hp:∀ x∈late,x.1≠p):safe'.getD p ⟨#[]⟩=safe.getD p ⟨#[]⟩:=by
 by_cases hl:p<safe'.length
 ·have hl':p<safe.length:=h.len▸hl
  rw [getD_in hl,getD_in hl']
  exact Ze (h.size p hl) (hz _ (List.getElem_mem hl')) (fun k hk=>(h.sect p hl k hk).resolve_right (fun ⟨x,hx,e,_⟩=>hp x hx e))
 ·have:=h.len
  rw [List.getD_eq_getElem?_getD,List.getD_eq_getElem?_getD,List.getElem?_eq_none (by omega),List.getElem?_eq_none (by omega)]
theorem fW.sizes {safe safe':List ByteArray} {late:List (Nat×ByteArray)} (h:fW safe late safe'):∀ s∈safe',s.size=256:=fun s hs=>by
 obtain⟨i,hi,rfl⟩:=List.getElem_of_mem hs
 exact h.size i hi
def qI (s:ByteArray):Prop:=s≠eR 256∧¬ (s.size=256∧(dD s.data.toList).encE=0∧(dD s.data.toList).encS=s)
theorem Ub (h:sect s 0=sect A 0)  (hi:i<64):s.data.toList.getD i 0=A.data.toList.getD i 0:=by
 have:=congrArg (fun l:List UInt8=>l[i]?) h
 simp only [sect,List.getElem?_take_of_lt hi,Nat.mul_zero,List.drop_zero] at this
 rw [List.getD_eq_getElem?_getD,List.getD_eq_getElem?_getD,this]
theorem Dj (h:sect s 0=sect A 0) (a:Nat):∀ k,a+k≤64→gX s.data.toList a k=gX A.data.toList a k
 | 0,_=>rfl
 | k+1,hk=>by simp only [gX];rw [Dj h a k (by omega),Ub h (by omega)]
theorem Gf {v r:Int} (hs:s.size=256) (h:sect s 0=sect A 0) (hA:A=eR 256∨Ep A (aY v r)):s=A∨qI s:=by
 have hk:=Ub h (i:=0) (by decide)
 rcases hA with rfl|hA
 ·by_cases e:s=eR 256
  ·exact .inl e
  ·refine .inr ⟨e,fun ⟨_,hE,_⟩=>?_⟩
   have h0:((eR 256).data.toList).getD 0 0=0:=by
    show ((List.replicate 256 (0:UInt8)).toArray.toList).getD 0 0=0
    rfl
   rw [h0] at hk
   unfold dD at hE
   rw [hk] at hE
   simp [kX,Pg.encE,Pages.cM,dX] at hE
 ·have l1:=(gT s).trans hs
  have l2:=(gT A).trans hA.1
  have hk1:(A.data.toList.getD 0 0).toNat=1:=by
   have h1:=congrArg Pg.kind hA.2.2.2
   unfold dD kX at h1
   split at h1
   ·assumption
   ·split at h1
    ·simp [aY] at h1
    ·split at h1
     ·simp [aY] at h1
     ·split at h1
      ·simp [aY] at h1
      ·simp only [aY] at h1
       omega
  have hR:dD s.data.toList=dD A.data.toList:=by
   unfold dD kX
   rw [hk,if_pos hk1,if_pos hk1]
   have p1:aT s.data.toList 0 1=1:=by unfold aT;omega
   have p2:aT A.data.toList 0 1=1:=by unfold aT;omega
   have p3:aT s.data.toList 1 8=9:=by unfold aT;omega
   have p4:aT A.data.toList 1 8=9:=by unfold aT;omega
   rw [p1,p2,p3,p4,Dj h 1 8 (by omega),Dj h 9 2 (by omega)]
  by_cases e:s=A
  ·exact .inl e
  ·refine .inr ⟨fun hz=>?_,fun ⟨_,_,hS⟩=>e (hS.symm.trans (by rw [hR];exact hA.2.2.1))⟩
   have h1:=congrArg Pg.kind hA.2.2.2
   rw [← hR,hz,Au] at h1
   simp [aY] at h1
theorem dV.keep {fs fs2:Fs}  {fr:List Nat} (S:dV K n fs v o ao) (h1:fs2.late=[]) (h2:fs2.safe.length=n) (h3:∀ s∈fs2.safe,s.size=256) (hat:∀ p,p ∉ fr→fs2.at p=fs.at p) (hfr:∀ p∈fr,2≤p) (ho:∀ p∈bZ o,p ∉ fr) (hao:∀ p∈bZ ao,p ∉ fr):dV K n fs2 v o ao:=by
 have hm:∀ q,q<2→∀ ver root,fC fs q ver root→fC fs2 q ver root:=fun q hq ver root h=>by
  have:q ∉ fr:=fun h=>by have:=hfr q h;omega
  unfold fC;rw [hat q this];exact h
 have hs:∀ x,Tr K fs x→(∀ p∈bZ x,p ∉ fr)→Tr K fs2 x:=fun x t a=>t.stays (fun p hp g hg=>⟨by rw [h2,← S.len];exact hg.1,by rw [hat p (a p hp)];exact hg.2⟩)
 obtain⟨v',hv,hv'⟩:=S.meta1
 exact⟨h1,h2,hm _ (Nat.mod_lt _ (by decide)) _ _ S.meta0,⟨v',hm _ (Nat.mod_lt _ (by decide)) _ _ hv,hv'⟩,hs o S.sure ho,hs ao S.ahead hao,h3⟩
structure zV (K:List ByteArray) (n:Nat) (fs:Fs) (v:Nat) (o:Option (Nat×T)):Prop where
 late:fs.late=[]
 len:fs.safe.length=n
 meta0:fC fs (v % 2) v (rootOf o)
 bad:qI (fs.at ((v+1) % 2))
 sure:Tr K fs o
 size:∀ s∈fs.safe,s.size=256
def Cut (fs:Fs) (l:List (Nat×Pg)) (m:Nat) (mt:Pg) (fs1:Fs):Prop:=(fs1.safe=fs.safe∧∀ x∈fs1.late,∃ y∈l,x=(y.1,y.2.encS))∨(fs1.safe=(fs.puts l).synced.safe∧(fs1.late=[]∨fs1.late=[(m,mt.encS)]))
theorem qCy {l:List (Nat×Pg)} {m:Nat} {mt:Pg} (hf:(fs.puts l).fits) (hm:m<fs.safe.length) (p:Nat):(fs.made l m mt).at p=if m=p then mt.encS else (fs.puts l).at p:=by
 have f2:(((fs.puts l).synced).put m mt.encS).fits:=by
  intro x hx
  simp only [Fs.put,Fs.synced,jE,List.mem_singleton] at hx
  subst hx
  show m<(laid _ _).length
  rw [cU];exact hm
 unfold Fs.made
 rw [iG _ f2,wV,iG _ hf]
theorem kU (h:fs.late=[]) (p:Nat):fs.at p=fs.safe.getD p ⟨#[]⟩:=by unfold Fs.at;rw [h];rfl
theorem Xx {cs:List Ch} {fr:List Nat} (S:dV K n fs v o ao) (P:nK K n fs o cs fr) (hao:∀ p∈bZ ao,p ∉ fr) (hv:v+1<9223372036854775808) (hn:2≤n) {fs1 fs2:Fs}
  (hC:Cut fs (bQ o cs fr).2 ((v+1) % 2) (aY (v+1:Nat) (rootOf (bQ o cs fr).1)) fs1) (hcr:fW fs1.safe fs1.late fs2.safe) (hl2:fs2.late=[]):dV K n fs2 v o ao∨dV K n fs2 (v+1) (bQ o cs fr).1 o∨zV K n fs2 v o:=by
 obtain⟨c1,c2,c3,_,_⟩:=gM S P hv hn
 have hfr:∀ p∈fr,2≤p:=fun p hp=>(P.free p hp).1
 have hmem:∀ y∈(bQ o cs fr).2,y.1∈fr:=Bi c3
 have hr2:=c1.sure.root
 have hmE:(aY ((v+1:Nat):Int) (rootOf (bQ o cs fr).1:Nat)).encE=0:=pJ (v+1:Nat) _ (by omega) (hr2.imp (fun h=>by rw [h];rfl) id)
 have hPg:=vX _ (show (aY ((v+1:Nat):Int) (rootOf (bQ o cs fr).1:Nat)).ver<_ from by show ((v+1:Nat):Int)<_;omega) hmE
 obtain⟨l,hl⟩:=nM ((bQ o cs fr).2)
 obtain⟨mt,hmt⟩:=nM (aY ((v+1:Nat):Int) (rootOf (bQ o cs fr).1:Nat))
 rw [hl,hmt] at c1 hC
 rw [hl] at c2 hmem
 rw [hmt] at hPg
 have hm:(v+1) % 2<fs.safe.length:=by rw [S.len];omega
 have hm2:(v+1) % 2<2:=Nat.mod_lt _ (by decide)
 have hfit:(fs.puts l).fits:=by
  intro x hx
  simp only [Fs.puts,S.late,jE,List.mem_map] at hx
  obtain⟨y,hy,rfl⟩:=hx
  have:=P.free _ (hmem y hy)
  show y.1<fs.safe.length
  rw [S.len];omega
 have hz:=hcr.sizes
 have hput:∀ p,p ∉ fr→(fs.puts l).at p=fs.at p:=fun p hp=>(Ah l fs p).1 (fun h=>by
  obtain⟨y,hy,rfl⟩:=List.mem_map.1 h
  exact hp (hmem y hy))
 rcases hC with⟨e1,e2⟩|⟨e1,e2⟩
 ·left
  rw [e1] at hcr
  refine S.keep hl2 (hcr.len.trans S.len) hz (fun p hp=>?_) hfr P.away hao
  rw [kU hl2,kU S.late]
  refine hcr.same S.size (fun x hx ex=>?_)
  obtain⟨y,hy,rfl⟩:=e2 x hx
  exact hp (ex▸hmem y hy)
 ·have hsy:∀ s∈(fs.puts l).synced.safe,s.size=256:=mA _ _ S.size (fun x hx=>by
   simp only [Fs.puts,S.late,jE,List.mem_map] at hx
   obtain⟨y,hy,rfl⟩:=hx
   exact iD _ (c2 y hy))
  have hsl:(fs.puts l).synced.safe.length=n:=(cU _ _).trans S.len
  have hlen:fs2.safe.length=n:=hcr.len.trans ((congrArg List.length e1).trans hsl)
  rw [e1] at hcr
  have hoff:∀ p,(∀ x∈fs1.late,x.1≠p)→fs2.at p=(fs.puts l).at p:=fun p hp=>by
   rw [kU hl2,hcr.same hsy hp,← iG _ hfit]
   exact(kU rfl p).symm
  have hall:(∀ p,fs2.at p=(fs.puts l).at p)→dV K n fs2 v o ao:=fun ha=>S.keep hl2 hlen hz (fun p hp=>(ha p).trans (hput p hp)) hfr P.away hao
  rcases e2 with e2|e2
  ·exact .inl (hall (fun p=>hoff p (by simp [e2])))
  ·have hoth:∀ p,p≠(v+1) % 2→fs2.at p=(fs.puts l).at p:=fun p hp=>hoff p (fun x hx=>by
    rw [e2,List.mem_singleton] at hx
    subst hx
    exact fun e=>hp e.symm)
   have hnz:(v+1) % 2 ∉ fr:=fun h=>by have:=hfr _ h;omega
   have hml:(v+1) % 2<fs2.safe.length:=by omega
   have hat:fs2.at ((v+1) % 2)=fs2.safe[(v+1) % 2]:=by rw [kU hl2,getD_in hml]
   have hold:fs.at ((v+1) % 2)=(fs.puts l).synced.safe[(v+1) % 2]'(by omega):=by
    rw [← hput _ hnz,← iG _ hfit,kU rfl,getD_in]
   have hT:qI (fs2.at ((v+1) % 2))→zV K n fs2 v o:=fun hb=>by
    have hk:∀ p,p ∉ (v+1) % 2 :: fr→fs2.at p=fs.at p:=fun p hp=>by
     rw [List.mem_cons,not_or] at hp
     exact(hoth p hp.1).trans (hput p hp.2)
    refine⟨hl2,hlen,?_,hb,S.sure.stays (fun p hp g hg=>⟨by rw [hlen,← S.len];exact hg.1,?_⟩),hz⟩
    ·have:v % 2 ∉ (v+1) % 2 :: fr:=fun h=>by
      rcases List.mem_cons.1 h with h|h
      ·omega
      ·have:=hfr _ h;omega
     unfold fC;rw [hk _ this];exact S.meta0
    ·have hge:=lW S.sure.rooted S.sure.flat S.sure.root p hp
     rw [hk p (fun h=>by
      rcases List.mem_cons.1 h with h|h
      ·omega
      ·exact P.away p hp h)]
     exact hg.2
   rcases hcr.sect _ hml 0 (by decide) with h|⟨x,hx,_,h⟩
   ·obtain⟨v',hv',_⟩:=S.meta1
    have hA:fs.at ((v+1) % 2)=eR 256∨Ep (fs.at ((v+1) % 2)) (aY (v':Nat) (rootOf ao:Nat)):=hv'.imp (fun h=>h.1) id
    rw [← hold,← hat] at h
    rcases Gf (by rw [hat];exact hcr.size _ hml) h hA with h|h
    ·refine .inl (hall (fun p=>?_))
     by_cases hp:p=(v+1) % 2
     ·rw [hp,h,hput _ hnz]
     ·exact hoth p hp
    ·exact .inr (.inr (hT h))
   ·rw [e2,List.mem_singleton] at hx
    subst hx
    rw [← hat] at h
    have hPg':Ep mt.encS (aY ((v+1:Nat):Int) (rootOf (bQ o cs fr).1:Nat)):=by rw [hmt];exact hPg
    rcases Gf (by rw [hat];exact hcr.size _ hml) h (.inr hPg') with h|h
    ·refine .inr (.inl (c1.keep (fr:=[]) hl2 hlen hz (fun p _=>?_) (by simp) (by simp) (by simp)))
     rw [qCy hfit hm]
     split
     ·next e=>rw [← e];exact h
     ·next e=>exact hoth p (fun h=>e h.symm)
    ·exact .inr (.inr (hT h))
theorem uF (h:¬ (s.size=256∧(dD s.data.toList).encE=0∧(dD s.data.toList).encS=s)) (w:World) :
  Calls Tryz.prog 116 #[.string s] w fun e w'=>e=.returned (.tuple #[.agg #[.int .i64 0,.int .i64 0,.int .i64 0,.int .i64 0,.slice none 0 0,.slice none 0 0,.slice none 0 0,.string ⟨#[]⟩],.int .i64 2])∧Below w.heap.size w w' :=
 (uG s w).mono fun e w' ⟨hb,h'⟩=>h'.elim (fun h1=>absurd ⟨h1.1,h1.2.1,h1.2.2.1⟩ h) (fun h2=>⟨h2.2,hb⟩)
theorem Qm (β:Nat) (sv lv:Value) (fs:Fs) (hl:(fs.life==0)=false) (p:Nat) (w:World) (hf:aG w β sv lv fs) (hp:p<fs.safe.length) (hm:qI (fs.at p)) :
  Calls Tryz.prog 84 #[.pointer (some ⟨β,0,none⟩),.int .i64 p] w fun e w'=>e=.returned (.agg (Pf p).cells)∧Below w.heap.size w w':=by
 obtain⟨W1,hW1⟩:=nM (w.alloc meta0)
 have b1:Below w.heap.size w W1:=hW1▸(bA _ _)
 have x1:W1.heap[w.heap.size]?=some meta0:=hW1▸aA w _
 have hf1:=hf.on (vV b1 hf.lies)
 have hRd:=mI β sv lv fs p W1 hf1
 have hrs:fs.readS p=fs.at p:=by unfold Fs.readS;simp [hp,hl]
 have hrb:(decide (p<fs.safe.length)&&!(fs.life==0))=true:=by simp [hp,hl]
 rw [hrs,hrb] at hRd
 clear hrs hrb
 obtain⟨i0,hi,hz0,hz1,hz2⟩:=info_parts Hz
 obtain⟨w1,hmk,hown,hg⟩:=run_makeSlice_full (P:=Tryz.prog) W1 0 115 5 i0 (.int .u8 0) 1 Tryz.underlying115 hi hz0 hz1 .i64 .i64 256 (by omega) (by rw [hz2];omega) (by unfold maxLen;omega) (Nat.zero_le _)
 rw [tU] at hown
 have hbf:Buf w1 0 (.slice (some ⟨W1.heap.size,0,none⟩) 256 256) (List.replicate 256 0):=by
  unfold Buf;rw [List.length_replicate];exact hown
 have hcv:=Buf.string hbf
 have HB:Below W1.heap.size W1 w1:=⟨hg.os,hg.tape,hg.output,hg.size,fun k hk=>hg.block k hk (by simp)⟩
 have hmk':(Instr.makeSlice 115 (.int .i64 256) (.int .i64 256)).run Tryz.prog W1=.ok (.slice (some ⟨W1.heap.size,0,none⟩) 256 256) w1:=hmk
 obtain⟨z,hz'⟩:∃ z,eR 256=z:=⟨_,rfl⟩
 have hcv':(convert 115 9 (.slice (some ⟨W1.heap.size,0,none⟩) 256 256)).run Tryz.prog w1=.ok (.string z) w1:=by rw [← hz'];exact hcv
 have x2:=(HB.block _ (gL x1)).trans x1
 obtain⟨c0,c1,c2,c3,c4,c5,c6,c7,c8,c9⟩:=jS x2
 have cfr:=aF x2
 have B2:Below w.heap.size w w1:=b1.trans (HB.mono b1.size)
 clear hbf hown hg hcv hmk hi hz0 hz1 hz2
 have hne:((fs.at p).toList==z.toList)=false:=by rw [← hz'];exact vF hm.1
 obtain⟨s,hsd⟩:=nM (fs.at p)
 rw [hsd] at hRd hm hne
 clear hz' hsd
 have hDec:=uF hm.2 w1
 have lw:=(gL x2)
 go_enter Tryz.func84,Tryz.ntmps84
 go_wp2_with (first
  | (go_at_call 115;(with_reducible refine jC hRd ?_);rintro e w2 ⟨rfl,hw2⟩;subst w2)
  | (go_at_call 116;(with_reducible refine jC hDec ?_);rintro e W2 ⟨rfl,hb2⟩;clear hRd hDec;obtain⟨W3,hW3⟩:=nM (W2.alloc (.cells #[.int .i64 0,.int .i64 0,.int .i64 0,.int .i64 0,.slice none 0 0,.slice none 0 0,.slice none 0 0,.string ⟨#[]⟩] 85));have x3:W3.heap[W2.heap.size]?=some (.cells #[.int .i64 0,.int .i64 0,.int .i64 0,.int .i64 0,.slice none 0 0,.slice none 0 0,.slice none 0 0,.string ⟨#[]⟩] 85):=hW3▸aA W2 _;obtain⟨m0,m1,m2,m3,m4,m5,m6,m7⟩:=bL x3;have mfr:=aF x3;have q0:W3.setCell ⟨W2.heap.size,0,none⟩ (.int .i64 0)=W3:=eO x3 rfl;have q1:W3.setCell ⟨W2.heap.size,1,none⟩ (.int .i64 0)=W3:=eO x3 rfl;have q2:W3.setCell ⟨W2.heap.size,2,none⟩ (.int .i64 0)=W3:=eO x3 rfl;have q3:W3.setCell ⟨W2.heap.size,3,none⟩ (.int .i64 0)=W3:=eO x3 rfl;have q4:W3.setCell ⟨W2.heap.size,4,none⟩ (.slice none 0 0)=W3:=eO x3 rfl;have q5:W3.setCell ⟨W2.heap.size,5,none⟩ (.slice none 0 0)=W3:=eO x3 rfl;have q6:W3.setCell ⟨W2.heap.size,6,none⟩ (.slice none 0 0)=W3:=eO x3 rfl;have q7:W3.setCell ⟨W2.heap.size,7,none⟩ (.string ⟨#[]⟩)=W3:=eO x3 rfl;have b3:Below w1.heap.size w1 W3:=hb2.trans (hW3▸(Below.refl _ _).alloc hb2.size _);have r3:=(b3.block _ lw).trans x2;clear c0 c1 c2 c3 c4 c5 c6 c7 c8 c9 cfr;obtain⟨c0,c1,c2,c3,c4,c5,c6,c7,c8,c9⟩:=jS r3;have nfr:=aF r3;have HB3:Hid _:=b3;have HR3:Hid _:=r3;clear b3 r3 x3))
 have xF:=sF HR3.out (.int .i64 p) (.bool false) (.int .i64 0) (.int .i64 0) (.int .i64 0) (.int .i64 0) (.slice none 0 0) (.slice none 0 0) (.slice none 0 0) (.string ⟨#[]⟩)
 have fF:=uT W3 w.heap.size (.int .i64 p) (.bool false) (.int .i64 0) (.int .i64 0) (.int .i64 0) (.int .i64 0) (.slice none 0 0) (.slice none 0 0) (.slice none 0 0) (.string ⟨#[]⟩)
 have b3:=B2.trans (HB3.out.mono (by omega))
 refine bodyPost_ret (v:=.agg (Pf p).cells) ?_ rfl ⟨rfl,b3.trans (fF.below (by have:=b3.size;omega) (oK (by omega)))⟩
 exact results_cell_row (p:=4) rfl _ _ w.heap.size _ _ _ _ rfl xF Tryz.underlying118 rfl (by kernel_rfl)
theorem Gx (m:MV) (p:Nat) (b:Bool) (w:World) :
  Calls Tryz.prog 85 #[.agg (if b then Pf p else m.g).cells,.agg (if b then m.g else Pf p).cells] w fun e w'=>e=.returned (.bool b)∧Below w.heap.size w w':=by
 have key:∀ a c:MG,((a=m.g∧c=Pf p∧b=false)∨(a=Pf p∧c=m.g∧b=true))→Calls Tryz.prog 85 #[.agg a.cells,.agg c.cells] w fun e w'=>e=.returned (.bool b)∧Below w.heap.size w w':=by
  intro a c hac
  obtain⟨W1,hW1⟩:=nM ((w.alloc a.obj).alloc c.obj)
  have B1:Below w.heap.size w W1:=hW1▸(bA _ _).alloc (by simp) _
  have t1:W1.heap[w.heap.size]?=some a.obj:=hW1▸aB _ (aA w _)
  have r1:W1.heap[w.heap.size+1]?=some c.obj:=by
   rw [← hW1];have:=aA (w.alloc a.obj) c.obj;simpa using this
  obtain⟨c0,c1,c2,c3,c4,c5,c6,c7,c8,c9⟩:=jS t1
  obtain⟨d0,d1,d2,d3,d4,d5,d6,d7,d8,d9⟩:=jS r1
  clear t1 r1
  rcases hac with⟨rfl,rfl,rfl⟩|⟨rfl,rfl,rfl⟩
  all_goals
   go_enter Tryz.func85,Tryz.ntmps85
   go_wp2
   refine bodyPost_ret (v:=.bool _) ?_ rfl ⟨rfl,B1⟩
   simp [results,Tryz.results85,go_sem]
 cases b
 ·exact key _ _ (.inl ⟨rfl,rfl,rfl⟩)
 ·exact key _ _ (.inr ⟨rfl,rfl,rfl⟩)
theorem Qk {q v r:Nat} (hq:q<2) (hM:fC fs q v r) (hB:qI (fs.at (1-q))) (h2:1<fs.safe.length) (β:Nat) (sv lv:Value) (hl:(fs.life==0)=false) (w:World) (hf:aG w β sv lv fs) :
  Calls Tryz.prog 62 #[.pointer (some ⟨β,0,none⟩)] w fun e w'=>∃ (m:MV) (m':MG),e=.returned (.tuple #[.agg m.cells,.agg m'.cells])∧Below w.heap.size w w'∧m.ver=v∧m.root=r∧m'=Pf (1-q):=by
 have hBad:∀ p,p<2→qI (fs.at p)→∀ X,Below w.heap.size w X→Calls Tryz.prog 84 #[.pointer (some ⟨β,0,none⟩),.int .i64 (p:Nat)] X fun e w'=>∃ m:MG,e=.returned (.agg m.cells)∧m=Pf p∧Below X.heap.size X w':=fun p hp hb X hX =>
  (Qm β sv lv fs hl p X (hf.on (vV hX hf.lies)) (by omega) hb).mono fun e w' ⟨he,hb⟩=>⟨_,he,rfl,hb⟩
 rcases (by omega:q=0∨q=1) with rfl|rfl
 ·refine(oB β w _ _ false (vD (p:=0) hl hf (by omega) hM) (hBad 1 (by omega) hB) ?_).mono ?_
  ·rintro _ _ ⟨a,rfl,_⟩ rfl X
   exact Gx a 1 false X
  ·rintro e w' ⟨m,m',rfl,hb,⟨hv,_⟩|⟨hv,⟨q,rfl,a1,a2,a3⟩,rfl⟩⟩
   ·cases hv
   ·exact⟨q,_,rfl,hb,a2,a3,rfl⟩
 ·refine(oB β w _ _ true (hBad 0 (by omega) hB) (vD (p:=1) hl hf h2 hM) ?_).mono ?_
  ·rintro _ _ rfl ⟨a,rfl,_⟩ X
   exact Gx a 0 true X
  ·rintro e w' ⟨m,m',rfl,hb,⟨hv,⟨q,rfl,a1,a2,a3⟩,rfl⟩|⟨hv,_⟩⟩
   ·exact⟨q,_,rfl,hb,a2,a3,rfl⟩
   ·cases hv
theorem Wn {v ro rao:Nat} (hm0:fC fs (v % 2) v ro) (hm1:∃ v',fC fs ((v+1) % 2) v' rao∧(v'+1=v∨(v'=v∧rao=ro))) (h2:1<fs.safe.length) (β:Nat) (sv lv:Value) (hl:(fs.life==0)=false) (w:World) (hf:aG w β sv lv fs) :
  Calls Tryz.prog 62 #[.pointer (some ⟨β,0,none⟩)] w fun e w'=>∃ m m':MV,e=.returned (.tuple #[.agg m.cells,.agg m'.cells])∧Below w.heap.size w w'∧m.ver=v∧m.root=ro∧m'.root=rao∧(rao≠ro→m'.p=(v+1) % 2):=by
 obtain⟨v',hm1,hv'⟩:=hm1
 rcases Nat.mod_two_eq_zero_or_one v with h|h
 ·rw [h] at hm0
  have h':(v+1) % 2=1:=by omega
  rw [h'] at hm1 ⊢
  refine(sY β sv lv fs hl v ro v' rao w hf h2 hm0 hm1).mono ?_
  rintro e w' ⟨m,m',rfl,hb,h|h⟩
  ·omega
  ·exact⟨m,m',rfl,hb,h.2.2.1,h.2.2.2.1,h.2.2.2.2.2.2,fun _=>h.2.2.2.2.1⟩
 ·rw [h] at hm0
  have h':(v+1) % 2=0:=by omega
  rw [h'] at hm1 ⊢
  refine(sY β sv lv fs hl v' rao v ro w hf h2 hm1 hm0).mono ?_
  rintro e w' ⟨m,m',rfl,hb,h|h⟩
  ·exact⟨m,m',rfl,hb,h.2.2.1,h.2.2.2.1,h.2.2.2.2.2.2,fun _=>h.2.2.2.2.1⟩
  ·rcases hv' with hv'|⟨rfl,hv'⟩
   ·omega
   ·exact⟨m,m',rfl,hb,h.2.2.1,h.2.2.2.1.trans hv',h.2.2.2.2.2.2.trans hv'.symm,fun h=>absurd hv' h⟩
abbrev db0 (st:Int) (β:Nat):Array Value:=#[.int .i32 st,.int .u32 0,.pointer (some ⟨β,0,none⟩),.int .i64 0,.int .i64 0,.int .i64 0,.int .i64 0,.slice none 0 0,.slice none 0 0,.slice none 0 0,.string ⟨#[]⟩,.int .i64 0,.bool false,.int .i64 0,.slice none 0 0]
abbrev Yz (w:World) (b:Nat) (v3 v4 v5 v6 v7 v8 v9 v10 v11:Value):World:=((((((((w.setCell ⟨b,3,none⟩ v3).setCell ⟨b,4,none⟩ v4).setCell ⟨b,5,none⟩ v5).setCell ⟨b,6,none⟩ v6).setCell ⟨b,7,none⟩ v7).setCell ⟨b,8,none⟩ v8).setCell ⟨b,9,none⟩ v9).setCell ⟨b,10,none⟩ v10).setCell ⟨b,11,none⟩ v11
theorem qCq (w:World) (b:Nat) (v3 v4 v5 v6 v7 v8 v9 v10 v11:Value):Fr (Bl.one b) w (Yz w b v3 v4 v5 v6 v7 v8 v9 v10 v11) :=
 (((((((((Fr.refl (Bl.one b) w).setCell (p:=⟨b,3,none⟩) (.inl rfl) _).setCell (p:=⟨b,4,none⟩) (.inl rfl) _).setCell (p:=⟨b,5,none⟩) (.inl rfl) _).setCell (p:=⟨b,6,none⟩) (.inl rfl) _).setCell (p:=⟨b,7,none⟩) (.inl rfl) _).setCell (p:=⟨b,8,none⟩) (.inl rfl) _).setCell (p:=⟨b,9,none⟩) (.inl rfl) _).setCell (p:=⟨b,10,none⟩) (.inl rfl) _).setCell (p:=⟨b,11,none⟩) (.inl rfl) _
theorem Yy {x0 x1 x2 x3 x4 x5 x6 x7 x8 x9 x10 x11 x12 x13 x14:Value} {t:TypeId} (h:w.heap[b]?=some (.cells #[x0,x1,x2,x3,x4,x5,x6,x7,x8,x9,x10,x11,x12,x13,x14] t)) (v3 v4 v5 v6 v7 v8 v9 v10 v11:Value):(Yz w b v3 v4 v5 v6 v7 v8 v9 v10 v11).heap[b]?=some (.cells #[x0,x1,x2,v3,v4,v5,v6,v7,v8,v9,v10,v11,x12,x13,x14] t):=by
 have:=aD (aD (aD (aD (aD (aD (aD (aD (aD h 3 v3) 4 v4) 5 v5) 6 v6) 7 v7) 8 v8) 9 v9) 10 v10) 11 v11
 simpa using this
abbrev qCr (w:World) (b:Nat) (v3 v4 v5 v6 v7 v8 v9 v10:Value):World:=(((((((w.setCell ⟨b,3,none⟩ v3).setCell ⟨b,4,none⟩ v4).setCell ⟨b,5,none⟩ v5).setCell ⟨b,6,none⟩ v6).setCell ⟨b,7,none⟩ v7).setCell ⟨b,8,none⟩ v8).setCell ⟨b,9,none⟩ v9).setCell ⟨b,10,none⟩ v10
theorem c8 (hk:b≠k) (h:w.cell? ⟨k,i,none⟩=some x):(qCr w b v3 v4 v5 v6 v7 v8 v9 v10).cell? ⟨k,i,none⟩=some x :=
 cC hk (cC hk (cC hk (cC hk (cC hk (cC hk (cC hk (cC hk h)))))))
theorem c8d (hk:b≠k) (h:w.cell? ⟨k,i,none⟩=some x):(qCr w b v3 v4 v5 v6 v7 v8 v9 v10).drew.cell? ⟨k,i,none⟩=some x:=by
 rw [sU];exact c8 hk h
theorem c9 {v3 v4 v5 v6 v7 v8 v9 v10 v11 x:Value} (hk:b≠k) (h:w.cell? ⟨k,i,none⟩=some x):(Yz w b v3 v4 v5 v6 v7 v8 v9 v10 v11).cell? ⟨k,i,none⟩=some x:=cC hk (c8 hk h)
theorem c9d {v3 v4 v5 v6 v7 v8 v9 v10 v11 x:Value} (hk:b≠k) (h:w.cell? ⟨k,i,none⟩=some x):(Yz w b v3 v4 v5 v6 v7 v8 v9 v10 v11).drew.cell? ⟨k,i,none⟩=some x:=by
 rw [sU];exact c9 hk h
theorem Le (h:fs.late=[]):fs.synced=fs:=by
 cases fs
 simp only at h
 subst h
 rfl
theorem Tn {β:Nat} {sv lv:Value}  (hal:(fs.life==0)=false)  (hro:bJ fs (rootOf o) o) {X:World} {ub:Nat} (hX:aG X β sv lv fs) (hU:aP X ub (List.replicate 4096 false)) :
  Calls Tryz.prog 63 #[.agg #[.pointer (some ⟨β,0,none⟩),.int .i64 (rootOf o:Nat),.slice none 0 0],.slice (some ⟨ub,0,none⟩) 4096 4096] X fun e w'=>((true=true∧(∃ v,e=.returned v)∧aP w' ub (marks (List.replicate 4096 false) (bZ o)))∨(true=false∧e=.panicked (qDl 10)))∧Fr (Bl.one ub) X w' :=
 (Em β sv lv fs hal (rootOf o) none 0 0 ub o _ X hro (tP _ _) List.length_replicate hX hU).mono fun e w' ⟨h1,h2,h3⟩=>⟨.inl ⟨rfl,h1,h2⟩,h3⟩
theorem Dw (rao pl:Nat) (hpl:pl<2) (right mks std:Bool) (hlate:fs.late=[]) (hrt:rootOf o=0∨aS (rootOf o:Nat)=true) (h2:2≤fs.safe.length) (hw:fs.well) (d β:Nat) (sv lv:Value) (w:World) (hd:w.heap[d]?=some (.cells (db0 1 β) 88)) (hf:aG w β sv lv fs)
  (hMk:∀ lv1 X ub,aG X β sv lv1 fs→aP X ub (List.replicate 4096 false)→Calls Tryz.prog 63 #[.agg #[.pointer (some ⟨β,0,none⟩),.int .i64 (rootOf o:Nat),.slice none 0 0],.slice (some ⟨ub,0,none⟩) 4096 4096] X fun e w'=>((mks=true∧(∃ v,e=.returned v)∧aP w' ub (marks (List.replicate 4096 false) (bZ o)))∨(mks=false∧e=.panicked (qDl 10)))∧Fr (Bl.one ub) X w')
  (hSt:right=true→mks=true→∀ lv1 X ub,aG X β sv lv1 fs→aP X ub (marks (List.replicate 4096 false) (bZ o))→Calls Tryz.prog 64 #[.agg #[.pointer (some ⟨β,0,none⟩),.int .i64 (rao:Nat),.slice none 0 0],.slice (some ⟨ub,0,none⟩) 4096 4096] X fun e w'=>e=.returned (.bool std)∧Fr (Bl.one ub) X w')
  (hMx:∀ lv1 X,aG X β sv lv1 fs→Calls Tryz.prog 62 #[.pointer (some ⟨β,0,none⟩)] X fun e w'=>∃ (m:MV) (m':MG),e=.returned (.tuple #[.agg m.cells,.agg m'.cells])∧Below X.heap.size X w'∧m.ver=v∧m.root=rootOf o∧m'.ok=right∧(right=true→m'.root=rao)∧((right&&std)=false→m'.p=pl)) :
  Calls Tryz.prog 36 #[.pointer (some ⟨d,0,none⟩)] w fun e w'=>(mks=false∧e=.panicked (qDl 10)∧(∃ cs',w'.heap[d]?=some (.cells cs' 88)∧cs'[0]?=some (.int .i32 1))∧Fr (Bl.or (Bl.one d) (fpF β sv lv)) w w') ∨
   (mks=true∧e=.returned (.int .i64 0)∧∃ D:Db,aN w' 1 D∧D.d=d∧D.β=β∧D.sv=sv∧D.fs=(if right&&std then fs else (fs.put pl (aY (v:Nat) (rootOf o:Nat)).encS).synced)∧D.ver=v∧D.root=rootOf o∧D.aroot=(if right&&std then rao else rootOf o)∧D.failed=false∧D.last=0∧D.ov=.slice none 0 0∧D.ts=[]∧Fr (Bl.or (Bl.one d) (fpF β sv lv)) w w'∧aJ w (fpF β sv lv) (fpF β sv D.lv)):=by
 have hE:(aY (v:Nat) (rootOf o:Nat)).encE=0:=pJ (v:Nat) _ (by omega) (hrt.imp (fun h=>by rw [h];rfl) id)
 have HMX:Hid (∀ lv1 X,aG X β sv lv1 fs→Calls Tryz.prog 62 #[.pointer (some ⟨β,0,none⟩)] X fun e w'=>∃ (m:MV) (m':MG),e=.returned (.tuple #[.agg m.cells,.agg m'.cells])∧Below X.heap.size X w'∧m.ver=v∧m.root=rootOf o∧m'.ok=right∧(right=true→m'.root=rao)∧((right&&std)=false→m'.p=pl)):=hMx
 have hal:=Fs.well_alive hw
 have hnf:¬ fpF β sv lv d:=gK hf hd (by decide) (by decide) (by decide)
 obtain⟨c0,c1,c2,c3,c4,c5,c6,c7,c8,c9,c10,c11,c12,c13,c14⟩:=eT hd
 have hSy:=Gi β sv lv fs w hf hw (fun x hx=>by rw [hlate] at hx;simp at hx)
 rw [Le hlate] at hSy
 have HMK:Hid _:=hMk
 have HST:Hid _:=hSt
 have HLA:Hid (fs.late=[]):=hlate
 have HEE:Hid ((aY (v:Nat) (rootOf o:Nat)).encE=0):=hE
 have HWW:Hid fs.well:=hw
 clear c0 c1 c3 c4 c5 c6 c7 c8 c9 c10 c11 c12 c13 c14 hMx hMk hSt hlate hE
 go_enter Tryz.func36,Tryz.ntmps36
 go_wp2_with (first
  | (go_at_call 60;(with_reducible refine jC hSy ?_);rintro e X1 ⟨rfl,lv1,hf1,F1,G1⟩;have e1:=F1.heap hd hnf;obtain⟨c0,c1,c2,c3,c4,c5,c6,c7,c8,c9,c10,c11,c12,c13,c14⟩:=eT e1;clear c0 c1 c3 c4 c5 c6 c7 c8 c9 c10 c11 c12 c13 c14;have hDe:=rP β sv lv1 fs X1 hf1;rw [hal] at hDe;have hMe:=HMX.out lv1 X1 hf1)
  | (go_at_call 61;(with_reducible refine jC hDe ?_);rintro e X1' ⟨rfl,hX1'⟩;subst X1')
  | (go_at_call 62;(with_reducible refine jC hMe ?_);rintro e X2 ⟨m,m',rfl,hb2,hmv,hmr,hok,hmr',hmp⟩;have HMV:Hid _:=hmv;have HMR:Hid _:=hmr;have HOK:Hid _:=hok;have HMR':Hid (right=true→m'.root=rao):=hmr';have HMP:Hid ((right&&std)=false→m'.p=pl):=hmp;clear hmv hmr hmr' hok hmp))
 obtain⟨X3,hX3⟩:=nM ((X2.alloc m.obj).alloc m'.obj)
 rw [hX3]
 have b3:Below X2.heap.size X2 X3:=hX3▸(bA _ _).alloc (by simp) _
 have q3:X3.heap[X2.heap.size]?=some m.obj:=hX3▸aB _ (aA X2 _)
 have q4:X3.heap[X2.heap.size+1]?=some m'.obj:=by rw [← hX3];have:=aA (X2.alloc m.obj) m'.obj;simpa using this
 have l4:=(gL q4)
 have dlt1:=(gL e1)
 have z2:=hb2.size
 have e3:=(b3.block d (by omega)).trans ((hb2.block d dlt1).trans e1)
 have B3:Below X1.heap.size X1 X3:=hb2.trans (b3.mono z2)
 obtain⟨x0,x1,x2,x3,x4,x5,x6,x7,x8,x9⟩:=jS q3
 obtain⟨y0,y1,y2,y3,y4,y5,y6,y7,y8,y9⟩:=jS q4
 obtain⟨d0,d1,d2,d3,d4,d5,d6,d7,d8,d9,d10,d11,d12,d13,d14⟩:=eT e3
 have dfr:=aF e3
 clear hMe hDe hSy hX3
 go_region_held3 (fun X=>X.cell? ⟨X2.heap.size,2,none⟩=some (.int .i64 1)∧X.cell? ⟨X2.heap.size,3,none⟩=some (.int .i64 m.ver)∧X.cell? ⟨X2.heap.size,4,none⟩=some (.int .i64 m.root)∧X.cell? ⟨X2.heap.size,5,none⟩=some (.int .i64 0)∧X.cell? ⟨X2.heap.size,6,none⟩=some (.slice m.ka 0 m.kc)∧X.cell? ⟨X2.heap.size,7,none⟩=some (.slice m.ia 0 m.ic)∧X.cell? ⟨X2.heap.size,8,none⟩=some (.slice m.ea 0 m.ec)∧X.cell? ⟨X2.heap.size,9,none⟩=some (.string ⟨#[]⟩)∧X.cell? ⟨X2.heap.size+1,4,none⟩=some (.int .i64 m'.root))
  ((first|(with_reducible exact⟨x2,x3,x4,x5,x6,x7,x8,x9,y4⟩)|(with_reducible exact⟨c8 (by omega) x2,c8 (by omega) x3,c8 (by omega) x4,c8 (by omega) x5,c8 (by omega) x6,c8 (by omega) x7,c8 (by omega) x8,c8 (by omega) x9,c8 (by omega) y4⟩)|(with_reducible exact⟨c8d (by omega) x2,c8d (by omega) x3,c8d (by omega) x4,c8d (by omega) x5,c8d (by omega) x6,c8d (by omega) x7,c8d (by omega) x8,c8d (by omega) x9,c8d (by omega) y4⟩)|(with_reducible exact⟨c9 (by omega) x2,c9 (by omega) x3,c9 (by omega) x4,c9 (by omega) x5,c9 (by omega) x6,c9 (by omega) x7,c9 (by omega) x8,c9 (by omega) x9,c9 (by omega) y4⟩)|(with_reducible exact⟨c9d (by omega) x2,c9d (by omega) x3,c9d (by omega) x4,c9d (by omega) x5,c9d (by omega) x6,c9d (by omega) x7,c9d (by omega) x8,c9d (by omega) x9,c9d (by omega) y4⟩)|(simp [x2,x3,x4,x5,x6,x7,x8,x9,y4])))
  (fail)
 rename_i hHeld1
 clear hHeld1 x0 x1 x2 x3 x4 x5 x6 x7 x8 x9 y0 y1 y2 y3 y4 y5 y6 y7 y8 y9 d0 d1 d2 d3 d4 d5 d6 d7 d8 d9 d10 d11 d12 d13 d14 dfr c2
 obtain⟨X4,hX4⟩:=nM ((Yz X3 d (.int .i64 1) (.int .i64 m.ver) (.int .i64 m.root) (.int .i64 0) (.slice m.ka 0 m.kc) (.slice m.ia 0 m.ic) (.slice m.ea 0 m.ec) (.string ⟨#[]⟩) (.int .i64 m'.root)).drew)
 rw [hX4]
 have f4:Fr (Bl.one d) X3 X4:=hX4▸(qCq X3 d _ _ _ _ _ _ _ _ _).drew
 have e4:X4.heap[d]?=some (dbO 1 ⟨d,β,sv,lv1,fs,m.ver,m.root,m'.root,m.ka,m.ia,m.ea,m.kc,m.ic,m.ec,false,0,.slice none 0 0,[]⟩):=by
  rw [← hX4,heap_drew]
  exact Yy e3 _ _ _ _ _ _ _ _ _
 have q44:X4.heap[X2.heap.size+1]?=some m'.obj:=f4.heap q4 (oN (by omega))
 have nf1:¬ fpF β sv lv1 d:=gK hf1 e1 (by decide) (by decide) (by decide)
 have D4:aN X4 1 ⟨d,β,sv,lv1,fs,m.ver,m.root,m'.root,m.ka,m.ia,m.ea,m.kc,m.ic,m.ec,false,0,.slice none 0 0,[]⟩:=by
  refine⟨e4,?_,World.ownsRow_nil _ _ _ _,by simp,.nil⟩
  exact(hf1.on (vV B3 hf1.lies)).on (f4.on (fun k hk=>⟨jY (hf1.lies k hk) B3.size,fun e=>nf1 (by simp only [Bl.one] at e;exact e▸hk)⟩))
 have F4:Fr (Bl.or (Bl.one d) (fpF β sv lv)) w X4:=((F1.mono (fun k hk=>.inl (.inr hk))).trans (Fr.of_below B3)).trans (f4.mono (fun k hk=>.inl (.inl hk)))
 obtain⟨w5,hmk,hU5,hb5⟩:=Hf X4
 have HK:Hid (∀ X,Below X4.heap.size X4 X→aN X 1 ⟨d,β,sv,lv1,fs,m.ver,m.root,m'.root,m.ka,m.ia,m.ea,m.kc,m.ic,m.ec,false,0,.slice none 0 0,[]⟩∧X.cell? ⟨d,2,none⟩=some (.pointer (some ⟨β,0,none⟩))∧X.cell? ⟨d,5,none⟩=some (.int .i64 m.root)∧X.cell? ⟨d,11,none⟩=some (.int .i64 m'.root)∧X.cell? ⟨X2.heap.size+1,1,none⟩=some (.bool right)∧X.cell? ⟨X2.heap.size+1,0,none⟩=some (.int .i64 m'.p)):=by
  intro X hX
  have h1:=D4.on (vV hX D4.lies)
  obtain⟨c0,c1,c2,c3,c4,c5,c6,c7,c8,c9,c10,c11,c12,c13,c14⟩:=eT h1.box
  have h2:=(hX.block _ (gL q44)).trans q44
  exact⟨h1,c2,c5,c11,HOK.out▸(jS h2).2.1,(jS h2).1⟩
 obtain⟨_,k2,k5,k11,kr,kp⟩:=HK.out w5 hb5
 have hsm:fs.safe.length≤4096:=hf.small
 have hTA:=mD d β m.root w5 k2
 have HF4:Hid _:=F4
 have HG1:Hid _:=G1
 have HD4:Hid _:=D4
 have HFX:Hid (∀ X,Fr (Bl.one X4.heap.size) w5 X→Below X4.heap.size X4 X):=fun X hX=>hb5.trans (hX.below hb5.size (oK (by omega)))
 clear hX4 hf hd hf1 F1 G1 e1 e3 e4 q3 q4 q44 b3 B3 f4 nf1 D4 F4 hw
 cases mks
 ·have HMT:Hid (∀ X,aG X β sv lv1 fs→aP X X4.heap.size (List.replicate 4096 false)→Calls Tryz.prog 63 #[.agg #[.pointer (some ⟨β,0,none⟩),.int .i64 (m.root:Nat),.slice none 0 0],.slice (some ⟨X4.heap.size,0,none⟩) 4096 4096] X fun e w'=>e=.panicked (qDl 10)∧Fr (Bl.one X4.heap.size) X w'):=by
   intro X h1 h2
   rw [HMR.out]
   exact(HMK.out lv1 X _ h1 h2).mono fun e w' ⟨h,hF⟩=>⟨h.elim (fun h=>by cases h.1) (fun h=>h.2),hF⟩
  go_wp2_with (first
   | (go_at_call 39;(with_reducible refine jC hTA ?_);rintro e w6 ⟨rfl,hb6⟩;have B6:Below X4.heap.size X4 w6:=hb5.trans (hb6.mono hb5.size);have U6:aP w6 X4.heap.size (List.replicate 4096 false):=hU5.on (Y:=Bl.one X4.heap.size) (vV hb6 (fun k hk=>by simp only [Bl.one] at hk;have:=hU5.lt;omega)) rfl;have hM:=HMT.out w6 (HK.out w6 B6).1.file U6)
   | (go_at_call 63;(with_reducible refine jC hM ?_);rintro e w7 ⟨rfl,hF7⟩))
  have B7:=B6.trans (hF7.below B6.size (oK (by omega)))
  exact⟨rfl,rfl,⟨_,(HK.out w7 B7).1.box,rfl⟩,HF4.out.trans (Fr.of_below B7)⟩
 have HMT:Hid (∀ X,aG X β sv lv1 fs→aP X X4.heap.size (List.replicate 4096 false)→Calls Tryz.prog 63 #[.agg #[.pointer (some ⟨β,0,none⟩),.int .i64 (m.root:Nat),.slice none 0 0],.slice (some ⟨X4.heap.size,0,none⟩) 4096 4096] X fun e w'=>(∃ v,e=.returned v)∧aP w' X4.heap.size (marks (List.replicate 4096 false) (bZ o))∧Fr (Bl.one X4.heap.size) X w'):=by
  intro X h1 h2
  rw [HMR.out]
  exact(HMK.out lv1 X _ h1 h2).mono fun e w' ⟨h,hF⟩=>by
   rcases h with h|h
   ·exact⟨h.2.1,h.2.2,hF⟩
   ·cases h.1
 have HFG:Hid ((right&&std)=false→∀ X,Below X4.heap.size X4 X→Calls Tryz.prog 65 #[.pointer (some ⟨d,0,none⟩),.int .i64 (m'.p:Nat)] X fun e w'=>e=.returned (.int .i64 0)∧∃ D:Db,aN w' 1 D∧D.d=d∧D.β=β∧D.sv=sv∧D.fs=(fs.put pl (aY (v:Nat) (rootOf o:Nat)).encS).synced∧D.ver=v∧D.root=rootOf o∧D.aroot=rootOf o∧D.failed=false∧D.last=0∧D.ov=.slice none 0 0∧D.ts=[]∧Fr (Bl.or (Bl.one d) (fpF β sv lv)) w w'∧aJ w (fpF β sv lv) (fpF β sv D.lv)):=by
  intro hrs X hX
  obtain⟨k1,_⟩:=HK.out X hX
  refine(Ru _ 1 m'.p X k1 HWW.out HLA.out (by rw [HMP.out hrs];show _<fs.safe.length;omega) (by show (aY (m.ver:Nat) (m.root:Nat)).encE=0;rw [HMV.out,HMR.out];exact HEE.out) (Co _ _)).mono ?_
  rintro e w9 ⟨rfl,lv9,hD9,hF9,hG9⟩
  refine⟨rfl,_,hD9,rfl,rfl,rfl,?_,?_,HMR.out,?_,rfl,rfl,rfl,rfl,(HF4.out.trans (Fr.of_below hX)).grow hF9 (fun k hk=>?_),aJ.trans HG1.out (vJ HF4.out.size hX.size) hG9⟩
  ·show ((fs.put m'.p (aY (m.ver:Nat) (m.root:Nat)).encS).synced:Fs)=_
   rw [HMP.out hrs,HMV.out,HMR.out]
  ·show ((m.ver:Nat):Int)=_;rw [HMV.out]
  ·exact HMR.out
  ·rcases hk with hk|hk
   ·exact .inl (.inl hk)
   ·exact(HG1.out k hk).imp (fun h=>.inr h) id
 cases right
 ·go_wp2_with (first
   | (go_at_call 39;(with_reducible refine jC hTA ?_);rintro e w6 ⟨rfl,hb6⟩;have B6:Below X4.heap.size X4 w6:=hb5.trans (hb6.mono hb5.size);have U6:aP w6 X4.heap.size (List.replicate 4096 false):=hU5.on (Y:=Bl.one X4.heap.size) (vV hb6 (fun k hk=>by simp only [Bl.one] at hk;have:=hU5.lt;omega)) rfl;have hM:=HMT.out w6 (HK.out w6 B6).1.file U6)
   | (go_at_call 63;(with_reducible refine jC hM ?_);rintro e w7 ⟨⟨v7,rfl⟩,U7,hF7⟩;have B7:Below X4.heap.size X4 w7:=B6.trans (hF7.below B6.size (oK (by omega)));obtain⟨k1,k2,k5,k11,kr,kp⟩:=HK.out w7 B7;clear k1;have hFg:=HFG.out rfl w7 B7)
   | (go_at_call 65;(with_reducible refine jC hFg ?_);rintro e w9 ⟨rfl,HR9⟩))
  go_ret
  exact⟨rfl,HR9⟩
 have HSS:Hid (∀ X,aG X β sv lv1 fs→aP X X4.heap.size (marks (List.replicate 4096 false) (bZ o))→Calls Tryz.prog 64 #[.agg #[.pointer (some ⟨β,0,none⟩),.int .i64 (m'.root:Nat),.slice none 0 0],.slice (some ⟨X4.heap.size,0,none⟩) 4096 4096] X fun e w'=>e=.returned (.bool std)∧Fr (Bl.one X4.heap.size) X w'):=by
  intro X h1 h2
  rw [HMR'.out rfl]
  exact HST.out rfl rfl lv1 X _ h1 h2
 cases std
 all_goals go_wp2_with (first
  | (go_at_call 39;(with_reducible refine jC hTA ?_);rintro e w6 ⟨rfl,hb6⟩;have B6:Below X4.heap.size X4 w6:=hb5.trans (hb6.mono hb5.size);have U6:aP w6 X4.heap.size (List.replicate 4096 false):=hU5.on (Y:=Bl.one X4.heap.size) (vV hb6 (fun k hk=>by simp only [Bl.one] at hk;have:=hU5.lt;omega)) rfl;have hM:=HMT.out w6 (HK.out w6 B6).1.file U6)
  | (go_at_call 63;(with_reducible refine jC hM ?_);rintro e w7 ⟨⟨v7,rfl⟩,U7,hF7⟩;have B7:Below X4.heap.size X4 w7:=B6.trans (hF7.below B6.size (oK (by omega)));obtain⟨_,k2,k5,k11,kr,kp⟩:=HK.out w7 B7;have hTB:=mD d β m'.root w7 k2)
  | (go_at_call 39;(with_reducible refine jC hTB ?_);rintro e w8 ⟨rfl,hb8⟩;have B8:Below X4.heap.size X4 w8:=B7.trans (hb8.mono B7.size);have U8:=U7.on (Y:=Bl.one X4.heap.size) (vV hb8 (fun k hk=>by simp only [Bl.one] at hk;have:=U7.lt;omega)) rfl;have hSs:=HSS.out w8 (HK.out w8 B8).1.file U8)
  | (go_at_call 64;(with_reducible refine jC hSs ?_);rintro e w9 ⟨rfl,hF9⟩;have B9:Below X4.heap.size X4 w9:=B8.trans (hF9.below B8.size (oK (by omega)));obtain⟨_,k2,k5,k11,kr,kp⟩:=HK.out w9 B9;(try have hFg:=HFG.out rfl w9 B9))
  | (go_at_call 65;(with_reducible refine jC hFg ?_);rintro e w10 ⟨rfl,HR9⟩))
 ·go_ret
  exact⟨rfl,HR9⟩
 ·go_ret
  refine⟨rfl,_,HD4.out.on (vV B9 HD4.out.lies),rfl,rfl,rfl,rfl,?_,?_,?_,rfl,rfl,rfl,rfl,HF4.out.trans (Fr.of_below B9),HG1.out⟩
  ·show ((m.ver:Nat):Int)=_;rw [HMV.out]
  ·exact HMR.out
  ·exact HMR'.out (by simp)
theorem Sc (S:dV K n fs v o ao) (h2:2≤n) (hw:fs.well) (d β:Nat) (sv lv:Value) (w:World) (hd:w.heap[d]?=some (.cells (db0 1 β) 88)) (hf:aG w β sv lv fs) :
  Calls Tryz.prog 36 #[.pointer (some ⟨d,0,none⟩)] w fun e w'=>e=.returned (.int .i64 0)∧∃ D:Db,aN w' 1 D∧D.d=d∧D.β=β∧D.sv=sv∧D.fs=fs∧D.ver=v∧D.root=rootOf o∧D.aroot=rootOf ao∧D.failed=false∧D.last=0∧D.ov=.slice none 0 0∧D.ts=[]∧Fr (Bl.or (Bl.one d) (fpF β sv lv)) w w'∧aJ w (fpF β sv lv) (fpF β sv D.lv):=by
 have hal:=Fs.well_alive hw
 have hsm:fs.safe.length≤4096:=hf.small
 refine(Dw (v:=v) (rootOf ao) 0 (by omega) true true true S.late S.sure.root (by rw [S.len];exact h2) hw d β sv lv w hd hf (fun lv1 X ub hX hU=>Tn hal S.sure.rooted hX hU) (fun _ _ lv1 X ub hX hU=>?_)
  (fun lv1 X hX=>(Wn S.meta0 S.meta1 (by rw [S.len];omega) β sv lv1 hal X hX).mono fun e w' ⟨m,m',he,hb,h1,h2,h3,h4⟩=>⟨m,m'.g,he,hb,h1,h2,rfl,fun _=>h3,fun h=>by cases h⟩)).mono fun e w' h=>?_
 ·exact(Ps β sv lv1 fs hal (rootOf ao) none 0 0 ub ao _ X S.ahead.rooted (yM S.ahead.rooted S.sure.rooted (by rw [List.length_replicate];exact hsm) (tP _ _)) (by rw [gG,List.length_replicate]) hX hU hU.lt).mono fun e w' ⟨h1,_,h3⟩=>⟨h1,h3⟩
 ·rcases h with h|h
  ·cases h.1
  ·exact h.2
structure qCd (K:List ByteArray) (n:Nat) (fs:Fs) (q v:Nat) (o:Option (Nat×T)):Prop where
 lt:q<2
 late:fs.late=[]
 len:fs.safe.length=n
 meta0:fC fs q v (rootOf o)
 bad:qI (fs.at (1-q))
 sure:Tr K fs o
 size:∀ s∈fs.safe,s.size=256
theorem zV.sole (S:zV K n fs v o):qCd K n fs (v % 2) v o:=⟨Nat.mod_lt _ (by decide),S.late,S.len,S.meta0,by have:=S.bad;rwa [show (v+1) % 2=1-v % 2 by omega] at this,S.sure,S.size⟩
theorem Sb (S:qCd K n fs q v o) (h2:2≤n) (hw:fs.well) (d β:Nat) (sv lv:Value) (w:World) (hd:w.heap[d]?=some (.cells (db0 1 β) 88)) (hf:aG w β sv lv fs) :
  Calls Tryz.prog 36 #[.pointer (some ⟨d,0,none⟩)] w fun e w'=>e=.returned (.int .i64 0)∧∃ D:Db,aN w' 1 D∧D.d=d∧D.β=β∧D.sv=sv∧D.fs=(fs.put (1-q) (aY (v:Nat) (rootOf o:Nat)).encS).synced∧D.ver=v∧D.root=rootOf o∧D.aroot=rootOf o∧D.failed=false∧D.last=0∧D.ov=.slice none 0 0∧D.ts=[]∧Fr (Bl.or (Bl.one d) (fpF β sv lv)) w w'∧aJ w (fpF β sv lv) (fpF β sv D.lv):=by
 have hal:=Fs.well_alive hw
 refine(Dw (v:=v) 0 (1-q) (by omega) false true true S.late S.sure.root (by rw [S.len];exact h2) hw d β sv lv w hd hf (fun lv1 X ub hX hU=>Tn hal S.sure.rooted hX hU) (fun h=>by cases h)
  (fun lv1 X hX=>(Qk S.lt S.meta0 S.bad (by rw [S.len];omega) β sv lv1 hal X hX).mono fun e w' ⟨m,m',he,hb,h1,h2,h3⟩=>⟨m,m',he,hb,h1,h2,(by rw [h3]:m'.ok=false),fun h=>(by cases h),fun _=>(by rw [h3]:m'.p=1-q)⟩)).mono fun e w' h=>?_
 rcases h with h|h
 ·cases h.1
 ·exact h.2
theorem aN.beside {st:Int} {D:Db} (h:aN w st D)  (hk:¬ fpD D k) (v:Value):aN (w.setCell ⟨k,i,none⟩ v) st D :=
 h.on ((On.refl (fpD D) w).setCell (p:=⟨k,i,none⟩) hk v)
theorem Ka (D:Db) (g:Nat) (first lb:Array Value) (eg:∀ args w,(callFunc g args).run Tryz.prog w=.ok (.enter g args) w) (w:World) (h:aN w 0 D) (R:Int→Db→Prop)
  (hC:∀ W0,aN W0 1 D→Fr (Bl.one D.d) w W0→w.heap.size<W0.heap.size→Calls Tryz.prog g (first++lb) W0 fun e w'=>∃ z D',e=.returned (.int .i64 z)∧aN w' 1 D'∧D'.d=D.d∧Fr (fpD D) W0 w'∧aJ W0 (fpD D) (fpD D')∧R z D') :
  Calls Tryz.prog 35 #[.pointer (some ⟨D.d,0,none⟩),.func (.func g) first lb] w fun e w'=>∃ z D',e=.returned (.int .i64 z)∧aN w' 0 D'∧D'.d=D.d∧Fr (fpD D) w w'∧aJ w (fpD D) (fpD D')∧R z D':=by
 have dlt:D.d<w.heap.size:=(gL h.box)
 obtain⟨W1,hW1⟩:=nM (w.setCell ⟨D.d,0,none⟩ (.int .i32 1))
 have h1:aN W1 1 D:=hW1▸h.lock
 have F1:Fr (Bl.one D.d) w W1:=hW1▸(Fr.refl (Bl.one D.d) w).setCell (p:=⟨D.d,0,none⟩) (.inl rfl) _
 have s1:W1.heap.size=w.heap.size:=by rw [← hW1];simp
 obtain⟨W0,hW0⟩:=nM (W1.alloc (.cells #[.int .i64 0] 37))
 have B0:Below W1.heap.size W1 W0:=hW0▸(bA _ _)
 have x0:W0.heap[w.heap.size]?=some (.cells #[.int .i64 0] 37):=by rw [← hW0,← s1];exact aA W1 _
 have h0:aN W0 1 D:=h1.on (vV B0 h1.lies)
 have F0:Fr (Bl.one D.d) w W0:=F1.trans (Fr.of_below B0)
 have z0:w.heap.size<W0.heap.size:=(gL x0)
 have nN:¬ fpD D w.heap.size:=fun hk=>by have:=h.lies _ hk;omega
 refine(Du D.d g first lb eg w (fun z W=>∃ D',aN W 1 D'∧D'.d=D.d∧Fr (fpD D) W0 W∧aJ W0 (fpD D) (fpD D')∧R z D') _ h.box rfl ?_).mono ?_
 ·rw [hW1,hW0]
  refine(hC W0 h0 F0 z0).mono ?_
  rintro e w' ⟨z,D',rfl,hD',hd',hF,hG,hR⟩
  exact⟨z,rfl,hF.heap x0 nN,⟨_,hd'▸hD'.box,rfl⟩,D',hD',hd',hF,hG,hR⟩
 ·rintro e w' ⟨z,W,rfl,⟨D',hD',hd',hF,hG,hR⟩,rfl⟩
  have nN':¬ fpD D' w.heap.size:=fun hk=>by
   rcases hG _ hk with h'|h'
   ·exact nN h'
   ·omega
  refine⟨z,D',rfl,?_,hd',?_,?_,hR⟩
  ·have:=(hD'.beside (i:=0) nN' (.int .i64 z)).lock (st':=0)
   rw [hd'] at this
   exact this
  ·exact(((F0.mono (fun k hk=>.inl (.inl hk))).trans hF).setCell (p:=⟨w.heap.size,0,none⟩) (.inr (jU _)) _).setCell (p:=⟨D.d,0,none⟩) (.inl (.inl rfl)) _
  ·intro k hk
   rcases hG k hk with h'|h'
   ·exact .inl h'
   ·exact .inr (by omega)
theorem Ma {fs fs':Fs} {v r ar:Nat} (h2:40≤fs.safe.length) (β:Nat) (sv lv:Value) (w:World) (hf:aG w β sv lv fs) (hLx:∀ d X,X.heap[d]?=some (.cells (db0 1 β) 88)→aG X β sv lv fs→Calls Tryz.prog 36 #[.pointer (some ⟨d,0,none⟩)] X fun e w'=>e=.returned (.int .i64 0)∧∃ D:Db,aN w' 1 D∧D.d=d∧D.β=β∧D.sv=sv∧D.fs=fs'∧D.ver=v∧D.root=r∧D.aroot=ar∧D.failed=false∧D.last=0∧D.ov=.slice none 0 0∧D.ts=[]∧Fr (Bl.or (Bl.one d) (fpF β sv lv)) X w'∧aJ X (fpF β sv lv) (fpF β sv D.lv)) :
  Calls Tryz.prog 16 #[.pointer (some ⟨β,0,none⟩)] w fun e w'=>∃ D:Db,e=.returned (.tuple #[.pointer (some ⟨D.d,0,none⟩),.int .i64 0])∧aN w' 0 D∧D.β=β∧D.sv=sv∧D.fs=fs'∧D.ver=v∧D.root=r∧D.aroot=ar∧D.failed=false∧D.last=0∧D.ts=[]∧Fr (fpF β sv lv) w w'∧aJ w (fpF β sv lv) (fpD D):=by
 obtain⟨W1,hW1⟩:=nM (w.alloc (.cells (db0 0 β) 88))
 have B1:Below w.heap.size w W1:=hW1▸(bA _ _)
 have x1:W1.heap[w.heap.size]?=some (.cells (db0 0 β) 88):=hW1▸aA w _
 have z1:W1.heap.size=w.heap.size+1:=by rw [← hW1];simp
 obtain⟨W2,hW2⟩:=nM (W1.setCell ⟨w.heap.size,0,none⟩ (.int .i32 1))
 have x2:W2.heap[w.heap.size]?=some (.cells (db0 1 β) 88):=by rw [← hW2];have:=aD x1 0 (.int .i32 1);simpa using this
 have F2:Fr (Bl.one w.heap.size) W1 W2:=hW2▸(Fr.refl (Bl.one w.heap.size) W1).setCell (p:=⟨w.heap.size,0,none⟩) (.inl rfl) _
 have z2:W2.heap.size=w.heap.size+1:=by rw [← hW2];simp [z1]
 obtain⟨W3,hW3⟩:=nM (W2.alloc (.cells #[.int .i64 0] 37))
 have B3:Below W2.heap.size W2 W3:=hW3▸(bA _ _)
 have y3:W3.heap[w.heap.size+1]?=some (.cells #[.int .i64 0] 37):=by rw [← hW3,← z2];exact aA W2 _
 have x3:=(B3.block w.heap.size (by omega)).trans x2
 have z3:W3.heap.size=w.heap.size+2:=by rw [← hW3];simp [z2]
 have BB3:Below w.heap.size w W3:=(B1.trans (F2.below (by omega) (oK (by omega)))).trans (B3.mono (by omega))
 have hf3:aG W3 β sv lv fs:=hf.on (vV BB3 hf.lies)
 have hLd:=hLx w.heap.size W3 x3 hf3
 have hPg:=Gt β sv lv fs w hf
 have hn:¬ ((fs.safe.length:Int)<40):=by omega
 have hFc:=Du w.heap.size 36 #[.pointer (some ⟨w.heap.size,0,none⟩)] #[] (enters_of Tryz.func36 (by kernel_rfl) rfl) W1 (fun z W=>z=0∧∃ D:Db,aN W 1 D∧D.d=w.heap.size∧D.β=β∧D.sv=sv∧D.fs=fs'∧D.ver=v∧D.root=r∧D.aroot=ar∧D.failed=false∧D.last=0∧D.ov=.slice none 0 0∧D.ts=[]∧Fr (Bl.or (Bl.one w.heap.size) (fpF β sv lv)) W3 W∧aJ W3 (fpF β sv lv) (fpF β sv D.lv)) _ x1 rfl (by
  rw [hW2,hW3,z1]
  refine hLd.mono ?_
  rintro e w' ⟨rfl,D,hD,h1,h2,h3,h4,h5,h6,h7,h8,h9,h10,h11,hF,hG⟩
  refine⟨0,rfl,hF.heap y3 ?_,⟨_,h1▸hD.box,rfl⟩,rfl,D,hD,h1,h2,h3,h4,h5,h6,h7,h8,h9,h10,h11,hF,hG⟩
  rintro(hk|hk)
  ·simp only [Bl.one] at hk;omega
  ·have:=hf.lies _ hk;omega)
 clear hLd hLx
 go_enter Tryz.func16,Tryz.ntmps16
 go_wp2_with (first
  | (go_at_call 34;(with_reducible refine jC hPg ?_);rintro e w' ⟨rfl,hw'⟩;subst w')
  | (go_at_call 35;(with_reducible refine jC hFc ?_);rintro e X ⟨z,W,rfl,⟨rfl,D,hD,h1,h2,h3,h4,h5,h6,h7,h8,h9,h10,h11,hF,hG⟩,rfl⟩))
 go_ret2
 have nN:¬ fpD D W1.heap.size:=by
  rw [z1]
  rintro(hk|hk|hk|⟨t,ht,hk⟩)
  ·rw [h1] at hk;omega
  ·rw [h2,h3] at hk
   rcases hG _ hk with hk|hk
   ·have:=hf.lies _ hk;omega
   ·omega
  ·rw [h10] at hk;simp [Value.ownBlock] at hk
  ·rw [h11] at ht;simp at ht
 have hD0:=(hD.beside (i:=0) nN (.int .i64 0)).lock (st':=0)
 rw [h1,z1] at hD0
 refine⟨D,by rw [h1];rfl,hD0,h2,h3,h4,h5,h6,h7,h8,h9,h11,?_,?_⟩
 ·have:Fr (fpF β sv lv) w W:=(Fr.of_below BB3).grow hF (fun k hk=>by
   rcases hk with hk|hk
   ·exact .inr (by simp only [Bl.one] at hk;omega)
   ·exact .inl hk)
  exact(this.setCell (p:=⟨w.heap.size+1,0,none⟩) (.inr (by show w.heap.size≤w.heap.size+1;omega)) _).setCell (p:=⟨w.heap.size,0,none⟩) (.inr (jU _)) _
 ·rintro k (hk|hk|hk|⟨t,ht,hk⟩)
  ·exact .inr (by rw [h1] at hk;omega)
  ·rw [h2,h3] at hk
   exact(hG _ hk).imp id (fun h=>by omega)
  ·rw [h10] at hk;simp [Value.ownBlock] at hk
  ·rw [h11] at ht;simp at ht
theorem Mb (S:dV K n fs v o ao) (h2:40≤n) (hw:fs.well) (β:Nat) (sv lv:Value) (w:World) (hf:aG w β sv lv fs) :
  Calls Tryz.prog 16 #[.pointer (some ⟨β,0,none⟩)] w fun e w'=>∃ D:Db,e=.returned (.tuple #[.pointer (some ⟨D.d,0,none⟩),.int .i64 0])∧aN w' 0 D∧D.β=β∧D.sv=sv∧D.fs=fs∧D.ver=v∧D.root=rootOf o∧D.aroot=rootOf ao∧D.failed=false∧D.last=0∧D.ts=[]∧Fr (fpF β sv lv) w w'∧aJ w (fpF β sv lv) (fpD D) :=
 Ma (by rw [S.len];exact h2) β sv lv w hf (fun d X hX hfX=>Sc S (by omega) hw d β sv lv X hX hfX)
theorem Zx (S:qCd K n fs q v o) (h2:40≤n) (hw:fs.well) (β:Nat) (sv lv:Value) (w:World) (hf:aG w β sv lv fs) :
  Calls Tryz.prog 16 #[.pointer (some ⟨β,0,none⟩)] w fun e w'=>∃ D:Db,e=.returned (.tuple #[.pointer (some ⟨D.d,0,none⟩),.int .i64 0])∧aN w' 0 D∧D.β=β∧D.sv=sv∧D.fs=(fs.put (1-q) (aY (v:Nat) (rootOf o:Nat)).encS).synced∧D.ver=v∧D.root=rootOf o∧D.aroot=rootOf o∧D.failed=false∧D.last=0∧D.ts=[]∧Fr (fpF β sv lv) w w'∧aJ w (fpF β sv lv) (fpD D) :=
 Ma (by rw [S.len];exact h2) β sv lv w hf (fun d X hX hfX=>Sb S (by omega) hw d β sv lv X hX hfX)
theorem Pt (hq:q<2) (hlate:fs.late=[]) (hln:fs.safe.length=n) (hm:fC fs q v (rootOf o)) (sure:Tr K fs o) (hz:∀ s∈fs.safe,s.size=256) (hv:v<9223372036854775808) (hn:2≤n):dV K n (fs.put (1-q) (aY (v:Nat) (rootOf o:Nat)).encS).synced v o o:=by
 have hE:(aY (v:Nat) (rootOf o:Nat)).encE=0:=pJ (v:Nat) _ (by omega) (sure.root.imp (fun h=>by rw [h];rfl) id)
 have hf:(fs.put (1-q) (aY (v:Nat) (rootOf o:Nat)).encS).fits:=Fs.fits_put (fun x hx=>by rw [hlate] at hx;simp at hx) (by rw [hln];omega) _
 have hat:∀ p,(fs.put (1-q) (aY (v:Nat) (rootOf o:Nat)).encS).synced.at p=if 1-q=p then (aY (v:Nat) (rootOf o:Nat)).encS else fs.at p:=fun p=>by rw [iG _ hf,wV]
 have hlen:(fs.put (1-q) (aY (v:Nat) (rootOf o:Nat)).encS).synced.safe.length=n:=(cU _ _).trans hln
 have hs:Tr K (fs.put (1-q) (aY (v:Nat) (rootOf o:Nat)).encS).synced o:=sure.stays (fun p hp g hg=>by
  have:=lW sure.rooted sure.flat sure.root p hp
  refine⟨by rw [hlen,← hln];exact hg.1,?_⟩
  rw [hat,if_neg (by omega)]
  exact hg.2)
 have m1:∀ p,p<2→fC (fs.put (1-q) (aY (v:Nat) (rootOf o:Nat)).encS).synced p v (rootOf o):=fun p hp=>by
  by_cases e:1-q=p
  ·refine .inr ?_
   rw [hat,if_pos e]
   exact vX _ (by show ((v:Nat):Int)<_;omega) hE
  ·obtain rfl:p=q:=by omega
   unfold fC at hm ⊢
   rw [hat,if_neg e]
   exact hm
 refine⟨rfl,hlen,m1 _ (Nat.mod_lt _ (by decide)),⟨v,m1 _ (Nat.mod_lt _ (by decide)),.inr ⟨rfl,rfl⟩⟩,hs,hs,mA _ _ hz (fun x hx=>?_)⟩
 simp only [Fs.put,hlate,jE,List.mem_singleton] at hx
 subst hx
 exact iD _ hE
theorem qCd.store (S:qCd K n fs q v o) (hv:v<9223372036854775808) (hn:2≤n):dV K n (fs.put (1-q) (aY (v:Nat) (rootOf o:Nat)).encS).synced v o o:=Pt S.lt S.late S.len S.meta0 S.sure S.size hv hn
