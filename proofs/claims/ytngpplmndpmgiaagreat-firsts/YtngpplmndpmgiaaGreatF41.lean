/-
  Joined: Wr, Ld, Opn.
-/
import Derived.Test.YtngpplmndpmgiaaGreatF40
import Derived.Test.YtngpplmndpmgiaaGreatF38
import Derived.Test.YtngpplmndpmgiaaGreatF34
import Derived.Test.YtngpplmndpmgiaaGreatF32
set_option linter.unusedSimpArgs false
set_option linter.unusedVariables false
set_option maxRecDepth 100000
set_option maxHeartbeats 8000000
namespace Go.Proofs.YtngpplmndpmgiaaGreat.Tree
open Go.RowKit Go.Proofs.YtngpplmndpmgiaaGreat.Pages
theorem RowOn.wr {w:World} {S:Bl} {a:Option Addr} {l:List (Nat×ByteArray)} {j:Nat} (h:RowOn w S a (l.flatMap wcells)) (hj:j<l.length):∃ b off,a=some ⟨b,off,none⟩∧S b∧w.cell? ⟨b,off+j * 2,none⟩=some (.int .i64 (l[j]).1)∧w.cell? ⟨b,off+j * 2+1,none⟩=some (.string (l[j]).2):=by
 obtain⟨c0,c1⟩:=wcells_at hj
 rcases h with h|⟨b,off,ha,hb,hc⟩
 ·rw [h] at c0;simp at c0
 ·exact⟨b,off,ha,hb,hc _ _ c0,hc _ _ c1⟩
def encL (l:List (Nat×Pg)):List (Nat×ByteArray):=l.map fun y=>(y.1,y.2.encS)
theorem wr_any (D:Db) (st:Int) (l:List (Nat×Pg)) (m:MV) (rt:Nat) (wa:Option Addr) (wc:Nat) (S:Bl) (w:World) (h:DbAt w st D) (hw:D.fs.well) (hlate:D.fs.late=[])
  (hR:RowOn w S wa ((encL l).flatMap wcells)) (hS:∀ k,S k→k<w.heap.size∧¬ fpF D.β D.sv D.lv k) (hlc:l.length≤wc) (hll:l.length≤4096)
  (hE:∀ y∈l,y.2.encE=0) (hp:∀ y∈l,y.1<D.fs.safe.length) (hmE:(metaPg m.ver m.root).encE=0) (hms:(metaPg m.ver m.root).small) (h2:2≤D.fs.safe.length) :
  Calls Tryz.prog 102 #[.pointer (some ⟨D.d,0,none⟩),.agg #[.int .i64 (rt:Int),.slice wa l.length wc],.agg #[.int .i64 1,.int .i64 m.ver,.int .i64 m.root,.int .i64 0,.slice m.ka 0 m.kc,.slice m.ia 0 m.ic,.slice m.ea 0 m.ec,.string ⟨#[]⟩]] w fun e w'=>e=.returned (.bool true)∧∃ lv',DbAt w' st { D with lv:=lv',fs:=D.fs.made l (m.ver % 2) (metaPg m.ver m.root) }∧Fr (fpF D.β D.sv D.lv) w w'∧Grows w (fpF D.β D.sv D.lv) (fpF D.β D.sv lv'):=by
 obtain⟨W1,hW1⟩:∃ W1,(w.alloc (.cells #[.int .i64 (rt:Int),.slice wa l.length wc] 174)).alloc (.cells #[.int .i64 1,.int .i64 m.ver,.int .i64 m.root,.int .i64 0,.slice m.ka 0 m.kc,.slice m.ia 0 m.ic,.slice m.ea 0 m.ec,.string ⟨#[]⟩] 72)=W1:=⟨_,rfl⟩
 have B1:Below w.heap.size w W1:=hW1▸((Below.refl _ _).alloc (Nat.le_refl _) _).alloc (by simp) _
 have x1:W1.heap[w.heap.size]?=some (.cells #[.int .i64 (rt:Int),.slice wa l.length wc] 174):=hW1▸heap_keep _ (heap_new w _)
 have x2:W1.heap[w.heap.size+1]?=some (.cells #[.int .i64 1,.int .i64 m.ver,.int .i64 m.root,.int .i64 0,.slice m.ka 0 m.kc,.slice m.ia 0 m.ic,.slice m.ea 0 m.ec,.string ⟨#[]⟩] 72):=by
  rw [← hW1];have:=heap_new (w.alloc (.cells #[.int .i64 (rt:Int),.slice wa l.length wc] 174)) (.cells #[.int .i64 1,.int .i64 m.ver,.int .i64 m.root,.int .i64 0,.slice m.ka 0 m.kc,.slice m.ia 0 m.ic,.slice m.ea 0 m.ec,.string ⟨#[]⟩] 72);simpa using this
 have l2:=(Array.getElem?_eq_some_iff.1 x2).1
 obtain⟨p0,p1⟩:=box2 x1
 obtain⟨m0,m1,m2,m3,m4,m5,m6,m7⟩:=box8 x2
 have hEn:=encoded_any (metaPg m.ver m.root) m.ka m.ia m.ea m.kc m.ic m.ec (fun _=>False) W1 ⟨.inl rfl,.inl rfl,.inl rfl⟩ (fun _ hb=>hb.elim) hms hmE
 simp only [metaPg,List.length_nil,Int.ofNat_zero] at hEn
 obtain⟨ms,hmsd⟩:∃ ms,(metaPg m.ver m.root).encS=ms:=⟨_,rfl⟩
 have HMS:Hid ((metaPg m.ver m.root).encS=ms):=hmsd
 have hEn':Calls Tryz.prog 79 #[.agg #[.int .i64 1,.int .i64 m.ver,.int .i64 m.root,.int .i64 0,.slice m.ka 0 m.kc,.slice m.ia 0 m.ic,.slice m.ea 0 m.ec,.string ⟨#[]⟩]] W1 fun e w'=>e=.returned (.string ms)∧Below W1.heap.size W1 w':=by
  rw [← hmsd];exact hEn
 clear hEn hmsd
 go_enter Tryz.func102,Tryz.ntmps102
 go_wp2_with (go_at_call 79;(with_reducible refine Calls.mono hEn' ?_);rintro e w2 ⟨rfl,hb2⟩;have B2:=B1.trans (hb2.mono B1.size);have y1:=(hb2.block _ (by omega)).trans x1;obtain⟨q0,q1⟩:=box2 y1)
 have y2:=(hb2.block _ l2).trans x2
 have HD:Hid (∀ X,Fr (fpF D.β D.sv D.lv) w X→X.heap[D.d]?=some (dbO st D)∧RowOn X S wa ((encL l).flatMap wcells)):=fun X hX=>⟨hX.heap h.box h.noFile,hR.on (hX.on hS)⟩
 have HS0:Hid (FileAt w2 D.β D.sv D.lv (D.fs.puts (l.take 0))∧Fr (fpF D.β D.sv D.lv) w w2∧Grows w (fpF D.β D.sv D.lv) (fpF D.β D.sv D.lv)∧w2.heap[w.heap.size+1]?=some (.cells #[.int .i64 1,.int .i64 m.ver,.int .i64 m.root,.int .i64 0,.slice m.ka 0 m.kc,.slice m.ia 0 m.ic,.slice m.ea 0 m.ec,.string ⟨#[]⟩] 72)):=by
  refine⟨?_,Fr.of_below B2,Grows.refl _ _,y2⟩
  rw [List.take_zero,puts_nil]
  exact h.file.on (On.of_below B2 h.file.lies)
 have HH:Hid (DbAt w st D):=h
 have HW:Hid _:=hw
 have HE:Hid _:=hE
 have HP:Hid _:=hp
 have HLT:Hid _:=hlate
 clear h hR hS hE hp hw hlate hW1 x1 x2 p0 p1 m0 m1 m2 m3 m4 m5 m6 m7 hEn' y1 y2 q0 q1
 go_loopw [15] (fun a wq=>∃ (j:Nat) (lvj:Value),a=.int .i64 j∧j≤l.length∧Hid (FileAt wq D.β D.sv lvj (D.fs.puts (l.take j))∧Fr (fpF D.β D.sv D.lv) w wq∧Grows w (fpF D.β D.sv D.lv) (fpF D.β D.sv lvj)∧wq.heap[w.heap.size+1]?=some (.cells #[.int .i64 1,.int .i64 m.ver,.int .i64 m.root,.int .i64 0,.slice m.ka 0 m.kc,.slice m.ia 0 m.ic,.slice m.ea 0 m.ec,.string ⟨#[]⟩] 72))) (fun a _=>l.length-(intOf a).toNat)
 case atStart=>exact⟨0,D.lv,rfl,Nat.zero_le _,HS0.out⟩
 case round =>
  obtain⟨j,lvj,rfl,hj,HF⟩:=hrel
  obtain⟨hFj,hFr,hG,hbx⟩:=HF.out
  obtain⟨hdb,hrow⟩:=HD.out wr hFr
  by_cases hlt:j<l.length
  ·have hlti:(j:Int)<(l.length:Int):=by omega
   obtain⟨y,hy⟩:∃ y,l[j]=y:=⟨_,rfl⟩
   have hym:y∈l:=hy▸List.getElem_mem hlt
   obtain⟨rb,ro,hwa,hrb,k0,k1⟩:=hrow.wr (j:=j) (by simp [encL];exact hlt)
   simp only [encL,List.getElem_map,hy] at k0 k1
   subst hwa
   obtain⟨yp,ye⟩:=y
   simp only at k0 k1
   obtain⟨d,hd⟩:∃ d,ye.encS=d:=⟨_,rfl⟩
   rw [hd] at k1
   have hd256:d.size=256:=hd▸enc_size ye (HE.out _ hym)
   have hst:(D.fs.puts (l.take j)).put yp d=D.fs.puts (l.take (j+1)):=by
    rw [List.take_succ_eq_append_getElem hlt,hy,puts_snoc,hd]
   have hroom:(D.fs.puts (l.take j)).late.length<1000000:=by
    simp only [Fs.puts,HLT.out,List.nil_append,List.length_map,List.length_take];omega
   have HWc:Hid (∀ X,Below wr.heap.size wr X→Calls Tryz.prog 78 #[.pointer (some ⟨D.β,0,none⟩),.int .i64 (yp:Int),.string d] X fun e w'=>e=.returned (.bool true)∧∃ lv',FileAt w' D.β D.sv lv' (D.fs.puts (l.take (j+1)))∧Fr (fpF D.β D.sv lvj) X w'∧Grows X (fpF D.β D.sv lvj) (fpF D.β D.sv lv')∧(∀ (k:Nat) (cs:Array Value) (t:TypeId),X.heap[k]?=some (Obj.cells cs t)→t≠60→t≠9→t≠62→w'.heap[k]?=some (Obj.cells cs t))):=by
    intro X hX
    have hFX:=hFj.on (On.of_below hX hFj.lies)
    refine(write_well D.β D.sv lvj (D.fs.puts (l.take j)) yp d X hFX (Fs.well_puts HW.out _) hd256 (HP.out _ hym) hroom).mono ?_
    rintro e w' ⟨he,lv',h1,h2,h3⟩
    rw [hst] at h1
    exact⟨he,lv',h1,h2,h3,fun k cs t hk n1 n2 n3=>h2.heap hk (file_apart hFX hk n1 n2 n3)⟩
   obtain⟨c0,c1,c2,c3,c4,c5,c6,c7,c8,c9,c10,c11,c12,c13,c14⟩:=box15 hdb
   obtain⟨W3,hW3⟩:∃ W3,wr.alloc (.cells #[.int .i64 (yp:Int),.string d] 205)=W3:=⟨_,rfl⟩
   have B3:Below wr.heap.size wr W3:=hW3▸(Below.refl _ _).alloc (Nat.le_refl _) _
   have z3:W3.heap[wr.heap.size]?=some (.cells #[.int .i64 (yp:Int),.string d] 205):=hW3▸heap_new wr _
   have db3:=(B3.block _ (Array.getElem?_eq_some_iff.1 hdb).1).trans hdb
   have bx3:=(B3.block _ (Array.getElem?_eq_some_iff.1 hbx).1).trans hbx
   obtain⟨z0,z1⟩:=box2 z3
   have z2:W3.cell? ⟨D.d,2,none⟩=some (.pointer (some ⟨D.β,0,none⟩)):=by simp [World.cell?,db3]
   clear c0 c1 c2 c3 c4 c5 c6 c7 c8 c9 c10 c11 c12 c13 c14 hst hd hy hrow
   go_wp2
   go_region_held3 (fun X=>X.cell? ⟨D.d,2,none⟩=some (.pointer (some ⟨D.β,0,none⟩))∧X.cell? ⟨wr.heap.size,0,none⟩=some (.int .i64 (yp:Int))∧X.cell? ⟨wr.heap.size,1,none⟩=some (.string d))
    ((first|(with_reducible exact⟨z2,z0,z1⟩)|(simp [z2,z0,z1])))
    (first
     | (go_at_call 78;(with_reducible refine Calls.mono (HWc.out _ ?_) ?_);(first|exact B3.drew|exact B3);rintro e w6 ⟨rfl,lv6,hf6,hr6,hg6,hk6⟩;have db6:=hk6 _ _ _ db3 (by decide) (by decide) (by decide);have bx6:=hk6 _ _ _ bx3 (by decide) (by decide) (by decide);have z6:=hk6 _ _ _ z3 (by decide) (by decide) (by decide);obtain⟨z0,z1⟩:=box2 z6;have z2:w6.cell? ⟨D.d,2,none⟩=some (.pointer (some ⟨D.β,0,none⟩)):=(by simp [World.cell?,db6])))
   all_goals go_wp2
   all_goals
    have F6:Fr (fpF D.β D.sv lvj) wr w6:=by first|exact(Fr.of_below B3.drew).trans hr6|exact(Fr.of_below B3).trans hr6
    have G6:Grows w (fpF D.β D.sv D.lv) (fpF D.β D.sv lv6):=by
     have s1:=hFr.size
     have s2:=B3.size
     first|exact hG.trans (b:=W3.drew) (by show _≤W3.heap.size;omega) hg6|exact hG.trans (b:=W3) (by omega) hg6
    exact⟨⟨j+1,lv6,by simp,by omega,hf6,hFr.grow F6 hG,G6,bx6⟩,by simp [intOf];omega⟩
  ·obtain rfl:j=l.length:=by omega
   have hlti:¬ (l.length:Int)<(l.length:Int):=by omega
   rw [List.take_length] at hFj
   have HY:Hid (∀ X lvx fx,FileAt X D.β D.sv lvx fx→fx.well→fx.fits→Calls Tryz.prog 49 #[.pointer (some ⟨D.β,0,none⟩)] X fun e w'=>e=.returned (.bool true)∧∃ lv',FileAt w' D.β D.sv lv' fx.synced∧Fr (fpF D.β D.sv lvx) X w'∧Grows X (fpF D.β D.sv lvx) (fpF D.β D.sv lv')∧(∀ (k:Nat) (cs:Array Value) (t:TypeId),X.heap[k]?=some (Obj.cells cs t)→t≠60→t≠9→t≠62→w'.heap[k]?=some (Obj.cells cs t))):=fun X lvx fx hX hwx hfx=>(sync_well D.β D.sv lvx fx X hX hwx hfx).mono fun e w' ⟨he,lv',h1,h2,h3⟩=>⟨he,lv',h1,h2,h3,fun k cs t hk n1 n2 n3=>h2.heap hk (file_apart hX hk n1 n2 n3)⟩
   have HZ:Hid (∀ X lvx fx,FileAt X D.β D.sv lvx fx→fx.well→m.ver % 2<fx.safe.length→fx.late.length<1000000→Calls Tryz.prog 78 #[.pointer (some ⟨D.β,0,none⟩),.int .i64 ((m.ver:Int) % 2),.string ms] X fun e w'=>e=.returned (.bool true)∧∃ lv',FileAt w' D.β D.sv lv' (fx.put (m.ver % 2) ms)∧Fr (fpF D.β D.sv lvx) X w'∧Grows X (fpF D.β D.sv lvx) (fpF D.β D.sv lv')∧(∀ (k:Nat) (cs:Array Value) (t:TypeId),X.heap[k]?=some (Obj.cells cs t)→t≠60→t≠9→t≠62→w'.heap[k]?=some (Obj.cells cs t))):=by
    intro X lvx fx hX hwx hmx hrx
    have hmod:(((m.ver % 2:Nat)):Int)=(m.ver:Int) % 2:=by simp
    rw [← hmod]
    exact(write_well D.β D.sv lvx fx (m.ver % 2) ms X hX hwx (HMS.out▸enc_size _ hmE) hmx hrx).mono fun e w' ⟨he,lv',h1,h2,h3⟩=>⟨he,lv',h1,h2,h3,fun k cs t hk n1 n2 n3=>h2.heap hk (file_apart hX hk n1 n2 n3)⟩
   have HPl:Hid (∀ X,Calls Tryz.prog 129 #[.agg #[.int .i64 1,.int .i64 m.ver,.int .i64 m.root,.int .i64 0,.slice m.ka 0 m.kc,.slice m.ia 0 m.ic,.slice m.ea 0 m.ec,.string ⟨#[]⟩]] X fun e w'=>e=.returned (.int .i64 ((m.ver:Int) % 2))∧Below X.heap.size X w'):=by
    intro X
    have:=placeOf_any m X
    rw [show (((m.ver % 2:Nat)):Int)=(m.ver:Int) % 2 by simp] at this
    exact this
   have hfit1:(D.fs.puts l).fits:=by
    intro x hx
    simp only [Fs.puts,HLT.out,List.nil_append,List.mem_map] at hx
    obtain⟨y,hy,rfl⟩:=hx
    exact HP.out y hy
   have hlen1:(D.fs.puts l).synced.safe.length=D.fs.safe.length:=laid_length _ _
   have hfit2:(((D.fs.puts l).synced).put (m.ver % 2) ms).fits:=by
    intro x hx
    simp only [Fs.put,Fs.synced,List.nil_append,List.mem_singleton] at hx
    subst hx
    show m.ver % 2<(laid _ _).length
    rw [laid_length]
    show m.ver % 2<D.fs.safe.length
    omega
   have HS1:=HY.out wr.drew lvj _ (hFj.on (On.of_below (Below.refl _ wr).drew hFj.lies)) (Fs.well_puts HW.out l) hfit1
   have HML:Hid (m.ver % 2<(D.fs.puts l).synced.safe.length):=by show _<_;rw [hlen1];omega
   have HF2:Hid _:=hfit2
   obtain⟨n0,n1,n2,n3,n4,n5,n6,n7⟩:=box8 hbx
   have z2:wr.cell? ⟨D.d,2,none⟩=some (.pointer (some ⟨D.β,0,none⟩)):=by simp [World.cell?,hdb]
   clear hfit1 hfit2 hlen1 hrow
   go_wp2
   go_region_held3 (fun X=>X.cell? ⟨D.d,2,none⟩=some (.pointer (some ⟨D.β,0,none⟩))∧X.cell? ⟨w.heap.size+1,0,none⟩=some (.int .i64 1)∧X.cell? ⟨w.heap.size+1,1,none⟩=some (.int .i64 m.ver)∧X.cell? ⟨w.heap.size+1,2,none⟩=some (.int .i64 m.root)∧X.cell? ⟨w.heap.size+1,3,none⟩=some (.int .i64 0)∧X.cell? ⟨w.heap.size+1,4,none⟩=some (.slice m.ka 0 m.kc)∧X.cell? ⟨w.heap.size+1,5,none⟩=some (.slice m.ia 0 m.ic)∧X.cell? ⟨w.heap.size+1,6,none⟩=some (.slice m.ea 0 m.ec)∧X.cell? ⟨w.heap.size+1,7,none⟩=some (.string ⟨#[]⟩))
    ((first|(with_reducible exact⟨z2,n0,n1,n2,n3,n4,n5,n6,n7⟩)|(simp [z2,n0,n1,n2,n3,n4,n5,n6,n7])))
    (first
     | (go_at_call 49;(with_reducible refine Calls.mono HS1 ?_);rintro e w6 ⟨rfl,lv6,hf6,hr6,hg6,hk6⟩;have db6:=hk6 _ _ _ hdb (by decide) (by decide) (by decide);have bx6:=hk6 _ _ _ hbx (by decide) (by decide) (by decide);obtain⟨n0,n1,n2,n3,n4,n5,n6,n7⟩:=box8 bx6;have z2:w6.cell? ⟨D.d,2,none⟩=some (.pointer (some ⟨D.β,0,none⟩)):=(by simp [World.cell?,db6]))
     | (go_at_call 129;(with_reducible refine Calls.mono (HPl.out _) ?_);rintro e w7 ⟨rfl,hb7⟩;have db7:=(hb7.block _ (Array.getElem?_eq_some_iff.1 db6).1).trans db6;have bx7:=(hb7.block _ (Array.getElem?_eq_some_iff.1 bx6).1).trans bx6;obtain⟨n0,n1,n2,n3,n4,n5,n6,n7⟩:=box8 bx7;have z2:w7.cell? ⟨D.d,2,none⟩=some (.pointer (some ⟨D.β,0,none⟩)):=(by simp [World.cell?,db7]);have hf7:=hf6.on (On.of_below hb7 hf6.lies);have HS2:=HZ.out w7 lv6 _ hf7 (Fs.well_synced (Fs.well_puts HW.out l)) HML.out (by simp [Fs.synced]))
     | (go_at_call 78;(with_reducible refine Calls.mono HS2 ?_);rintro e w8 ⟨rfl,lv8,hf8,hr8,hg8,hk8⟩;have db8:=hk8 _ _ _ db7 (by decide) (by decide) (by decide);have bx8:=hk8 _ _ _ bx7 (by decide) (by decide) (by decide);obtain⟨n0,n1,n2,n3,n4,n5,n6,n7⟩:=box8 bx8;have z2:w8.cell? ⟨D.d,2,none⟩=some (.pointer (some ⟨D.β,0,none⟩)):=(by simp [World.cell?,db8]);have HS3:=HY.out w8 lv8 _ hf8 (Fs.well_put (Fs.well_synced (Fs.well_puts HW.out l)) _ _) HF2.out)
     | (go_at_call 49;(with_reducible refine Calls.mono HS3 ?_);rintro e w9 ⟨rfl,lv9,hf9,hr9,hg9,hk9⟩;have db9:=hk9 _ _ _ db8 (by decide) (by decide) (by decide);have bx9:=hk9 _ _ _ bx8 (by decide) (by decide) (by decide);obtain⟨n0,n1,n2,n3,n4,n5,n6,n7⟩:=box8 bx9;have z2:w9.cell? ⟨D.d,2,none⟩=some (.pointer (some ⟨D.β,0,none⟩)):=(by simp [World.cell?,db9])))
   all_goals go_wp2
   all_goals
    have F6:=hFr.grow ((Fr.refl _ wr).drew.trans hr6) hG
    have G6:=hG.trans (b:=wr.drew) hFr.size hg6
    have F7:=F6.trans (Fr.of_below hb7)
    have F8:=F7.grow hr8 G6
    have G8:=G6.trans F7.size hg8
    have F9:=F8.grow hr9 G8
    have G9:=G8.trans F8.size hg9
    have hDB:=HH.out.refile hf9 F9
    have hmade:D.fs.made l (m.ver % 2) (metaPg m.ver m.root)=(((D.fs.puts l).synced).put (m.ver % 2) ms).synced:=by unfold Fs.made;rw [HMS.out]
    rw [← hmade] at hDB
    go_ret
    exact⟨rfl,lv9,hDB,F9,G9⟩
theorem metas_store {K:List ByteArray} {n:Nat} {fs:Fs} {v:Nat} {o ao:Option (Nat×T)} (S:Store K n fs v o ao) (h2:1<fs.safe.length) (β:Nat) (sv lv:Value) (hl:(fs.life==0)=false) (w:World) (hf:FileAt w β sv lv fs) :
  Calls Tryz.prog 51 #[.pointer (some ⟨β,0,none⟩)] w fun e w'=>∃ m m':MV,e=.returned (.tuple #[.agg m.cells,.agg m'.cells])∧Below w.heap.size w w'∧m.ver=v∧m.root=rootOf o∧m'.root=rootOf ao:=by
 have hm0:=S.meta0
 obtain⟨v',hm1,hv'⟩:=S.meta1
 rcases Nat.mod_two_eq_zero_or_one v with h|h
 ·rw [h] at hm0
  have h':(v+1) % 2=1:=by omega
  rw [h'] at hm1
  refine(readMetas_any β sv lv fs hl v (rootOf o) v' (rootOf ao) w hf h2 hm0 hm1).mono ?_
  rintro e w' ⟨m,m',rfl,hb,h|h⟩
  ·omega
  ·exact⟨m,m',rfl,hb,h.2.2.1,h.2.2.2.1,h.2.2.2.2.2.2⟩
 ·rw [h] at hm0
  have h':(v+1) % 2=0:=by omega
  rw [h'] at hm1
  refine(readMetas_any β sv lv fs hl v' (rootOf ao) v (rootOf o) w hf h2 hm1 hm0).mono ?_
  rintro e w' ⟨m,m',rfl,hb,h|h⟩
  ·exact⟨m,m',rfl,hb,h.2.2.1,h.2.2.2.1,h.2.2.2.2.2.2⟩
  ·omega
abbrev db0 (st:Int) (β:Nat):Array Value:=#[.int .i32 st,.int .u32 0,.pointer (some ⟨β,0,none⟩),.int .i64 0,.int .i64 0,.int .i64 0,.int .i64 0,.slice none 0 0,.slice none 0 0,.slice none 0 0,.string ⟨#[]⟩,.int .i64 0,.bool false,.int .i64 0,.slice none 0 0]
abbrev set9 (w:World) (b:Nat) (v3 v4 v5 v6 v7 v8 v9 v10 v11:Value):World:=((((((((w.setCell ⟨b,3,none⟩ v3).setCell ⟨b,4,none⟩ v4).setCell ⟨b,5,none⟩ v5).setCell ⟨b,6,none⟩ v6).setCell ⟨b,7,none⟩ v7).setCell ⟨b,8,none⟩ v8).setCell ⟨b,9,none⟩ v9).setCell ⟨b,10,none⟩ v10).setCell ⟨b,11,none⟩ v11
theorem set9_fr (w:World) (b:Nat) (v3 v4 v5 v6 v7 v8 v9 v10 v11:Value):Fr (Bl.one b) w (set9 w b v3 v4 v5 v6 v7 v8 v9 v10 v11) :=
 (((((((((Fr.refl (Bl.one b) w).setCell (p:=⟨b,3,none⟩) (.inl rfl) _).setCell (p:=⟨b,4,none⟩) (.inl rfl) _).setCell (p:=⟨b,5,none⟩) (.inl rfl) _).setCell (p:=⟨b,6,none⟩) (.inl rfl) _).setCell (p:=⟨b,7,none⟩) (.inl rfl) _).setCell (p:=⟨b,8,none⟩) (.inl rfl) _).setCell (p:=⟨b,9,none⟩) (.inl rfl) _).setCell (p:=⟨b,10,none⟩) (.inl rfl) _).setCell (p:=⟨b,11,none⟩) (.inl rfl) _
theorem set9_box {w:World} {b:Nat} {x0 x1 x2 x3 x4 x5 x6 x7 x8 x9 x10 x11 x12 x13 x14:Value} {t:TypeId} (h:w.heap[b]?=some (.cells #[x0,x1,x2,x3,x4,x5,x6,x7,x8,x9,x10,x11,x12,x13,x14] t)) (v3 v4 v5 v6 v7 v8 v9 v10 v11:Value):(set9 w b v3 v4 v5 v6 v7 v8 v9 v10 v11).heap[b]?=some (.cells #[x0,x1,x2,v3,v4,v5,v6,v7,v8,v9,v10,v11,x12,x13,x14] t):=by
 have:=set_of (set_of (set_of (set_of (set_of (set_of (set_of (set_of (set_of h 3 v3) 4 v4) 5 v5) 6 v6) 7 v7) 8 v8) 9 v9) 10 v10) 11 v11
 simpa using this
abbrev set8 (w:World) (b:Nat) (v3 v4 v5 v6 v7 v8 v9 v10:Value):World:=(((((((w.setCell ⟨b,3,none⟩ v3).setCell ⟨b,4,none⟩ v4).setCell ⟨b,5,none⟩ v5).setCell ⟨b,6,none⟩ v6).setCell ⟨b,7,none⟩ v7).setCell ⟨b,8,none⟩ v8).setCell ⟨b,9,none⟩ v9).setCell ⟨b,10,none⟩ v10
theorem c8 {w:World} {b k i:Nat} {v3 v4 v5 v6 v7 v8 v9 v10 x:Value} (hk:b≠k) (h:w.cell? ⟨k,i,none⟩=some x):(set8 w b v3 v4 v5 v6 v7 v8 v9 v10).cell? ⟨k,i,none⟩=some x :=
 cell_other hk (cell_other hk (cell_other hk (cell_other hk (cell_other hk (cell_other hk (cell_other hk (cell_other hk h)))))))
theorem c8d {w:World} {b k i:Nat} {v3 v4 v5 v6 v7 v8 v9 v10 x:Value} (hk:b≠k) (h:w.cell? ⟨k,i,none⟩=some x):(set8 w b v3 v4 v5 v6 v7 v8 v9 v10).drew.cell? ⟨k,i,none⟩=some x:=by
 rw [cell_drew];exact c8 hk h
theorem c9 {w:World} {b k i:Nat} {v3 v4 v5 v6 v7 v8 v9 v10 v11 x:Value} (hk:b≠k) (h:w.cell? ⟨k,i,none⟩=some x):(set9 w b v3 v4 v5 v6 v7 v8 v9 v10 v11).cell? ⟨k,i,none⟩=some x:=cell_other hk (c8 hk h)
theorem c9d {w:World} {b k i:Nat} {v3 v4 v5 v6 v7 v8 v9 v10 v11 x:Value} (hk:b≠k) (h:w.cell? ⟨k,i,none⟩=some x):(set9 w b v3 v4 v5 v6 v7 v8 v9 v10 v11).drew.cell? ⟨k,i,none⟩=some x:=by
 rw [cell_drew];exact c9 hk h
theorem synced_self {fs:Fs} (h:fs.late=[]):fs.synced=fs:=by
 cases fs
 simp only at h
 subst h
 rfl
theorem dbload_any {K:List ByteArray} {n:Nat} {fs:Fs} {v:Nat} {o ao:Option (Nat×T)} (S:Store K n fs v o ao) (h2:2≤n) (hw:fs.well) (d β:Nat) (sv lv:Value) (w:World) (hd:w.heap[d]?=some (.cells (db0 1 β) 75)) (hf:FileAt w β sv lv fs) :
  Calls Tryz.prog 29 #[.pointer (some ⟨d,0,none⟩)] w fun e w'=>e=.returned (.int .i64 0)∧∃ D:Db,DbAt w' 1 D∧D.d=d∧D.β=β∧D.sv=sv∧D.fs=fs∧D.ver=v∧D.root=rootOf o∧D.aroot=rootOf ao∧D.failed=false∧D.last=0∧D.ov=.slice none 0 0∧D.ts=[]∧Fr (Bl.or (Bl.one d) (fpF β sv lv)) w w'∧Grows w (fpF β sv lv) (fpF β sv D.lv):=by
 have hlen:1<fs.safe.length:=by rw [S.len];omega
 have hal:=Fs.well_alive hw
 have hnf:¬ fpF β sv lv d:=file_apart hf hd (by decide) (by decide) (by decide)
 obtain⟨c0,c1,c2,c3,c4,c5,c6,c7,c8,c9,c10,c11,c12,c13,c14⟩:=box15 hd
 have hSy:=sync_well β sv lv fs w hf hw (fun x hx=>by rw [S.late] at hx;simp at hx)
 rw [synced_self S.late] at hSy
 clear c0 c1 c3 c4 c5 c6 c7 c8 c9 c10 c11 c12 c13 c14
 go_enter Tryz.func29,Tryz.ntmps29
 go_wp2_with (first
  | (go_at_call 49;(with_reducible refine Calls.mono hSy ?_);rintro e X1 ⟨rfl,lv1,hf1,F1,G1⟩;have e1:=F1.heap hd hnf;obtain⟨c0,c1,c2,c3,c4,c5,c6,c7,c8,c9,c10,c11,c12,c13,c14⟩:=box15 e1;clear c0 c1 c3 c4 c5 c6 c7 c8 c9 c10 c11 c12 c13 c14;have hDe:=dead_any β sv lv1 fs X1 hf1;rw [hal] at hDe;have hMe:=metas_store S hlen β sv lv1 hal X1 hf1)
  | (go_at_call 50;(with_reducible refine Calls.mono hDe ?_);rintro e X1' ⟨rfl,hX1'⟩;subst X1')
  | (go_at_call 51;(with_reducible refine Calls.mono hMe ?_);rintro e X2 ⟨m,m',rfl,hb2,hmv,hmr,hmr'⟩;have HMV:Hid _:=hmv;have HMR:Hid _:=hmr;have HMR':Hid _:=hmr';clear hmv hmr hmr'))
 obtain⟨X3,hX3⟩:∃ X3,(X2.alloc m.obj).alloc m'.obj=X3:=⟨_,rfl⟩
 rw [hX3]
 have b3:Below X2.heap.size X2 X3:=hX3▸((Below.refl _ _).alloc (Nat.le_refl _) _).alloc (by simp) _
 have q3:X3.heap[X2.heap.size]?=some m.obj:=hX3▸heap_keep _ (heap_new X2 _)
 have q4:X3.heap[X2.heap.size+1]?=some m'.obj:=by rw [← hX3];have:=heap_new (X2.alloc m.obj) m'.obj;simpa using this
 have l4:=(Array.getElem?_eq_some_iff.1 q4).1
 have dlt1:=(Array.getElem?_eq_some_iff.1 e1).1
 have z2:=hb2.size
 have e3:=(b3.block d (by omega)).trans ((hb2.block d dlt1).trans e1)
 have B3:Below X1.heap.size X1 X3:=hb2.trans (b3.mono z2)
 obtain⟨x0,x1,x2,x3,x4,x5,x6,x7,x8,x9⟩:=box10 q3
 obtain⟨y0,y1,y2,y3,y4,y5,y6,y7,y8,y9⟩:=box10 q4
 obtain⟨d0,d1,d2,d3,d4,d5,d6,d7,d8,d9,d10,d11,d12,d13,d14⟩:=box15 e3
 have dfr:=free_of e3
 clear hMe hDe hSy hX3
 go_region_held3 (fun X=>X.cell? ⟨X2.heap.size,2,none⟩=some (.int .i64 1)∧X.cell? ⟨X2.heap.size,3,none⟩=some (.int .i64 m.ver)∧X.cell? ⟨X2.heap.size,4,none⟩=some (.int .i64 m.root)∧X.cell? ⟨X2.heap.size,5,none⟩=some (.int .i64 0)∧X.cell? ⟨X2.heap.size,6,none⟩=some (.slice m.ka 0 m.kc)∧X.cell? ⟨X2.heap.size,7,none⟩=some (.slice m.ia 0 m.ic)∧X.cell? ⟨X2.heap.size,8,none⟩=some (.slice m.ea 0 m.ec)∧X.cell? ⟨X2.heap.size,9,none⟩=some (.string ⟨#[]⟩)∧X.cell? ⟨X2.heap.size+1,4,none⟩=some (.int .i64 m'.root))
  ((first|(with_reducible exact⟨x2,x3,x4,x5,x6,x7,x8,x9,y4⟩)|(with_reducible exact⟨c8 (by omega) x2,c8 (by omega) x3,c8 (by omega) x4,c8 (by omega) x5,c8 (by omega) x6,c8 (by omega) x7,c8 (by omega) x8,c8 (by omega) x9,c8 (by omega) y4⟩)|(with_reducible exact⟨c8d (by omega) x2,c8d (by omega) x3,c8d (by omega) x4,c8d (by omega) x5,c8d (by omega) x6,c8d (by omega) x7,c8d (by omega) x8,c8d (by omega) x9,c8d (by omega) y4⟩)|(with_reducible exact⟨c9 (by omega) x2,c9 (by omega) x3,c9 (by omega) x4,c9 (by omega) x5,c9 (by omega) x6,c9 (by omega) x7,c9 (by omega) x8,c9 (by omega) x9,c9 (by omega) y4⟩)|(with_reducible exact⟨c9d (by omega) x2,c9d (by omega) x3,c9d (by omega) x4,c9d (by omega) x5,c9d (by omega) x6,c9d (by omega) x7,c9d (by omega) x8,c9d (by omega) x9,c9d (by omega) y4⟩)|(simp [x2,x3,x4,x5,x6,x7,x8,x9,y4])))
  (fail)
 rename_i hHeld1
 clear hHeld1 x0 x1 x2 x3 x4 x5 x6 x7 x8 x9 y0 y1 y2 y3 y4 y5 y6 y7 y8 y9 d0 d1 d2 d3 d4 d5 d6 d7 d8 d9 d10 d11 d12 d13 d14 dfr c2
 obtain⟨X4,hX4⟩:∃ X4,(set9 X3 d (.int .i64 1) (.int .i64 m.ver) (.int .i64 m.root) (.int .i64 0) (.slice m.ka 0 m.kc) (.slice m.ia 0 m.ic) (.slice m.ea 0 m.ec) (.string ⟨#[]⟩) (.int .i64 m'.root)).drew=X4:=⟨_,rfl⟩
 rw [hX4]
 have f4:Fr (Bl.one d) X3 X4:=hX4▸(set9_fr X3 d _ _ _ _ _ _ _ _ _).drew
 have e4:X4.heap[d]?=some (dbO 1 ⟨d,β,sv,lv1,fs,m.ver,m.root,m'.root,m.ka,m.ia,m.ea,m.kc,m.ic,m.ec,false,0,.slice none 0 0,[]⟩):=by
  rw [← hX4,heap_drew]
  exact set9_box e3 _ _ _ _ _ _ _ _ _
 have q44:X4.heap[X2.heap.size+1]?=some m'.obj:=f4.heap q4 (fun e=>by simp only [Bl.one] at e;omega)
 have nf1:¬ fpF β sv lv1 d:=file_apart hf1 e1 (by decide) (by decide) (by decide)
 have D4:DbAt X4 1 ⟨d,β,sv,lv1,fs,m.ver,m.root,m'.root,m.ka,m.ia,m.ea,m.kc,m.ic,m.ec,false,0,.slice none 0 0,[]⟩:=by
  refine⟨e4,?_,World.ownsRow_nil _ _ _ _,by simp,.nil⟩
  exact(hf1.on (On.of_below B3 hf1.lies)).on (f4.on (fun k hk=>⟨Nat.lt_of_lt_of_le (hf1.lies k hk) B3.size,fun e=>nf1 (by simp only [Bl.one] at e;exact e▸hk)⟩))
 have F4:Fr (Bl.or (Bl.one d) (fpF β sv lv)) w X4:=((F1.mono (fun k hk=>.inl (.inr hk))).trans (Fr.of_below B3)).trans (f4.mono (fun k hk=>.inl (.inl hk)))
 obtain⟨w5,hmk,hU5,hb5⟩:=made_used X4
 have HK:Hid (∀ X,Below X4.heap.size X4 X→DbAt X 1 ⟨d,β,sv,lv1,fs,m.ver,m.root,m'.root,m.ka,m.ia,m.ea,m.kc,m.ic,m.ec,false,0,.slice none 0 0,[]⟩∧X.cell? ⟨d,2,none⟩=some (.pointer (some ⟨β,0,none⟩))∧X.cell? ⟨d,5,none⟩=some (.int .i64 m.root)∧X.cell? ⟨d,11,none⟩=some (.int .i64 m'.root)∧X.cell? ⟨X2.heap.size+1,1,none⟩=some (.bool true)):=by
  intro X hX
  have h1:=D4.on (On.of_below hX D4.lies)
  obtain⟨c0,c1,c2,c3,c4,c5,c6,c7,c8,c9,c10,c11,c12,c13,c14⟩:=box15 h1.box
  have h2:=(hX.block _ (Array.getElem?_eq_some_iff.1 q44).1).trans q44
  exact⟨h1,c2,c5,c11,(box10 h2).2.1⟩
 obtain⟨_,k2,k5,k11,kr⟩:=HK.out w5 hb5
 have hro:Rooted fs m.root o:=HMR.out▸S.sure.rooted
 have hrao:Rooted fs m'.root ao:=HMR'.out▸S.ahead.rooted
 have hsm:fs.safe.length≤4096:=hf.small
 have hTA:=treeAt_any d β m.root w5 k2
 have HS:Hid _:=S
 have HRO:Hid _:=hro
 have HRA:Hid _:=hrao
 have HF4:Hid _:=F4
 have HG1:Hid _:=G1
 have HD4:Hid _:=D4
 have HMT:Hid (∀ X os oo (root:Nat),Below X4.heap.size X4 X→Rooted fs root oo→OShut os oo→os.length=4096→UsedAt X X4.heap.size os→Calls Tryz.prog 52 #[.agg #[.pointer (some ⟨β,0,none⟩),.int .i64 (root:Int),.slice none 0 0],.slice (some ⟨X4.heap.size,0,none⟩) 4096 4096] X fun e w'=>(∃ v,e=.returned v)∧UsedAt w' X4.heap.size (marks os (opages oo))∧Below X4.heap.size X4 w'):=by
  intro X os oo root hX hoo hsh hl hU
  exact(Mark_any β sv lv1 fs hal root none 0 0 X4.heap.size oo os X hoo hsh hl (HK.out X hX).1.file hU).mono fun e w' ⟨he,hu',hf'⟩=>⟨he,hu',hX.trans (hf'.below hX.size (fun k hk=>by simp only [Bl.one] at hk;omega))⟩
 clear hX4 hf hd hf1 F1 G1 e1 e3 e4 q3 q4 q44 b3 B3 f4 nf1 D4 F4 hro hrao S hw
 go_wp2_with (first
  | (go_at_call 32;(with_reducible refine Calls.mono hTA ?_);rintro e w6 ⟨rfl,hb6⟩;have B6:Below X4.heap.size X4 w6:=hb5.trans (hb6.mono hb5.size);have U6:UsedAt w6 X4.heap.size (List.replicate 4096 false):=hU5.on (Y:=Bl.one X4.heap.size) (On.of_below hb6 (fun k hk=>by simp only [Bl.one] at hk;have:=hU5.lt;omega)) rfl;have hM:=HMT.out w6 (List.replicate 4096 false) o m.root B6 HRO.out (oshut_base _ _) (by simp) U6)
  | (go_at_call 52;(with_reducible refine Calls.mono hM ?_);rintro e w7 ⟨⟨v7,rfl⟩,U7,B7⟩;obtain⟨_,k2,k5,k11,kr⟩:=HK.out w7 B7;have hTB:=treeAt_any d β m'.root w7 k2)
  | (go_at_call 32;(with_reducible refine Calls.mono hTB ?_);rintro e w8 ⟨rfl,hb8⟩;have B8:Below X4.heap.size X4 w8:=B7.trans (hb8.mono B7.size);have U8:=U7.on (Y:=Bl.one X4.heap.size) (On.of_below hb8 (fun k hk=>by simp only [Bl.one] at hk;have:=U7.lt;omega)) rfl;have hSt:=stands_any β sv lv1 fs hal m'.root none 0 0 X4.heap.size ao (marks (List.replicate 4096 false) (opages o)) w8 HRA.out (oshut_after HRA.out HRO.out (by rw [List.length_replicate];exact hsm) (oshut_base _ _)) (by rw [marks_length,List.length_replicate]) (HK.out w8 B8).1.file U8 U8.lt)
  | (go_at_call 53;(with_reducible refine Calls.mono hSt ?_);rintro e w9 ⟨rfl,U9,hF9⟩;have B9:Below X4.heap.size X4 w9:=B8.trans (hF9.below B8.size (fun k hk=>by simp only [Bl.one] at hk;omega))))
 go_ret
 refine⟨rfl,_,HD4.out.on (On.of_below B9 HD4.out.lies),rfl,rfl,rfl,rfl,?_,?_,?_,rfl,rfl,rfl,rfl,HF4.out.trans (Fr.of_below B9),HG1.out⟩
 ·show ((m.ver:Nat):Int)=_;rw [HMV.out]
 ·exact HMR.out
 ·exact HMR'.out
theorem DbAt.beside {w:World} {st:Int} {D:Db} (h:DbAt w st D) {k i:Nat} (hk:¬ fpD D k) (v:Value):DbAt (w.setCell ⟨k,i,none⟩ v) st D :=
 h.on ((On.refl (fpD D) w).setCell (p:=⟨k,i,none⟩) hk v)
theorem face_db (D:Db) (g:Nat) (first lb:Array Value) (eg:∀ args w,(callFunc g args).run Tryz.prog w=.ok (.enter g args) w) (w:World) (h:DbAt w 0 D) (R:Int→Db→Prop)
  (hC:∀ W0,DbAt W0 1 D→Fr (Bl.one D.d) w W0→w.heap.size<W0.heap.size→Calls Tryz.prog g (first++lb) W0 fun e w'=>∃ z D',e=.returned (.int .i64 z)∧DbAt w' 1 D'∧D'.d=D.d∧Fr (fpD D) W0 w'∧Grows W0 (fpD D) (fpD D')∧R z D') :
  Calls Tryz.prog 28 #[.pointer (some ⟨D.d,0,none⟩),.func (.func g) first lb] w fun e w'=>∃ z D',e=.returned (.int .i64 z)∧DbAt w' 0 D'∧D'.d=D.d∧Fr (fpD D) w w'∧Grows w (fpD D) (fpD D')∧R z D':=by
 have dlt:D.d<w.heap.size:=(Array.getElem?_eq_some_iff.1 h.box).1
 obtain⟨W1,hW1⟩:∃ W1,w.setCell ⟨D.d,0,none⟩ (.int .i32 1)=W1:=⟨_,rfl⟩
 have h1:DbAt W1 1 D:=hW1▸h.lock
 have F1:Fr (Bl.one D.d) w W1:=hW1▸(Fr.refl (Bl.one D.d) w).setCell (p:=⟨D.d,0,none⟩) (.inl rfl) _
 have s1:W1.heap.size=w.heap.size:=by rw [← hW1];simp
 obtain⟨W0,hW0⟩:∃ W0,W1.alloc (.cells #[.int .i64 0] 37)=W0:=⟨_,rfl⟩
 have B0:Below W1.heap.size W1 W0:=hW0▸(Below.refl _ _).alloc (Nat.le_refl _) _
 have x0:W0.heap[w.heap.size]?=some (.cells #[.int .i64 0] 37):=by rw [← hW0,← s1];exact heap_new W1 _
 have h0:DbAt W0 1 D:=h1.on (On.of_below B0 h1.lies)
 have F0:Fr (Bl.one D.d) w W0:=F1.trans (Fr.of_below B0)
 have z0:w.heap.size<W0.heap.size:=(Array.getElem?_eq_some_iff.1 x0).1
 have nN:¬ fpD D w.heap.size:=fun hk=>by have:=h.lies _ hk;omega
 refine(face_any D.d g first lb eg w (fun z W=>∃ D',DbAt W 1 D'∧D'.d=D.d∧Fr (fpD D) W0 W∧Grows W0 (fpD D) (fpD D')∧R z D') _ h.box rfl ?_).mono ?_
 ·rw [hW1,hW0]
  refine(hC W0 h0 F0 z0).mono ?_
  rintro e w' ⟨z,D',rfl,hD',hd',hF,hG,hR⟩
  exact⟨z,rfl,hF.heap x0 nN,⟨_,hd'▸hD'.box,rfl⟩,D',hD',hd',hF,hG,hR⟩
 ·rintro e w' ⟨z,W,rfl,⟨D',hD',hd',hF,hG,hR⟩,rfl⟩
  have nN':¬ fpD D' w.heap.size:=fun hk=>by
   rcases hG _ hk with h'|h'
   ·exact nN h'
   ·omega
  refine⟨z,D',rfl,?_,hd',?_,?_,hR⟩
  ·have:=(hD'.beside (i:=0) nN' (.int .i64 z)).lock (st':=0)
   rw [hd'] at this
   exact this
  ·exact(((F0.mono (fun k hk=>.inl (.inl hk))).trans hF).setCell (p:=⟨w.heap.size,0,none⟩) (.inr (Nat.le_refl _)) _).setCell (p:=⟨D.d,0,none⟩) (.inl (.inl rfl)) _
  ·intro k hk
   rcases hG k hk with h'|h'
   ·exact .inl h'
   ·exact .inr (by omega)
theorem open_any {K:List ByteArray} {n:Nat} {fs:Fs} {v:Nat} {o ao:Option (Nat×T)} (S:Store K n fs v o ao) (h2:40≤n) (hw:fs.well) (β:Nat) (sv lv:Value) (w:World) (hf:FileAt w β sv lv fs) :
  Calls Tryz.prog 14 #[.pointer (some ⟨β,0,none⟩)] w fun e w'=>∃ D:Db,e=.returned (.tuple #[.pointer (some ⟨D.d,0,none⟩),.int .i64 0])∧DbAt w' 0 D∧D.β=β∧D.sv=sv∧D.fs=fs∧D.ver=v∧D.root=rootOf o∧D.aroot=rootOf ao∧D.failed=false∧D.last=0∧D.ts=[]∧Fr (fpF β sv lv) w w'∧Grows w (fpF β sv lv) (fpD D):=by
 obtain⟨W1,hW1⟩:∃ W1,w.alloc (.cells (db0 0 β) 75)=W1:=⟨_,rfl⟩
 have B1:Below w.heap.size w W1:=hW1▸(Below.refl _ _).alloc (Nat.le_refl _) _
 have x1:W1.heap[w.heap.size]?=some (.cells (db0 0 β) 75):=hW1▸heap_new w _
 have z1:W1.heap.size=w.heap.size+1:=by rw [← hW1];simp
 obtain⟨W2,hW2⟩:∃ W2,W1.setCell ⟨w.heap.size,0,none⟩ (.int .i32 1)=W2:=⟨_,rfl⟩
 have x2:W2.heap[w.heap.size]?=some (.cells (db0 1 β) 75):=by rw [← hW2];have:=set_of x1 0 (.int .i32 1);simpa using this
 have F2:Fr (Bl.one w.heap.size) W1 W2:=hW2▸(Fr.refl (Bl.one w.heap.size) W1).setCell (p:=⟨w.heap.size,0,none⟩) (.inl rfl) _
 have z2:W2.heap.size=w.heap.size+1:=by rw [← hW2];simp [z1]
 obtain⟨W3,hW3⟩:∃ W3,W2.alloc (.cells #[.int .i64 0] 37)=W3:=⟨_,rfl⟩
 have B3:Below W2.heap.size W2 W3:=hW3▸(Below.refl _ _).alloc (Nat.le_refl _) _
 have y3:W3.heap[w.heap.size+1]?=some (.cells #[.int .i64 0] 37):=by rw [← hW3,← z2];exact heap_new W2 _
 have x3:=(B3.block w.heap.size (by omega)).trans x2
 have z3:W3.heap.size=w.heap.size+2:=by rw [← hW3];simp [z2]
 have BB3:Below w.heap.size w W3:=(B1.trans (F2.below (by omega) (fun k hk=>by simp only [Bl.one] at hk;omega))).trans (B3.mono (by omega))
 have hf3:FileAt W3 β sv lv fs:=hf.on (On.of_below BB3 hf.lies)
 have hLd:=dbload_any S (by omega) hw w.heap.size β sv lv W3 x3 hf3
 have hPg:=pages_any β sv lv fs w hf
 have hn:¬ ((fs.safe.length:Int)<40):=by rw [S.len];omega
 have hFc:=face_any w.heap.size 29 #[.pointer (some ⟨w.heap.size,0,none⟩)] #[] (enters_of Tryz.func29 (by kernel_rfl) rfl) W1 (fun z W=>z=0∧∃ D:Db,DbAt W 1 D∧D.d=w.heap.size∧D.β=β∧D.sv=sv∧D.fs=fs∧D.ver=v∧D.root=rootOf o∧D.aroot=rootOf ao∧D.failed=false∧D.last=0∧D.ov=.slice none 0 0∧D.ts=[]∧Fr (Bl.or (Bl.one w.heap.size) (fpF β sv lv)) W3 W∧Grows W3 (fpF β sv lv) (fpF β sv D.lv)) _ x1 rfl (by
  rw [hW2,hW3,z1]
  refine hLd.mono ?_
  rintro e w' ⟨rfl,D,hD,h1,h2,h3,h4,h5,h6,h7,h8,h9,h10,h11,hF,hG⟩
  refine⟨0,rfl,hF.heap y3 ?_,⟨_,h1▸hD.box,rfl⟩,rfl,D,hD,h1,h2,h3,h4,h5,h6,h7,h8,h9,h10,h11,hF,hG⟩
  rintro(hk|hk)
  ·simp only [Bl.one] at hk;omega
  ·have:=hf.lies _ hk;omega)
 clear hLd
 go_enter Tryz.func14,Tryz.ntmps14
 go_wp2_with (first
  | (go_at_call 27;(with_reducible refine Calls.mono hPg ?_);rintro e w' ⟨rfl,hw'⟩;subst w')
  | (go_at_call 28;(with_reducible refine Calls.mono hFc ?_);rintro e X ⟨z,W,rfl,⟨rfl,D,hD,h1,h2,h3,h4,h5,h6,h7,h8,h9,h10,h11,hF,hG⟩,rfl⟩))
 go_ret2
 have nN:¬ fpD D W1.heap.size:=by
  rw [z1]
  rintro(hk|hk|hk|⟨t,ht,hk⟩)
  ·rw [h1] at hk;omega
  ·rw [h2,h3] at hk
   rcases hG _ hk with hk|hk
   ·have:=hf.lies _ hk;omega
   ·omega
  ·rw [h10] at hk;simp [Value.ownBlock] at hk
  ·rw [h11] at ht;simp at ht
 have hD0:=(hD.beside (i:=0) nN (.int .i64 0)).lock (st':=0)
 rw [h1,z1] at hD0
 refine⟨D,by rw [h1];rfl,hD0,h2,h3,h4,h5,h6,h7,h8,h9,h11,?_,?_⟩
 ·have:Fr (fpF β sv lv) w W:=(Fr.of_below BB3).grow hF (fun k hk=>by
   rcases hk with hk|hk
   ·exact .inr (by simp only [Bl.one] at hk;omega)
   ·exact .inl hk)
  exact(this.setCell (p:=⟨w.heap.size+1,0,none⟩) (.inr (by show w.heap.size≤w.heap.size+1;omega)) _).setCell (p:=⟨w.heap.size,0,none⟩) (.inr (Nat.le_refl _)) _
 ·rintro k (hk|hk|hk|⟨t,ht,hk⟩)
  ·exact .inr (by rw [h1] at hk;omega)
  ·rw [h2,h3] at hk
   exact(hG _ hk).imp id (fun h=>by omega)
  ·rw [h10] at hk;simp [Value.ownBlock] at hk
  ·rw [h11] at ht;simp at ht
end Go.Proofs.YtngpplmndpmgiaaGreat.Tree
