import Derived.Shelf.RegionOpenPlain
import Derived.Test.YtpifffkkgnbfpaaGreatT21
set_option linter.unusedSimpArgs false
set_option linter.unusedVariables false
set_option maxRecDepth 100000
set_option maxHeartbeats 8000000
namespace Go.Proofs.YtpifffkkgnbfpaaGreat.Tree
open Go.RowKit Pages
structure Dr (w:World) (b:Nat) (p v:Value) (l:List UInt8):Prop where
 box:w.heap[b]?=some (.cells #[p,v] 141)
 row:w.ownsRow 0 5 1 v l.length (Lib.byteCells l)
def fpB (b:Nat) (v:Value):Bl:=fun k=>k=b∨v.ownBlock=some k
theorem Od:∃ j,Tryz.prog.info? 141=some j∧j.size=2:=by
 have:(Tryz.prog.info? 141).map (·.size)=some 2:=by kernel_rfl
 obtain⟨j,hj,hs⟩:=Option.map_eq_some_iff.1 this
 exact⟨j,hj,hs⟩
theorem qBz:liesAt Tryz.prog Tryz.prog.depth 141 (2 / Tryz.prog.cellsOf 141) 0 141 1=true:=by kernel_rfl
theorem Rz (b:Nat) (w:World) (h0:w.cell? ⟨b,0,none⟩=some (.pointer (some ⟨b,0,none⟩))) :
  Calls Tryz.prog 114 #[.pointer (some ⟨b,0,none⟩)] w fun e w'=>e=.returned (.tuple #[])∧w'=w:=by
 obtain⟨j,hj,hjs⟩:=Od
 go_enter Tryz.func114,Tryz.ntmps114
 go_wp2
 rw [Lib.run_neq_ptr_same w _ Tryz.underlying139 hj]
 go_wp2
 go_end0
 exact⟨rfl,rfl⟩
theorem Xt (b:Nat) (w:World) (h0:w.cell? ⟨b,0,none⟩=some (.pointer none)) (hsh:w.shape? b=some (141,2)) (hfz:w.frozen? ⟨b,0,none⟩=false) :
  Calls Tryz.prog 114 #[.pointer (some ⟨b,0,none⟩)] w fun e w'=>e=.returned (.tuple #[])∧w'=w.setCell ⟨b,0,none⟩ (.pointer (some ⟨b,0,none⟩)):=by
 obtain⟨j,hj,hjs⟩:=Od
 go_enter Tryz.func114,Tryz.ntmps114
 go_wp2
 rw [Lib.run_to_unsafe w ⟨b,0,none⟩ Tryz.underlying139 Tryz.underlying162 hj (by rw [hjs];decide) hsh (Nat.zero_lt_succ 1)]
 simp only [Result.andThen]
 rw [Oper.upon_value]
 go_wp2
 rw [run_callFunc_extern Tryz.func138 (by kernel_rfl) (by kernel_rfl) (by kernel_rfl) (e:=Extern.AbiNoEscape.same) (by kernel_rfl)]
 rw [Lib.run_noEscape]
 simp only [Result.andThen]
 rw [Oper.upon_value]
 go_wp2
 rw [Lib.run_from_unsafe w ⟨b,0,none⟩ Tryz.underlying162 Tryz.underlying139 hj hsh qBz]
 simp only [Result.andThen]
 rw [Oper.upon_value]
 go_wp2
 go_end0
 exact⟨rfl,rfl⟩
theorem Xu (b:Nat) (p v:Value) (l:List UInt8) (w:World) (h:Dr w b p v l) (hp:p=.pointer none∨p=.pointer (some ⟨b,0,none⟩)) :
  Calls Tryz.prog 114 #[.pointer (some ⟨b,0,none⟩)] w fun e w'=>e=.returned (.tuple #[])∧Dr w' b (.pointer (some ⟨b,0,none⟩)) v l∧Fr (Bl.one b) w w':=by
 have c0:w.cell? ⟨b,0,none⟩=some p:=by simp [World.cell?,h.box]
 rcases hp with rfl|rfl
 ·refine(Xt b w c0 (by simp [World.shape?,h.box]) (aG h.box 0)).mono ?_
  rintro e w' ⟨rfl,rfl⟩
  have hne:=aX h.row h.box (by decide)
  refine⟨rfl,⟨by simpa using aF h.box 0 (.pointer (some ⟨b,0,none⟩)),?_⟩,(Fr.refl (Bl.one b) w).setCell (p:=⟨b,0,none⟩) (.inl rfl) _⟩
  exact bK h.row ((On.refl (fun k=>v.ownBlock=some k) w).setCell (p:=⟨b,0,none⟩) (fun hk=>hne hk) _) (fun k hk=>hk)
 ·refine(Rz b w c0).mono ?_
  rintro e w' ⟨rfl,rfl⟩
  exact⟨rfl,h,Fr.refl _ _⟩
theorem Hc:∃ i,Tryz.prog.info? 5=some i∧i.zero=some (.int .u8 0)∧i.size=1∧i.bytes=1:=by
 have:(Tryz.prog.info? 5).map (fun i=>(i.zero,i.size,i.bytes))=some (some (.int .u8 0),1,1):=by kernel_rfl
 obtain⟨i,hi,hx⟩:=Option.map_eq_some_iff.1 this
 simp only [Prod.mk.injEq] at hx
 exact⟨i,hi,hx.1,hx.2.1,hx.2.2⟩
theorem qCk (w:World) (ty:TypeId) (v:Value) (n:Nat) (xs:List Value) (hv:w.ownsRow 0 5 1 v n xs) (s:ByteArray) (hb:n+s.size≤1000000) :
  ∃ v' w',(Builtin.append_ #[115,9] ty #[v,.string s]).run Tryz.prog w=.ok v' w'∧lN 5 1 v n xs (Lib.strCells s) s.size w v' w':=by
 obtain⟨i,hi,hz0,hz1,hz2⟩:=Hc
 obtain⟨v',w',hr,h2,h3,h4⟩:=Lib.run_append_own_string (P:=Tryz.prog) w 0 115 9 ty 5 i Tryz.underlying115 Tryz.underlying9 hi hz0 hz1 hz2 v n xs hv s (by unfold maxLen;omega) (by omega) (Nat.zero_le _)
 refine⟨v',w',hr,h2,(Fr.refl _ w).grown h3 (fun k hk=>.inl hk),fun k hk=>?_⟩
 have hxl:xs.length=n:=by simpa using hv.1
 rcases hv.2 with⟨rfl,rfl⟩|⟨g,cap,cur,rfl,hbg,hg,hnc,hcm,hcs,htake⟩
 ·by_cases hm:s.size=0
  ·rw [h4.2 ⟨rfl,hm⟩] at hk
   simp [Value.ownBlock] at hk
  ·have hr':=run_append_nil_string (P:=Tryz.prog) w 115 9 ty 5 i (.int .u8 0) Tryz.underlying115 Tryz.underlying9 hi hz0 s (by omega) (by omega) (by rw [hz2];omega)
   rw [hr] at hr'
   simp only [Result.ok.injEq] at hr'
   rw [hr'.1] at hk
   simp [Value.ownBlock] at hk
   exact .inr (by omega)
 ·by_cases hroom:n+s.size≤cap
  ·have hr':=Lib.run_append_room_string (P:=Tryz.prog) w 115 9 ty 5 i Tryz.underlying115 Tryz.underlying9 hi hz1 g n cap cur hg s hroom (by omega)
   rw [hr] at hr'
   simp only [Result.ok.injEq] at hr'
   rw [hr'.1] at hk
   exact .inl (by simpa [Value.ownBlock] using hk)
  ·have holds:∀ j u,xs[j]?=some u→w.cell? ((⟨g,0,none⟩:Addr).add j)=some u:=World.ownsRow.cells (w:=w) hv (g:=g) rfl
   have hr':=Lib.run_append_grow_string (P:=Tryz.prog) w 115 9 ty 5 i (.int .u8 0) Tryz.underlying115 Tryz.underlying9 hi hz0 ⟨g,0,none⟩ n cap xs (by rw [hz1];simpa using hxl) holds s (by omega) (by omega) (by rw [hz2];exact growslice_fits (by omega) (by omega))
   rw [hr] at hr'
   simp only [Result.ok.injEq] at hr'
   rw [hr'.1] at hk
   simp [Value.ownBlock] at hk
   exact .inr (by omega)
theorem qEf {ops:Array Oper} {rest:List Oper} {o:Oper} {a:Act} {Q:Exit→Act→World→Prop} (w:World) (hgd:o.guard=none) (sl x:Operand)
  (ho:o.op=.call { callee:=.builtin .append,args:=#[sl,x],argTypes:=#[115,9] })
  (v:Value) (n:Nat) (xs:List Value) (hs:a.eval sl=v) (hown:w.ownsRow 0 5 1 v n xs) (s:ByteArray) (hx:a.eval x=.string s) (hb:n+s.size≤1000000)
  (h:∀ v' w',lN 5 1 v n xs (Lib.strCells s) s.size w v' w'→wpList Tryz.prog ops Q rest (a.put o.dst v') w'):wpList Tryz.prog ops Q (o :: rest) a w:=by
 refine wpList_plain hgd fun K hK=>?_
 obtain⟨v',w',hr,h2⟩:=qCk w o.type v n xs hown s hb
 unfold Oper.wp execOp
 simp only [ho,resolve,invoke,builtin,Sem.run_bind,Sem.run_pure,Result.andThen_ok,List.map_toArray,List.map_cons,List.map_nil,hs,hx,hr]
 exact hK _ _ (h v' w' h2)
theorem Sc (b:Nat) (p v:Value) (l:List UInt8) (s:ByteArray) (w:World) (h:Dr w b p v l) (hp:p=.pointer none∨p=.pointer (some ⟨b,0,none⟩)) (hlen:l.length+s.size≤1000000) :
  Calls Tryz.prog 80 #[.pointer (some ⟨b,0,none⟩),.string s] w fun e w'=>(∃ r,e=.returned r)∧∃ v',Dr w' b (.pointer (some ⟨b,0,none⟩)) v' (l++s.data.toList)∧Fr (fpB b v) w w'∧aH w (fpB b v) (fpB b v'):=by
 obtain⟨va,vc,rfl⟩:=aP h.row
 have hCk:=Xu b p _ l w h hp
 go_enter Tryz.func80,Tryz.ntmps80
 go_wp2_with (first
  | (go_at_call 114;(with_reducible refine jC hCk ?_);rintro e w1 ⟨rfl,h1,f1⟩;have c0:w1.cell? ⟨b,0,none⟩=some (.pointer (some ⟨b,0,none⟩)):=(by simp [World.cell?,h1.box]);have c1:w1.cell? ⟨b,1,none⟩=some (.slice va l.length vc):=(by simp [World.cell?,h1.box]);have hne:=aX h1.row h1.box (by decide))
  | (at_builtin;refine qEf w1 rfl _ _ rfl _ _ _ rfl h1.row s rfl (by omega) ?_;intro v' w2 A;have hb2:w2.heap[b]?=some (.cells #[.pointer (some ⟨b,0,none⟩),.slice va l.length vc] 141):=A.fr.heap h1.box hne;have d0:w2.cell? ⟨b,0,none⟩=some (.pointer (some ⟨b,0,none⟩)):=(by simp [World.cell?,hb2]);have d1:w2.cell? ⟨b,1,none⟩=some (.slice va l.length vc):=(by simp [World.cell?,hb2]);have f1':w2.frozen? ⟨b,1,none⟩=false:=aG hb2 1;have hrow:=A.row;have HA:Hid (lN 5 1 (.slice va l.length vc) l.length (Lib.byteCells l) (Lib.strCells s) s.size w1 v' w2):=A;obtain⟨ao,cap,rfl⟩:=aP hrow;clear A))
 go_ret2
 have hb3:=aF hb2 1 (.slice ao (l.length+s.size) cap)
 have hne2:=aX hrow hb2 (by decide)
 have F:Fr (fpB b (.slice va l.length vc)) w w2:=((f1.mono (fun k hk=>.inl (.inl hk))):Fr (fpB b (.slice va l.length vc)) w w1).trans (HA.out.fr.mono (fun k hk=>.inl (.inr hk)))
 refine⟨⟨_,rfl⟩,.slice ao (l.length+s.size) cap,⟨by simpa using hb3,?_⟩,F.setCell (p:=⟨b,1,none⟩) (.inl (.inl rfl)) _,?_⟩
 ·have hz:(l++s.data.toList).length=l.length+s.size:=by simp
  rw [hz,Lib.byteCells_append,← Lib.strCells_eq]
  exact bK hrow ((On.refl (fun k=>Value.ownBlock _=some k) w2).setCell (p:=⟨b,1,none⟩) (fun hk=>hne2 hk) _) (fun k hk=>hk)
 ·rintro k (rfl|hk)
  ·exact .inl (.inl rfl)
  ·rcases HA.out.lies k hk with h|h
   ·exact .inl (.inr h)
   ·exact .inr (vJ f1.size h)
theorem Fr.freeze {Y:Bl} {a w:World} (h:Fr Y a w) {p:Addr} (hp:Y p.block∨a.heap.size≤p.block) (n:Nat):Fr Y a (w.freeze p n):=by
 unfold World.freeze
 split
 ·exact h
 ·refine⟨h.os,h.tape,h.output,by simpa using h.size,fun k hk hy=>?_⟩
  show (w.heap.modify _ _)[k]?=_
  rw [Array.getElem?_modify,if_neg (fun e=>by subst e;rcases hp with hp|hp;exact hy hp;omega)]
  exact h.block k hk hy
theorem Nz (b:Nat) (p v:Value) (l:List UInt8) (w:World) (h:Dr w b p v l) (h0:l≠[]) (hl:l.length≤1000000) :
  Calls Tryz.prog 81 #[.pointer (some ⟨b,0,none⟩)] w fun e w'=>e=.returned (.string ⟨l.toArray⟩)∧Fr (fun k=>v.ownBlock=some k) w w':=by
 have hl0:l.length≠0:=by simpa using h0
 have hown:=h.row
 obtain⟨g,cap,cur,rfl,hbg,hg,hnc,hcm,hcs,htake⟩:∃ g cap cur,v=.slice (some ⟨g,0,none⟩) l.length cap∧0≤g∧w.heap[g]?=some (.cells cur 5 (0,0))∧l.length≤cap∧cap≤maxLen∧cur.size=cap * 1∧cur.toList.take (l.length * 1)=Lib.byteCells l:=by
  rcases hown.2 with⟨_,hz⟩|⟨g,cap,cur,hv,r⟩
  ·exact absurd hz hl0
  ·exact⟨g,cap,cur,hv,r⟩
 have c1:w.drew.cell? ⟨b,1,none⟩=some (.slice (some ⟨g,0,none⟩) l.length cap):=by
  have:w.drew.heap[b]?=some (.cells #[p,.slice (some ⟨g,0,none⟩) l.length cap] 141 (0,0)):=h.box
  simp [World.cell?,this]
 have hSD:(Builtin.unsafeSliceData_ #[115] 168 #[.slice (some ⟨g,0,none⟩) l.length cap]).run Tryz.prog w.drew=.ok (.pointer (some ⟨g,0,none⟩)) w.drew :=
  Lib.run_unsafeSliceData_row _ _ _ _ _ _ (by omega)
 have hUS:(Builtin.unsafeString_ #[168,3] 9 #[.pointer (some ⟨g,0,none⟩),.int .i64 l.length]).run Tryz.prog w.drew=.ok (.string ⟨l.toArray⟩) (w.drew.freeze ⟨g,0,none⟩ l.length):=by
  refine Lib.run_unsafeString_row w.drew 168 3 9 5 Tryz.underlying168 (by kernel_rfl) g cur.size (by have hg':w.drew.heap[g]?=some (.cells cur 5 (0,0)):=hg;simp [World.shape?,hg']) l h0 (by omega) (by omega) ?_
  intro j x hx
  have:=World.ownsRow.cells (w:=w) hown (g:=g) rfl j (.int .u8 x.toNat) (by simp [Lib.byteCells,hx])
  exact this
 have mixed:Tryz.prog.follows .mixedOrders=true:=by kernel_rfl
 go_enter Tryz.func81,Tryz.ntmps81
 go_wp2
 go_region_o
 all_goals (go_wp2;go_ret;exact⟨rfl,Fr.freeze (Y:=fun k=>(Value.slice (some ⟨g,0,none⟩) l.length cap).ownBlock=some k) (Fr.refl _ w).drew (p:=⟨g,0,none⟩) (.inl rfl) _⟩)
open Go.Shelf
attribute [local go_sem] Oper.semAt_some
theorem Di {fs:Fs}:∀ (ch:List (Nat×Pg)) (p r:Nat),dJ fs p r ch→(eH ch).length=r
 | [],_,_,h=>h.symm
 | x :: l,p,r,h=>by
  obtain⟨_,h1,_,_,h4,nx,_,_,h7⟩:=h
  have:=Di l nx _ h7
  rw [eH,List.flatMap_cons,jK]
  rw [eH] at this
  rw [this]
  have hz:x.2.data.data.toList.length=x.2.data.size:=by simp
  rw [hz]
  omega
theorem yW (pre:List (Nat×Pg)) (x:Nat×Pg):eH (pre++[x])=eH pre++x.2.data.data.toList:=by simp [eH]
theorem Sb (pre post:List (Nat×Pg)):(eH pre).length≤(eH (pre++post)).length:=by simp [eH]
theorem Yg (β:Nat) (root:Int) (ca:Option Addr) (cn cc:Nat) (k v:ByteArray) (size:Int) (w:World) :
  Calls Tryz.prog 57 #[.agg (tA β root ca cn cc),.agg #[.string k,.string v,.int .i64 size,.int .i64 0]] w fun e w'=>e=.returned (.string v)∧Below w.heap.size w w':=by
 have HB:Hid (Below w.heap.size w ((w.alloc (.cells (tA β root ca cn cc) 95)).alloc (.cells #[.string k,.string v,.int .i64 size,.int .i64 0] 108))):=(bA _ _).alloc (by simp) _
 go_enter Tryz.func57,Tryz.ntmps57
 go_wp2
 go_ret
 exact⟨rfl,HB.out⟩
theorem Ot (β:Nat) (sv lv:Value) (fs:Fs) (hl:(fs.life==0)=false) (root:Int) (ca:Option Addr) (cn cc:Nat) (k v:ByteArray) (size over:Nat) (ch:List (Nat×Pg)) (w:World) (hf:aD w β sv lv fs) (hov:0<over) (hch:dJ fs over size ch) (hs0:0<size) (hs:size≤400) :
  Calls Tryz.prog 57 #[.agg (tA β root ca cn cc),.agg #[.string k,.string v,.int .i64 size,.int .i64 over]] w fun e w'=>e=.returned (.string ⟨(eH ch).toArray⟩)∧Below w.heap.size w w':=by
 have hovb:((over:Int)==0)=false:=by simp;omega
 have hlen:=Di ch over size hch
 obtain⟨W1,hW1⟩:=nM ((w.alloc (.cells (tA β root ca cn cc) 95)).alloc (.cells #[.string k,.string v,.int .i64 size,.int .i64 over] 108))
 have z1:W1.heap.size=w.heap.size+2:=by rw [← hW1];simp
 have t1:W1.heap[w.heap.size]?=some (.cells (tA β root ca cn cc) 95):=hW1▸aB _ (aA w _)
 have e1:W1.heap[w.heap.size+1]?=some (.cells #[.string k,.string v,.int .i64 size,.int .i64 over] 108):=by
  rw [← hW1];have:=aA (w.alloc (.cells (tA β root ca cn cc) 95)) (.cells #[.string k,.string v,.int .i64 size,.int .i64 over] 108);simpa using this
 obtain⟨W2,hW2⟩:=nM (W1.alloc (.cells #[.pointer none,.slice none 0 0] 141))
 have b2:W2.heap[w.heap.size+2]?=some (.cells #[.pointer none,.slice none 0 0] 141):=by rw [← z1];exact hW2▸aA W1 _
 have t2:W2.heap[w.heap.size]?=some (.cells (tA β root ca cn cc) 95):=hW2▸aB _ t1
 have e2:W2.heap[w.heap.size+1]?=some (.cells #[.string k,.string v,.int .i64 size,.int .i64 over] 108):=hW2▸aB _ e1
 have z2:W2.heap.size=w.heap.size+3:=by rw [← hW2];simp [z1]
 have B2:Below w.heap.size w W2:=by rw [← hW2,← hW1];exact((bA _ _).alloc (by simp) _).alloc (by simp;omega) _
 obtain⟨a0,a1,a2,a3⟩:=gH e1
 obtain⟨c0,c1,c2,c3⟩:=gH e2
 obtain⟨d0,d1,d2⟩:=dR t2
 have hCc:=uF root β ca cn cc k v size over W2
 have HZ:Hid (W1.heap.size=w.heap.size+2∧W2.heap.size=w.heap.size+3):=⟨z1,z2⟩
 rw [z2] at hCc
 refine(callsIn_wide (n:=0)).1 (callsIn_of_wp_marks Tryz.func57 rfl trivial ?_ rfl)
 simp only [Tryz.ntmps57,jA,jB,jN,Nat.reduceAdd,Nat.reduceSub,jR,jO,jP,jT,jE,jF]
 gi_wp2_with (refine⟨trivial,rfl,?_⟩;gi_at_call 79;refine(callsIn_wide.2 hCc).mono ?_;clear hCc;rintro e W3 ⟨rfl,v1,v2,hb3⟩)
 have hb3':Below W2.heap.size W2 W3:=by rw [HZ.out.2];exact hb3
 have f3:Fr Bl.none W2 W3:=Fr.of_below hb3'
 have b3:=f3.heap b2 (fun h=>h)
 have z3:w.heap.size+3+1<W3.heap.size:=(gL v2)
 have hf3:aD W3 β sv lv fs:=(hf.on (vV B2 hf.lies)).on (f3.on (fun k hk=>⟨(hf.on (vV B2 hf.lies)).lies k hk,fun h=>h⟩))
 let b:=w.heap.size+2
 let Rc:Bl:=fun k=>k=w.heap.size+3∨k=w.heap.size+3+1∨fpF β sv lv k
 have hit:=uE (w.heap.size+3+1) (w.heap.size+3) β sv lv fs root ca cn cc k v size over ch Rc W3 v2 v1 hf3 hl (.inr (.inl rfl)) (.inl rfl) (fun k hk=>.inr (.inr hk)) (by omega) (.inr ⟨hov,hch⟩)
 let I:List (Nat×Pg)→Bl→World→Prop:=fun pre Y W=>∃ p vb,Dr W b p vb (eH pre)∧(p=.pointer none∨p=.pointer (some ⟨b,0,none⟩))∧(∀ k,Y k↔fpB b vb k)∧(∀ k,vb.ownBlock=some k→w.heap.size≤k)
 have hfl:=hf.lies
 refine eM (P:=Tryz.prog) (Has:=Hx) (Rd:=Rc) rfl (enters_of Tryz.func111 (by kernel_rfl) rfl) hit (fun x args S W hH=>by obtain⟨v,rfl,_⟩:=hH;rfl) I (fun _ _ _ _=>False) ?_ (fun _ _ _ _ _ h=>h.elim) ?_ (fun _ _ _ _ h=>h.elim) (Bl.one b) ⟨.pointer none,.slice none 0 0,⟨b3,by simpa [eH,Lib.byteCells] using World.ownsRow_nil _ _ _ _⟩,.inl rfl,fun k=>by simp [Bl.one,fpB,Value.ownBlock],by simp [Value.ownBlock]⟩ ?_ ?_ ?_ (fun _ _ _ _ _ _ _ _ _ h=>h.elim)
 ·rintro pre Y A B ⟨p,vb,⟨h1,h2⟩,hp,h3,h4⟩ ho
  exact⟨p,vb,⟨ho.heap h1 ((h3 _).2 (.inl rfl)),bK h2 ho (fun k hk=>(h3 k).2 (.inr hk))⟩,hp,h3,h4⟩
 ·rintro pre Y A ⟨p,vb,⟨h1,h2⟩,hp,h3,h4⟩ k hk
  rcases (h3 k).1 hk with rfl|h
  ·exact(gL h1)
  ·exact aZ h2 h
 ·rintro k (rfl|rfl|hk)
  ·exact⟨fun h=>by simp only [Bl.one,b] at h;omega,by omega⟩
  ·exact⟨fun h=>by simp only [Bl.one,b] at h;omega,by omega⟩
  ·exact⟨fun h=>by simp only [Bl.one,b] at h;have:=hfl k hk;omega,by have:=hfl k hk;omega⟩
 ·rintro l pre x rest args S Y' W hx ⟨p,vb,hB,hp,h3,h4⟩ hH hS hFW hGW hl0 hl1 hl2 ⟨r,hr⟩
  obtain⟨pv,rfl,ka,ia,ea,kc,ic,ec,rfl,_⟩:=hH
  obtain⟨q,g⟩:=x
  have hle:(eH pre).length+g.data.size≤400:=by
   have h5:=Sb (pre++[(q,g)]) rest
   have h6:(eH (pre++[(q,g)])).length=(eH pre).length+g.data.size:=by rw [yW,jK];simp
   have h7:pre++[(q,g)]++rest=ch:=by rw [hx];simp
   rw [h7,h6,hlen] at h5
   omega
  have HX:Hid (eH (pre++[(q,g)])=eH pre++g.data.data.toList):=yW pre (q,g)
  clear hx
  have aW:Fr Bl.none W (W.alloc (pgO g ka ia ea kc ic ec)):=(Fr.refl _ W).alloc _
  unfold gI
  gi_wp2
  refine⟨(Fr.refl _ W).alloc _,?_⟩
  intro W₂ hT
  have x2:=hT.heap (k:=W.heap.size) (aA W (pgO g ka ia ea kc ic ec)) (Nat.ne_of_gt hl1)
  obtain⟨m0,m1,m2,m3,m4,m5,m6,m7⟩:=bF x2
  have fX:Fr (Bl.one l) W W₂:=(aW.mono (fun _ h=>h.elim)).trans hT.fr
  have hB2:Dr W₂ b p vb (eH pre):=⟨fX.heap hB.box (fun h=>by simp only [Bl.one] at h;exact hl2 ((h3 _).2 (.inl h.symm))),bK hB.row (fX.on (Z:=fun k=>vb.ownBlock=some k) (fun k hk=>⟨aZ hB.row hk,fun h=>by simp only [Bl.one] at h;subst h;exact hl2 ((h3 _).2 (.inr hk))⟩)) (fun k hk=>hk)⟩
  have hWr:=Sc b p vb (eH pre) g.data W₂ hB2 hp (by omega)
  have z2':W.heap.size≤W₂.heap.size:=fX.size
  gi_wp2_with (refine⟨trivial,rfl,?_⟩;gi_at_call 80;refine(callsIn_wide.2 hWr).mono ?_;clear hWr;rintro e W4 ⟨⟨rr,rfl⟩,vb',hB4,hF4,hG4⟩)
  refine⟨fpB b vb',⟨_,vb',by rw [HX.out];exact hB4,.inr rfl,fun k=>Iff.rfl,?_⟩,hF4.mono (fun k hk=>.inl ((h3 k).2 hk)),fun k hk=>(hG4 k hk).imp (fun h=>(h3 k).2 h) id⟩
  intro k hk
  rcases hG4 k (.inr hk) with(rfl|h)|h
  ·show w.heap.size≤w.heap.size+2;omega
  ·exact h4 k h
  ·have:=hFW.size;omega
 ·rintro D Y' W hD hYD ⟨p,vb,hB,hp,h3,h4⟩ hFW hGW hDW
  have hm:Marks w.heap.size [mk D] W:=(Marks.nil w.heap.size W3).cons (fun D' _ h=>hFW.heap h (fun e=>by simp only [Bl.one,b] at e;subst e;rw [b3] at h;simp at h)) (by omega) hDW hD
  have hSt:=Nz b p vb (eH ch) W hB (fun h=>by rw [h] at hlen;simp at hlen;omega) (by omega)
  gi_wp2_with (refine⟨trivial,rfl,?_⟩;gi_at_call 81;refine(callsIn_wide.2 hSt).mono ?_;clear hSt;rintro e W4 ⟨rfl,hF4⟩)
  have hm4:Marks w.heap.size [mk D] W4:=hm.on (fun D' _ h=>hF4.heap h (fun hk=>by
   rcases hB.row.2 with⟨h0,_⟩|⟨g,cap,cur,hv,_,hg,_⟩
   ·rw [h0] at hk;simp [Value.ownBlock] at hk
   ·rw [hv] at hk
    simp [Value.ownBlock] at hk
    subst hk
    rw [hg] at h
    simp at h))
  refine Nh rfl hm4 ?_
  intro w' ht'
  have F4:Fr Bl.none w W4:=(((Fr.of_below B2:Fr Bl.none w W2).trans f3).grow hFW (fun k hk=>.inr (by simp only [Bl.one,b] at hk;omega))).grow hF4 (fun k hk=>.inr (h4 k hk))
  exact⟨rfl,(F4.took ht' (jU _)).below0⟩
theorem Aq (β:Nat) (sv lv:Value) (fs:Fs) (hl:(fs.life==0)=false) (root:Int) (ca:Option Addr) (cn cc:Nat) (X:En) (w:World) (hf:aD w β sv lv fs) (hX:X.ok fs) (h0:X.e.over≠0→X.e.size≠0) :
  Calls Tryz.prog 57 #[.agg (tA β root ca cn cc),.agg #[.string X.e.key,.string X.e.val,.int .i64 X.e.size,.int .i64 X.e.over]] w fun e w'=>e=.returned (.string ⟨X.value.toArray⟩)∧Below w.heap.size w w':=by
 obtain⟨size,over,h1,h2,h3,h4⟩:=hX
 rcases h4 with⟨rfl,_⟩|⟨h5,h6⟩
 ·have hv:(⟨X.value.toArray⟩:ByteArray)=X.e.val:=by
   unfold En.value
   rw [if_pos (by rw [h2];rfl)]
  rw [hv,h2]
  exact Yg β root ca cn cc X.e.key X.e.val X.e.size w
 ·have hv:X.value=eH X.ch:=by
   unfold En.value
   rw [if_neg (by rw [h2];omega)]
  rw [hv,h1,h2]
  exact Ot β sv lv fs hl root ca cn cc X.e.key X.e.val size over X.ch w hf h5 h6 (by have:=h0 (by rw [h2];omega);rw [h1] at this;omega) h3
