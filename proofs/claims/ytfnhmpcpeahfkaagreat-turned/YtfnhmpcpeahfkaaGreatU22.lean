/-
  Joined: File5, File6, Load, Load2, Node.
-/
import Derived.Test.YtfnhmpcpeahfkaaGreatU21
import Derived.Test.YtfnhmpcpeahfkaaGreatU18
import Derived.Test.YtfnhmpcpeahfkaaGreatU14
set_option linter.unusedSimpArgs false
set_option linter.unusedVariables false
set_option maxRecDepth 100000
set_option maxHeartbeats 8000000
namespace Go.Proofs.YtfnhmpcpeahfkaaGreat.Tree
open Go.RowKit Pages
variable {P:Program} {w:World}
theorem tD:(Tryz.prog.info? 9).map (fun i=>(i.zero,i.size,i.bytes))=some (some (.string ⟨#[]⟩),1,16):=by kernel_rfl
def Fs.new (n:Nat):Fs:=⟨List.replicate n (dX 256),[],-1,-1,0⟩
theorem qYv (n:Nat) (w:World) (hn:n≤4096) :
  Calls Tryz.prog 33 #[.int .i64 n] w fun e w'=>∃ β sv lv,e=.returned (.pointer (some ⟨β,0,none⟩))∧aH w' β sv lv (Fs.new n)∧Below w.heap.size w w'∧∀ k,fpF β sv lv k→w.heap.size≤k:=by
 have hmin:min (n:Int) 4096=(n:Int):=by omega
 have hb0:=aB w (.cells #[.slice none 0 0,.slice none 0 0,.int .i64 (-1),.int .i64 (-1),.int .i64 0] 73)
 have HB0:Hid (Below w.heap.size w (w.alloc (.cells #[.slice none 0 0,.slice none 0 0,.int .i64 (-1),.int .i64 (-1),.int .i64 0] 73))):=(Below.refl _ _).alloc (Nat.le_refl _) _
 have HF0:Hid (aH (w.alloc (.cells #[.slice none 0 0,.slice none 0 0,.int .i64 (-1),.int .i64 (-1),.int .i64 0] 73)) w.heap.size (.slice none 0 0) (.slice none 0 0) (Fs.new 0)) :=
  ⟨by simpa [Fs.new] using hb0,World.ownsRow_nil _ _ _ _,World.ownsRow_nil _ _ _ _,by simp [Fs.new],by simp [Fs.new]⟩
 go_enter Tryz.func33,Tryz.ntmps33
 go_wp2
 go_loopw [4] (fun i wr=>∃ (j:Nat) (sv:Value),j≤n∧i=.int .i64 j∧aH wr w.heap.size sv (.slice none 0 0) (Fs.new j)∧Below w.heap.size w wr∧∀ k,sv.ownBlock=some k→w.heap.size≤k) (fun i _=>n-(intOf i).toNat)
 case atStart=>exact⟨0,_,Nat.zero_le _,rfl,HF0.out,HB0.out,by simp [Value.ownBlock]⟩
 case round =>
  obtain⟨j,sv,hj,rfl,hr,hB,hK⟩:=hrel
  clear hb0 HB0 HF0
  obtain⟨c0,c1,c2,c3,c4⟩:=dC hr.box
  have hfr:=aJ hr.box
  by_cases hlt:j<n
  ·have hlen:(Fs.new j).safe.length=j:=by simp [Fs.new]
   go_wp2
   go_region_law (first
    | (go_simp;go_at_call 58;refine(qDk 256 _ (by omega)).mono ?_;rintro e w2 ⟨rfl,hb2⟩;have f2:Fr Bl.none wr w2:=(Fr.refl _ _).drew.trans (Fr.of_below hb2);have h2:=hr.on (f2.on (fun k hk=>⟨hr.lies k hk,fun h=>h⟩));obtain⟨e0,e1,e2,e3,e4⟩:=dC h2.box;have q1:=(dC (aF (.cells #[.string (dX 256)] 9) h2.box)).1)
    | (refine jP w2 rfl (.tmp 17) (.tmp 19) 70 9 _ 1 16 rfl Tryz.underlying70 tD rfl (by decide) sv (Fs.new j).safe.length ((Fs.new j).safe.map .string) (by simp [Act.eval,Act.put]) h2.safe [.string (dX 256)] (by simp [Act.eval,Act.put]) rfl (by simp [Value.oneCell']) (by omega) (by omega) ?_;intro v3 w3 A3;obtain⟨g3,k3,rfl⟩:=A3.shape (by decide);have b3:=A3.fr.heap h2.box (bD h2.safe h2.box (by decide));obtain⟨m0,m1,m2,m3,m4⟩:=dC b3;have mfr:=aJ b3))
   all_goals go_wp2
   all_goals
    have b4:=aI b3 0 (.slice (some ⟨g3,0,none⟩) ((Fs.new j).safe.length+1) k3)
    have lβ:w.heap.size<wr.heap.size:=(Array.getElem?_eq_some_iff.1 hr.box).1
    have bw3:Below w.heap.size w w3:=hB.trans ((f2.below (Nat.le_of_lt lβ) (fun _ h=>h.elim)).trans (A3.fr.below (Nat.le_trans (Nat.le_of_lt lβ) f2.size) hK))
    refine⟨⟨j+1,.slice (some ⟨g3,0,none⟩) ((Fs.new j).safe.length+1) k3,by omega,by go_num,?_,bw3.setCell (p:=⟨w.heap.size,0,none⟩) (Nat.le_refl _) _,?_⟩,by simp [intOf];omega⟩
    ·refine⟨by simpa [Fs.new] using b4,?_,World.ownsRow_nil _ _ _ _,by simp [Fs.new];omega,by simp [Fs.new]⟩
     have e1:(Fs.new (j+1)).safe.map Value.string=(Fs.new j).safe.map .string++[.string (dX 256)]:=by simp [Fs.new,List.replicate_succ']
     have e2:(Fs.new (j+1)).safe.length=(Fs.new j).safe.length+1:=by simp [Fs.new]
     rw [e1,e2]
     exact bN A3.row ((On.refl (fun k=>Value.ownBlock _=some k) w3).setCell (p:=⟨w.heap.size,0,none⟩) (fun hk=>bD A3.row b3 (by decide) hk) _) (fun k hk=>hk)
    ·intro k hk
     rcases A3.lies k hk with h|h
     ·exact hK k h
     ·exact Nat.le_trans (Nat.le_trans (Nat.le_of_lt lβ) f2.size) h
  ·obtain rfl:j=n:=by omega
   go_wp2
   go_ret
   refine⟨w.heap.size,sv,.slice none 0 0,rfl,hr,hB,?_⟩
   rintro k (hk|hk|hk)
   ·exact Nat.le_of_eq hk.symm
   ·exact hK k hk
   ·simp [Value.ownBlock] at hk
theorem qMc (w:World) (T ty E:TypeId) (zero:Value) (z bytes:Nat) (hT:P.underlying T=some (.slice E)) (hi:(P.info? E).map (fun i=>(i.zero,i.size,i.bytes))=some (some zero,z,bytes)) :
  (Builtin.append_ #[T,T] ty #[.slice none 0 0,.slice none 0 0]).run P w=.ok (.slice none 0 0) w:=by
 obtain⟨i0,hi0,hz0,hz1,hz2⟩:=info_parts hi
 simp [Builtin.append_,run_underlying hT,sizeOf,typeInfo,hi0,hz0,hz1,hz2,go_sem]
theorem qXn (w:World) (T ty E:TypeId) (zero:Value) (z bytes:Nat) (hT:P.underlying T=some (.slice E)) (hi:(P.info? E).map (fun i=>(i.zero,i.size,i.bytes))=some (some zero,z,bytes)) (hzs:zero.cells.size=z) (hsz:0<z)
  (v:Value) (n:Nat) (xs:List Value) (hv:w.ownsRow 0 E z v n xs) (h1:∀ u∈xs,u.oneCell'=true) (h63:n≤140737488355328) (hb:n * bytes≤140737488355328) :
  ∃ v' w',(Builtin.append_ #[T,T] ty #[.slice none 0 0,v]).run P w=.ok v' w'∧w'.ownsRow 0 E z v' n xs∧Below w.heap.size w w'∧∀ k,v'.ownBlock=some k→w.heap.size≤k:=by
 obtain⟨hl,h2⟩:=id hv
 rcases h2 with⟨rfl,rfl⟩|⟨g,cap,cur,rfl,_,hg,_⟩
 ·refine⟨_,_,qMc w T ty E zero z bytes hT hi,?_,Below.refl _ _,by simp [Value.ownBlock]⟩
  obtain rfl:xs=[]:=List.eq_nil_of_length_eq_zero (by simpa using hl)
  exact World.ownsRow_nil _ _ _ _
 ·have hc:=World.ownsRow.cells (w:=w) hv (g:=g) rfl
  obtain⟨v',w',hr,A⟩:=rU (P:=P) w T ty E zero z bytes hT hi hzs hsz (.slice none 0 0) 0 [] (World.ownsRow_nil _ _ _ _) ⟨g,0,none⟩ n cap xs hl hc h1 (by omega) (by simpa using hb)
  refine⟨v',w',hr,by simpa using A.row,A.fr.below (Nat.le_refl _) (by simp [Value.ownBlock]),fun k hk=>?_⟩
  rcases A.lies k hk with h|h
  ·simp [Value.ownBlock] at h
  ·exact h
theorem qZt {ops:Array Oper} {rest:List Oper} {o:Oper} {a:Act} {Q:Exit→Act→World→Prop} (w:World) (hgd:o.guard=none) (x:Operand) (T E:TypeId) (zero:Value) (z bytes:Nat)
  (ho:o.op=.call { callee:=.builtin .append,args:=#[.const (.slice none 0 0),x],argTypes:=#[T,T] }) (hT:P.underlying T=some (.slice E)) (hi:(P.info? E).map (fun i=>(i.zero,i.size,i.bytes))=some (some zero,z,bytes)) (hzs:zero.cells.size=z) (hsz:0<z)
  (v:Value) (n:Nat) (xs:List Value) (hx:a.eval x=v) (hv:w.ownsRow 0 E z v n xs) (h1:∀ u∈xs,u.oneCell'=true) (h63:n≤140737488355328) (hb:n * bytes≤140737488355328)
  (h:∀ v' w',w'.ownsRow 0 E z v' n xs→Below w.heap.size w w'→(∀ k,v'.ownBlock=some k→w.heap.size≤k)→wpList P ops Q rest (a.put o.dst v') w'):wpList P ops Q (o :: rest) a w:=by
 refine wpList_plain hgd fun K hK=>?_
 obtain⟨v',w',hr,A1,A2,A3⟩:=qXn (P:=P) w T o.type E zero z bytes hT hi hzs hsz v n xs hv h1 h63 hb
 have hc:a.eval (.const (.slice none 0 0))=.slice none 0 0:=rfl
 unfold Oper.wp execOp
 simp only [ho,resolve,invoke,builtin,Sem.run_bind,Sem.run_pure,Result.andThen_ok,List.map_toArray,List.map_cons,List.map_nil,hc,hx,hr]
 exact hK _ _ (h v' w' A1 A2 A3)
theorem qLj (β:Nat) (sv lv:Value) (fs:Fs) (w:World) (h:aH w β sv lv fs) :
  Calls Tryz.prog 14 #[.pointer (some ⟨β,0,none⟩)] w fun e w'=>∃ β' sv' lv',e=.returned (.pointer (some ⟨β',0,none⟩))∧aH w' β' sv' lv' fs∧Below w.heap.size w w'∧∀ k,fpF β' sv' lv' k→w.heap.size≤k:=by
 obtain⟨sa0,sc0,rfl⟩:=aT h.safe
 obtain⟨la0,lc0,rfl⟩:=aT h.late
 obtain⟨c0,c1,c2,c3,c4⟩:=dC h.box
 obtain⟨W1,hW1⟩:=nM (w.alloc (.cells #[.slice sa0 fs.safe.length sc0,.slice la0 fs.late.length lc0,.int .i64 fs.wait,.int .i64 fs.life,.int .i64 fs.failed] 73))
 have b1:W1.heap[w.heap.size]?=some (.cells #[.slice sa0 fs.safe.length sc0,.slice la0 fs.late.length lc0,.int .i64 fs.wait,.int .i64 fs.life,.int .i64 fs.failed] 73):=hW1▸aB w _
 have B1:Below w.heap.size w W1:=hW1▸(Below.refl _ _).alloc (Nat.le_refl _) _
 have s1:w.heap.size<W1.heap.size:=by rw [← hW1];simp
 have h1:=h.on (On.of_below B1 h.lies)
 obtain⟨d0,d1,d2,d3,d4⟩:=dC h1.box
 have lβ:=h.lies β (.inl rfl)
 have nβ:β≠w.heap.size:=by omega
 have hsm:=h.small
 have hfw:=h.few
 have one1:∀ u∈fs.safe.map Value.string,u.oneCell'=true:=by simp [Value.oneCell']
 have one2:∀ u∈fs.late.flatMap dB,u.oneCell'=true:=by intro u hu;simp only [List.mem_flatMap,dB] at hu;obtain⟨x,_,hx⟩:=hu;simp at hx;rcases hx with rfl|rfl<;>rfl
 go_enter Tryz.func14,Tryz.ntmps14
 go_wp2_with (first
  | (at_builtin;refine qZt W1 rfl (.tmp 10) 70 9 _ 1 16 rfl Tryz.underlying70 tD rfl (by decide) _ fs.safe.length (fs.safe.map .string) rfl h1.safe one1 (by omega) (by omega) ?_;intro v2 W2 o2 B2 k2;obtain⟨sa,sc,rfl⟩:=aT o2;have b2:=(B2.block _ (Array.getElem?_eq_some_iff.1 b1).1).trans b1;have fr2:=aJ b2;obtain⟨p0,p1,p2,p3,p4⟩:=dC b2;obtain⟨W3,hW3⟩:=nM (W2.setCell ⟨w.heap.size,0,none⟩ (.slice sa fs.safe.length sc));have b3:W3.heap[w.heap.size]?=some (.cells #[.slice sa fs.safe.length sc,.slice la0 fs.late.length lc0,.int .i64 fs.wait,.int .i64 fs.life,.int .i64 fs.failed] 73):=(by rw [← hW3];simpa using aI b2 0 (.slice sa fs.safe.length sc));have h2:=h1.on (On.of_below B2 h1.lies);have h3:aH W3 β (.slice sa0 fs.safe.length sc0) (.slice la0 fs.late.length lc0) fs:=(by rw [← hW3];exact h2.on ((On.refl _ _).setCell (p:=⟨w.heap.size,0,none⟩) (fun hk=>by have:=h.lies _ hk;exact Nat.lt_irrefl _ this) _));obtain⟨e0,e1,e2,e3,e4⟩:=dC h3.box)
  | (at_builtin;refine qZt W3 rfl (.tmp 16) 71 75 _ 2 24 rfl Tryz.underlying71 qFm rfl (by decide) _ fs.late.length (fs.late.flatMap dB) rfl h3.late one2 (by omega) (by omega) ?_;intro v4 W4 o4 B4 k4;obtain⟨la,lc,rfl⟩:=aT o4;have b4:=(B4.block _ (Array.getElem?_eq_some_iff.1 b3).1).trans b3;have fr4:=aJ b4;obtain⟨q0,q1,q2,q3,q4⟩:=dC b4))
 go_ret
 have s2:=B2.size
 have s3:W3.heap.size=W2.heap.size:=by rw [← hW3];simp [World.setCell]
 have s4:=B4.size
 have o3:W3.ownsRow 0 9 1 (.slice sa fs.safe.length sc) fs.safe.length (fs.safe.map .string):=by
  rw [← hW3]
  exact bN o2 ((On.refl (fun k=>Value.ownBlock _=some k) W2).setCell (p:=⟨w.heap.size,0,none⟩) (fun hk=>by have:=k2 _ hk;simp at this;omega) _) (fun k hk=>hk)
 refine⟨_,_,_,rfl,⟨by simpa using aI b4 1 (.slice la fs.late.length lc),?_,?_,hsm,hfw⟩,?_,?_⟩
 ·have o5:W4.ownsRow 0 9 1 (.slice sa fs.safe.length sc) fs.safe.length (fs.safe.map .string):=bN o3 (On.of_below B4 (fun k hk=>bI o3 hk)) (fun k hk=>hk)
  exact bN o5 ((On.refl (fun k=>Value.ownBlock _=some k) W4).setCell (p:=⟨w.heap.size,1,none⟩) (fun hk=>bD o5 b4 (by decide) hk) _) (fun k hk=>hk)
 ·exact bN o4 ((On.refl (fun k=>Value.ownBlock _=some k) W4).setCell (p:=⟨w.heap.size,1,none⟩) (fun hk=>bD o4 b4 (by decide) hk) _) (fun k hk=>hk)
 ·exact(B1.trans ((B2.mono (by omega)).trans ((Below.trans (hW3▸(Below.refl w.heap.size W2).setCell (p:=⟨w.heap.size,0,none⟩) (Nat.le_refl _) _) (B4.mono (by omega)))))).setCell (p:=⟨w.heap.size,1,none⟩) (Nat.le_refl _) _
 ·rintro k (hk|hk|hk)
  ·exact Nat.le_of_eq hk.symm
  ·have:=k2 k hk;omega
  ·have:=k4 k hk;omega
theorem yV (s:Sp) (k:ByteArray) (w:World) :
  Calls Tryz.prog 106 #[.agg #[.string s.lo,.string s.hi],.string k] w fun e w'=>e=.returned (.bool (s.has k))∧Below w.heap.size w w':=by
 have hb:Below w.heap.size w (w.alloc (.cells #[.string s.lo,.string s.hi] 135)):=(Below.refl _ _).alloc (Nat.le_refl _) _
 cases h1:Op.bytesLess k.toList s.lo.toList<;>cases h2:s.hi.toList.isEmpty<;>cases h3:Op.bytesLess k.toList s.hi.toList
 all_goals
  have HR:Hid (s.has k=(!Op.bytesLess k.toList s.lo.toList&&(s.hi.toList.isEmpty||Op.bytesLess k.toList s.hi.toList))):=rfl
  rw [h1,h2,h3] at HR
  go_enter Tryz.func106,Tryz.ntmps106
  go_wp2
  go_ret
  exact⟨bT (by rw [HR.out];rfl),hb⟩
theorem qSr (s o:Sp) (w:World) :
  Calls Tryz.prog 131 #[.agg #[.string s.lo,.string s.hi],.agg #[.string o.lo,.string o.hi]] w fun e w'=>e=.returned (.bool (s.meets o))∧Below w.heap.size w w':=by
 have hb:Below w.heap.size w ((w.alloc (.cells #[.string s.lo,.string s.hi] 135)).alloc (.cells #[.string o.lo,.string o.hi] 135)):=((Below.refl _ _).alloc (Nat.le_refl _) _).alloc (by simp) _
 cases h1:s.hi.toList.isEmpty<;>cases h2:Op.bytesLess o.lo.toList s.hi.toList<;>cases h3:o.hi.toList.isEmpty<;>cases h4:Op.bytesLess s.lo.toList o.hi.toList
 all_goals
  have HR:Hid (s.meets o=((s.hi.toList.isEmpty||Op.bytesLess o.lo.toList s.hi.toList)&&(o.hi.toList.isEmpty||Op.bytesLess s.lo.toList o.hi.toList))):=rfl
  rw [h1,h2,h3,h4] at HR
  go_enter Tryz.func131,Tryz.ntmps131
  go_wp2
  go_ret
  exact⟨bT (by rw [HR.out];rfl),hb⟩
def qHw (s:ByteArray) (g:Pg):Prop:=s.size=256∧(dG s.data.toList).encE=0∧(dG s.data.toList).encS=s∧g=dG s.data.toList
def Fs.has (fs:Fs) (p:Nat) (g:Pg):Prop:=p<fs.safe.length∧qHw (fs.at p) g
def New (w w':World):Bl:=fun k=>w.heap.size≤k∧k<w'.heap.size
theorem vU {w w':World} {B:Nat} {e:TypeId} {z:Nat} {v:Value} {n:Nat} {xs:List Value} (h:w'.ownsRow B e z v n xs) (hB:B=w.heap.size):∃ a c,v=.slice a n c∧n≤c∧aL w' (New w w') a xs:=by
 have hc:=fun g hg=>World.ownsRow.cells (w:=w') h (g:=g) hg
 have hlt:=World.ownsRow.lt (w:=w') h
 obtain⟨hl,h2⟩:=id h
 rcases h2 with⟨rfl,rfl⟩|⟨g,cap,cur,rfl,_,_,hn,_⟩
 ·exact⟨none,0,rfl,Nat.le_refl _,.inl (List.eq_nil_of_length_eq_zero (by simpa using hl))⟩
 ·refine⟨_,_,rfl,hn,.inr ⟨g,0,rfl,⟨hB▸(hlt g rfl).1,(hlt g rfl).2⟩,fun i u hu=>?_⟩⟩
  have:=hc g rfl i u hu
  have e:(⟨g,0,none⟩:Addr).add i=⟨g,0+i,none⟩:=by unfold Addr.add;split<;>simp_all
  rw [e] at this
  exact this
theorem qUg.on {w w':World} {g:Pg} {v:Value} (h:qUg w' w.heap.size g v):qPl w' (New w w') g v:=by
 obtain⟨vk,vi,ve,rfl,h1,h2,h3⟩:=h
 obtain⟨ka,kc,rfl,hk,r1⟩:=vU h1 rfl
 obtain⟨ia,ic,rfl,hi,r2⟩:=vU h2 rfl
 obtain⟨ea,ec,rfl,he,r3⟩:=vU h3 rfl
 exact⟨ka,ia,ea,kc,ic,ec,rfl,r1,r2,r3,hk,hi,he⟩
theorem qFw {s:ByteArray} {g:Pg} (hs:qHw s g) (w:World) :
  Calls Tryz.prog 116 #[.string s] w fun e w'=>∃ ka ia ea kc ic ec,e=.returned (.tuple #[.agg #[.int .i64 g.kind,.int .i64 g.ver,.int .i64 g.root,.int .i64 g.next,.slice ka g.keys.length kc,.slice ia g.kids.length ic,.slice ea g.ents.length ec,.string g.data],.int .i64 0]) ∧
   aL w' (New w w') ka (g.keys.map .string)∧aL w' (New w w') ia (g.kids.map (.int .i64))∧aL w' (New w w') ea (g.ents.flatMap Ent.cells)∧(g.keys.length≤kc∧g.kids.length≤ic∧g.ents.length≤ec)∧Below w.heap.size w w':=by
 refine(tJ s w).mono ?_
 rintro e w' ⟨hb,(⟨_,_,_,v,rfl,hv⟩|⟨hno,_⟩)⟩
 ·obtain⟨ka,ia,ea,kc,ic,ec,rfl,r⟩:=qUg.on hv
  obtain⟨_,_,_,rfl⟩:=hs
  exact⟨ka,ia,ea,kc,ic,ec,rfl,r.1,r.2.1,r.2.2.1,r.2.2.2,hb⟩
 ·exact absurd ⟨hs.1,hs.2.1,hs.2.2.1⟩ hno
def yH (u:World) (β:Nat) (v0 v1 v2 v3 v4 v5 v6 v7:Value):World :=
 ((((((((u.setCell ⟨β,0,none⟩ v0).setCell ⟨β,1,none⟩ v1).setCell ⟨β,2,none⟩ v2).setCell ⟨β,3,none⟩ v3).setCell ⟨β,4,none⟩ v4).setCell ⟨β,5,none⟩ v5).setCell ⟨β,6,none⟩ v6).setCell ⟨β,7,none⟩ v7)
theorem qAl {u:World} {β:Nat} {a0 a1 a2 a3 a4 a5 a6 a7:Value} {t:TypeId} (h:u.heap[β]?=some (.cells #[a0,a1,a2,a3,a4,a5,a6,a7] t)) (v0 v1 v2 v3 v4 v5 v6 v7:Value):(yH u β v0 v1 v2 v3 v4 v5 v6 v7).heap[β]?=some (.cells #[v0,v1,v2,v3,v4,v5,v6,v7] t):=uA h v0 v1 v2 v3 v4 v5 v6 v7
theorem qGv (u:World) (β:Nat) (v0 v1 v2 v3 v4 v5 v6 v7:Value):Fr (Bl.one β) u (yH u β v0 v1 v2 v3 v4 v5 v6 v7):=by
 have s1:∀ (x:World) (i:Nat) (v:Value),Fr (Bl.one β) u x→Fr (Bl.one β) u (x.setCell ⟨β,i,none⟩ v):=fun x i v f=>f.setCell (p:=⟨β,i,none⟩) (.inl rfl) v
 exact s1 _ _ _ (s1 _ _ _ (s1 _ _ _ (s1 _ _ _ (s1 _ _ _ (s1 _ _ _ (s1 _ _ _ (s1 _ _ _ (Fr.refl _ _))))))))
abbrev pgO (g:Pg) (ka ia ea:Option Addr) (kc ic ec:Nat):Obj:=.cells #[.int .i64 g.kind,.int .i64 g.ver,.int .i64 g.root,.int .i64 g.next,.slice ka g.keys.length kc,.slice ia g.kids.length ic,.slice ea g.ents.length ec,.string g.data] 85
theorem uO (β:Nat) (sv lv:Value) (fs:Fs) (root:Int) (ca:Option Addr) (cn cc:Nat) (p:Nat) (g:Pg) (w:World) (h:aH w β sv lv fs) (hl:(fs.life==0)=false) (hg:fs.has p g) :
  Calls Tryz.prog 112 #[.agg #[.pointer (some ⟨β,0,none⟩),.int .i64 root,.slice ca cn cc],.int .i64 p] w fun e w'=>∃ v,e=.returned v∧qPl w' (New w w') g v∧Below w.heap.size w w':=by
 obtain⟨hp,hs⟩:=hg
 have hrd:fs.readS p=fs.at p:=by simp [Fs.readS,hp,hl]
 have hrb:(decide (p<fs.safe.length)&&!(fs.life==0))=true:=by simp [hp,hl]
 obtain⟨W1,hW1⟩:=nM ((w.alloc (.cells #[.pointer (some ⟨β,0,none⟩),.int .i64 root,.slice ca cn cc] 95)).alloc (.cells #[.int .i64 0,.int .i64 0,.int .i64 0,.int .i64 0,.slice none 0 0,.slice none 0 0,.slice none 0 0,.string ⟨#[]⟩] 85))
 have B1:Below w.heap.size w W1:=hW1▸((Below.refl _ _).alloc (Nat.le_refl _) _).alloc (by simp) _
 have h1:=h.on (On.of_below B1 h.lies)
 have hR:=kA β sv lv fs p W1 h1
 rw [hrd,hrb] at hR
 have hD:=oC β sv lv fs W1 h1
 rw [hl] at hD
 have t1:W1.heap[w.heap.size]?=some (.cells #[.pointer (some ⟨β,0,none⟩),.int .i64 root,.slice ca cn cc] 95):=hW1▸aF _ (aB w _)
 have r1:W1.heap[w.heap.size+1]?=some (.cells #[.int .i64 0,.int .i64 0,.int .i64 0,.int .i64 0,.slice none 0 0,.slice none 0 0,.slice none 0 0,.string ⟨#[]⟩] 85):=by
  rw [← hW1];have:=aB (w.alloc (.cells #[.pointer (some ⟨β,0,none⟩),.int .i64 root,.slice ca cn cc] 95)) (.cells #[.int .i64 0,.int .i64 0,.int .i64 0,.int .i64 0,.slice none 0 0,.slice none 0 0,.slice none 0 0,.string ⟨#[]⟩] 85);simpa using this
 have tc:W1.cell? ⟨w.heap.size,0,none⟩=some (.pointer (some ⟨β,0,none⟩)):=by simp [World.cell?,t1]
 have lβ1:w.heap.size+1<W1.heap.size:=(Array.getElem?_eq_some_iff.1 r1).1
 have hDec:=qFw hs W1
 go_enter Tryz.func112,Tryz.ntmps112
 go_wp2_with (first
  | (go_at_call 115;refine hR.mono ?_;rintro e w' ⟨rfl,hw⟩;subst w')
  | (go_at_call 61;refine hD.mono ?_;rintro e w' ⟨rfl,hw⟩;subst w')
  | (go_at_call 116;refine hDec.mono ?_;rintro e W2 ⟨ka,ia,ea,kc,ic,ec,rfl,q1,q2,q3,qq,hb2⟩;obtain⟨W3,hW3⟩:=nM (W2.alloc (pgO g ka ia ea kc ic ec));have x3:W3.heap[W2.heap.size]?=some (pgO g ka ia ea kc ic ec):=hW3▸aB W2 _;obtain⟨m0,m1,m2,m3,m4,m5,m6,m7⟩:=bH x3;have b3:Below W1.heap.size W1 W3:=hb2.trans (hW3▸(Below.refl _ _).alloc hb2.size _);have r3:=(b3.block _ lβ1).trans r1;obtain⟨n0,n1,n2,n3,n4,n5,n6,n7⟩:=bH r3;have nfr:=aJ r3;have sz2:=hb2.size))
 obtain⟨W4,hW4⟩:=nM (yH W3 (w.heap.size+1) (.int .i64 g.kind) (.int .i64 g.ver) (.int .i64 g.root) (.int .i64 g.next) (.slice ka g.keys.length kc) (.slice ia g.kids.length ic) (.slice ea g.ents.length ec) (.string g.data))
 have x4:=qAl r3 (.int .i64 g.kind) (.int .i64 g.ver) (.int .i64 g.root) (.int .i64 g.next) (.slice ka g.keys.length kc) (.slice ia g.kids.length ic) (.slice ea g.ents.length ec) (.string g.data)
 have f4:=qGv W3 (w.heap.size+1) (.int .i64 g.kind) (.int .i64 g.ver) (.int .i64 g.root) (.int .i64 g.next) (.slice ka g.keys.length kc) (.slice ia g.kids.length ic) (.slice ea g.ents.length ec) (.string g.data)
 obtain⟨y0,y1,y2,y3,y4,y5,y6,y7⟩:=bH x4
 unfold yH at y0 y1 y2 y3 y4 y5 y6 y7
 refine bodyPost_ret (v:=.agg #[.int .i64 g.kind,.int .i64 g.ver,.int .i64 g.root,.int .i64 g.next,.slice ka g.keys.length kc,.slice ia g.kids.length ic,.slice ea g.ents.length ec,.string g.data]) ?_ rfl ⟨_,rfl,?_,?_⟩
 ·simp [results,Tryz.results112,go_sem,y0,y1,y2,y3,y4,y5,y6,y7]
 ·have f24:Fr (Bl.one (w.heap.size+1)) W2 (yH W3 (w.heap.size+1) (.int .i64 g.kind) (.int .i64 g.ver) (.int .i64 g.root) (.int .i64 g.next) (.slice ka g.keys.length kc) (.slice ia g.kids.length ic) (.slice ea g.ents.length ec) (.string g.data)):=(hW3▸(Fr.refl _ W2).alloc _:Fr (Bl.one (w.heap.size+1)) W2 W3).trans f4
  have o24:=f24.on (Z:=New W1 W2) (fun k hk=>⟨hk.2,fun e=>by simp only [Bl.one] at e;have:=hk.1;omega⟩)
  have hN:∀ k,New W1 W2 k→New w (yH W3 (w.heap.size+1) (.int .i64 g.kind) (.int .i64 g.ver) (.int .i64 g.root) (.int .i64 g.next) (.slice ka g.keys.length kc) (.slice ia g.kids.length ic) (.slice ea g.ents.length ec) (.string g.data)) k:=fun k hk=>⟨by have:=hk.1;have:=B1.size;omega,Nat.lt_of_lt_of_le hk.2 f24.size⟩
  exact⟨ka,ia,ea,kc,ic,ec,rfl,(q1.on o24).mono hN,(q2.on o24).mono hN,(q3.on o24).mono hN,qq⟩
 ·exact(B1.trans (b3.mono (by omega))).trans (f4.below (by have:=b3.size;omega) (fun k hk=>by simp only [Bl.one] at hk;omega))
theorem qHj {l:List Ent} {j:Nat} (hj:j<l.length):(l.flatMap Ent.cells)[j * 4]?=some (.string (l[j]).key)∧(l.flatMap Ent.cells)[j * 4+1]?=some (.string (l[j]).val)∧(l.flatMap Ent.cells)[j * 4+2]?=some (.int .i64 (l[j]).size)∧(l.flatMap Ent.cells)[j * 4+3]?=some (.int .i64 (l[j]).over):=by
 induction l generalizing j with
 | nil=>simp at hj
 | cons x l ih =>
  cases j with
  | zero=>simp [Ent.cells]
  | succ j =>
   have:=ih (j:=j) (by simpa using hj)
   have e0:(j+1) * 4=j * 4+4:=by omega
   have e1:(j+1) * 4+1=j * 4+1+4:=by omega
   have e2:(j+1) * 4+2=j * 4+2+4:=by omega
   have e3:(j+1) * 4+3=j * 4+3+4:=by omega
   rw [e1,e2,e3,e0]
   simpa [Ent.cells] using this
theorem aL.ent {S:Bl} {a:Option Addr} {l:List Ent} {j:Nat} (h:aL w S a (l.flatMap Ent.cells)) (hj:j<l.length):∃ b off,a=some ⟨b,off,none⟩∧S b∧w.cell? ⟨b,off+j * 4,none⟩=some (.string (l[j]).key)∧w.cell? ⟨b,off+j * 4+1,none⟩=some (.string (l[j]).val)∧w.cell? ⟨b,off+j * 4+2,none⟩=some (.int .i64 (l[j]).size)∧w.cell? ⟨b,off+j * 4+3,none⟩=some (.int .i64 (l[j]).over):=by
 obtain⟨c0,c1,c2,c3⟩:=qHj hj
 rcases h with h|⟨b,off,ha,hb,hc⟩
 ·rw [h] at c0;simp at c0
 ·exact⟨b,off,ha,hb,hc _ _ c0,hc _ _ c1,hc _ _ c2,hc _ _ c3⟩
theorem wrap_small {n:Nat} (h:n≤4294967296):IntKind.i64.wrap (n:Int)=(n:Int):=by simp [IntKind.wrap,IntKind.bits,IntKind.signed];omega
abbrev mY:Obj:=.cells #[.int .i64 0,.int .i64 0,.int .i64 0,.int .i64 0,.slice none 0 0,.slice none 0 0,.slice none 0 0,.string ⟨#[]⟩] 85
end Go.Proofs.YtfnhmpcpeahfkaaGreat.Tree
