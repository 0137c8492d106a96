import Derived.Test.YtpifffkkgnbfpaaGreatProg
import Derived.WalkSpells
import Derived.WalkLawsBesides
set_option linter.unusedSimpArgs false
set_option linter.unusedVariables false
set_option maxHeartbeats 8000000
namespace Go.Proofs.YtpifffkkgnbfpaaGreat.Pages
open Go.RowKit
variable {B:Nat} {Q:Exit→Act→World→Prop} {a:Act} {bs:List UInt8} {o:Oper} {ops:Array Oper} {rest:List Oper} {v:Value} {w w':World}
def Ul:Obj→Bool
 | .cells _ e _=>e==5
 | _=>false
structure cJ (B:Nat) (w w':World):Prop where
 os:w'.os=w.os
 tape:w'.tape=w.tape
 output:w'.output=w.output
 size:w.heap.size≤w'.heap.size
 low:∀ (k:Nat),k<B→w'.heap[k]?=w.heap[k]?
 other:∀ (k:Nat) (o:Obj),w.heap[k]?=some o→Ul o=false→w'.heap[k]?=some o
theorem cJ.refl (B:Nat) (w:World):cJ B w w:=⟨rfl,rfl,rfl,Nat.le_refl _,fun _ _=>rfl,fun _ _ h _=>h⟩
theorem cJ.trans {a b c:World} (h:cJ B a b) (k:cJ B b c):cJ B a c :=
 ⟨k.os.trans h.os,k.tape.trans h.tape,k.output.trans h.output,Nat.le_trans h.size k.size,fun i hi=>(k.low i hi).trans (h.low i hi),fun i o ho hb=>k.other i o (h.other i o ho hb) hb⟩
theorem cJ.alloc {a w:World} (h:cJ B a w) (hB:B≤w.heap.size) (o:Obj):cJ B a (w.alloc o):=by
 refine h.trans ⟨rfl,rfl,rfl,by simp,fun k hk=>Below.heap_alloc _ _ _ (by omega),fun k u hu _=>?_⟩
 have hk:k<w.heap.size:=by
  rw [Array.getElem?_eq_some_iff] at hu
  exact hu.1
 rw [Below.heap_alloc _ _ _ hk];exact hu
theorem cJ.below (h:cJ B w w'):Below B w w':=⟨h.os,h.tape,h.output,h.size,h.low⟩
theorem cJ.of_below (h:Below w.heap.size w w') (hB:B≤w.heap.size):cJ B w w' :=
 ⟨h.os,h.tape,h.output,h.size,fun k hk=>h.block k (by omega),fun k o ho _=>by
  have hk:k<w.heap.size:=by
   rw [Array.getElem?_eq_some_iff] at ho
   exact ho.1
  rw [h.block k hk];exact ho⟩
theorem cJ.grown {n:Nat} {xs:List Value} (ho:w.ownsRow B 5 1 v n xs) (hg:w.grownBy w' v.ownBlock) (hB:B≤w.heap.size):cJ B w w':=by
 refine⟨hg.os,hg.tape,hg.output,hg.size,fun k hk=>hg.block k (by omega) (fun e=>by have:=(ho.lt k e.symm).1;omega),fun k o hk hb=>?_⟩
 have hlt:k<w.heap.size:=by
  rw [Array.getElem?_eq_some_iff] at hk
  exact hk.1
 rw [hg.block k hlt (fun e=>?_)]
 ·exact hk
 ·obtain⟨_,h2⟩:=ho
  rcases h2 with⟨hv,_⟩|⟨g,cap,cur,hv,_,hh,_⟩
  ·rw [hv] at e;simp [Value.ownBlock] at e
  ·rw [hv] at e
   simp only [Value.ownBlock,Option.some.injEq] at e
   subst e
   rw [hk] at hh
   simp only [Option.some.injEq] at hh
   subst hh
   simp [Ul] at hb
def cT (w:World) (B:Nat) (a:Option Addr) (vs:List Value):Prop :=
 vs=[]∨∃ b off,a=some ⟨b,off,none⟩∧b<B∧∀ i u,vs[i]?=some u→w.cell? ⟨b,off+i,none⟩=some u
theorem cT.below {a:Option Addr} {vs:List Value} (h:cT w B a vs) (hb:Below B w w'):cT w' B a vs:=by
 rcases h with h|⟨b,off,ha,hlt,hc⟩
 ·exact .inl h
 ·exact .inr ⟨b,off,ha,hlt,fun i u hu=>by rw [hb.cell (p:=⟨b,off+i,none⟩) hlt];exact hc i u hu⟩
theorem cT.mono {B B':Nat} {a:Option Addr} {vs:List Value} (h:cT w B a vs) (hB:B≤B'):cT w B' a vs:=by
 rcases h with h|⟨b,off,ha,hlt,hc⟩
 ·exact .inl h
 ·exact .inr ⟨b,off,ha,by omega,hc⟩
def eC (b:UInt8):Value:=.int .u8 (b.toNat:Int)
def Buf (w:World) (B:Nat) (v:Value) (bs:List UInt8):Prop:=w.ownsRow B 5 1 v bs.length (bs.map eC)
theorem Hz:(Tryz.prog.info? 5).map (fun i=>(i.zero,i.size,i.bytes))=some (some (.int .u8 0),1,1):=by kernel_rfl
theorem Buf.nil (w:World) (B:Nat):Buf w B (.slice none 0 0) []:=World.ownsRow_nil _ _ _ _
theorem Buf.alloc (h:Buf w B v bs) (o:Obj):Buf (w.alloc o) B v bs:=World.ownsRow.alloc (w:=w) h o
theorem Buf.below (h:Buf w B v bs) (hb:Below w.heap.size w w'):Buf w' B v bs :=
 World.ownsRow.kept (row:=none) h ⟨hb.os,hb.tape,hb.output,hb.size,fun k hk _=>hb.block k hk⟩ (by cases v.ownBlock<;>simp)
theorem strCells_eq (s:ByteArray):Lib.strCells s=s.data.toList.map eC:=rfl
theorem rQ (s:ByteArray):s.data.toList.length=s.size:=by rw [Array.length_toList];rfl
theorem Buf.of {n:Nat} {xs:List Value} (hn:n=bs.length) (hx:xs=bs.map eC) (h:w.ownsRow B 5 1 v n xs):Buf w B v bs:=by
 subst hn;subst hx;exact h
theorem Buf.one {v':Value}  {x:Int} (b:UInt8) (hx:x=(b.toNat:Int)) (h:w'.ownsRow B 5 1 v' (bs.length+1) (bs.map eC++[.int .u8 x])):Buf w' B v' (bs++[b]):=by
 unfold Buf
 rw [List.map_append,List.length_append]
 subst hx
 exact h
theorem one_cell (u:Value) (e:TypeId):∀ j x,[u][j]?=some x→(w.alloc (.cells #[u] e)).cell? ((⟨w.heap.size,0,none⟩:Addr).add j)=some x:=by
 intro j x hj
 match j,hj with
 | 0,hj=>simp at hj;subst hj;simp [Addr.add]
theorem jW (w:World) (hgd:o.guard=none) (sl x:Operand)
  (ho:o.op=.call { callee:=.builtin .append,args:=#[sl,x],argTypes:=#[115,115] }) (B:Nat) (bs:List UInt8) (v:Value) (hs:a.eval sl=v) (hv:Buf w B v bs) (hB:B≤w.heap.size)
  (z:Int) (b:UInt8) (hz:z=(b.toNat:Int)) (hx:a.eval x=.slice (some ⟨w.heap.size,0,none⟩) 1 1) (hl:bs.length+1≤140737488355328)
  (h:∀ v' w',Buf w' B v' (bs++[b])→cJ B w w'→wpList Tryz.prog ops Q rest (a.put o.dst v') w') :
  wpList Tryz.prog ops Q (o :: rest) a (w.alloc (.cells #[.int .u8 z] 5)):=by
 obtain⟨i0,hi,hz0,hz1,hz2⟩:=info_parts Hz
 refine wpList_append_own _ hgd sl x 115 ho B 5 i0 (.int .u8 0) 1 1 Tryz.underlying115 hi hz0 hz1 hz2 rfl (by decide) v bs.length (bs.map eC) hs (hv.alloc _) ⟨w.heap.size,0,none⟩ 1 1 [.int .u8 z] hx rfl (one_cell _ _) (by intro u hu;simp at hu;subst hu;rfl) (by unfold maxLen;omega) (by omega) (by simp;omega) ?_
 intro v1 w1 ho1 hg1 _
 exact h v1 w1 (Buf.one b hz ho1) (((cJ.refl B w).alloc hB _).trans (cJ.grown (hv.alloc _) hg1 (by simp;omega)))
theorem Et (w:World) (hgd:o.guard=none) (sl x:Operand)
  (ho:o.op=.call { callee:=.builtin .append,args:=#[sl,x],argTypes:=#[115,9] }) (B:Nat) (bs:List UInt8) (v:Value) (hs:a.eval sl=v) (hv:Buf w B v bs) (hB:B≤w.heap.size)
  (s:ByteArray) (hx:a.eval x=.string s) (hl:bs.length+s.size≤140737488355328)
  (h:∀ v' w',Buf w' B v' (bs++s.data.toList)→cJ B w w'→wpList Tryz.prog ops Q rest (a.put o.dst v') w') :
  wpList Tryz.prog ops Q (o :: rest) a w:=by
 obtain⟨i0,hi,hz0,hz1,hz2⟩:=info_parts Hz
 refine Lib.wpList_append_own_string _ hgd sl x 115 9 ho B 5 i0 Tryz.underlying115 Tryz.underlying9 hi hz0 hz1 hz2 v _ _ hs hv s hx (by unfold maxLen;omega) hl hB ?_
 intro v2 w2 ho2 hg2 _
 exact h v2 w2 (Buf.of (by simp) (by simp [strCells_eq]) ho2) (cJ.grown hv hg2 hB)
theorem qBz (s:ByteArray):(s.size:Int) % 256=((UInt8.ofNat s.size).toNat:Int):=by simp
theorem nA (v:Value) (s:ByteArray) (bs:List UInt8) (B:Nat) (w:World) (hv:Buf w B v bs) (hB:B≤w.heap.size) (hl:bs.length+s.size+1≤140737488355328) :
  Calls Tryz.prog 160 #[v,.string s] w fun e w'=>∃ v',e=.returned v'∧Buf w' B v' (bs++[UInt8.ofNat s.size]++s.data.toList)∧cJ B w w':=by
 have l1:bs.length+1≤140737488355328:=by omega
 have l2:(bs++[UInt8.ofNat s.size]).length+s.size≤140737488355328:=by simp;omega
 go_enter Tryz.func160,Tryz.ntmps160
 go_wp2_with (first|(at_builtin;refine jW w rfl (.tmp 5) (.tmp 9) rfl B bs v rfl hv hB _ (UInt8.ofNat s.size) (qBz s) rfl l1 ?_;intro v1 w1 hb1 g1;have hB1:B≤w1.heap.size:=Nat.le_trans hB g1.size)|(at_builtin;refine Et w1 rfl (.tmp 11) (.tmp 12) rfl B _ v1 rfl hb1 hB1 s rfl l2 ?_;intro v2 w2 hb2 g2))
 go_ret
 exact⟨_,rfl,hb2,g1.trans g2⟩
def beB:Nat→Int→List UInt8
 | 0,_=>[]
 | k+1,n=>UInt8.ofNat ((n / 2 ^ (8 * k) % 256).toNat) :: beB k n
theorem byte_back (n:Int) (m:Nat):n / 2 ^ m % 256=((UInt8.ofNat ((n / 2 ^ m % 256).toNat)).toNat:Int):=by
 rw [UInt8.toNat_ofNat_of_lt' (by simp [UInt8.size];omega)];omega
theorem aI (k:Nat) (n:Int):(beB k n).length=k:=by
 induction k with
 | zero=>rfl
 | succ k ih=>simp [beB,ih]
theorem xU (v:Value) (size:Nat) (n:Int) (bs:List UInt8) (B:Nat) (w:World) (hv:Buf w B v bs) (hB:B≤w.heap.size) (hs:size≤8) (hl:bs.length+size≤140737488355328) :
  Calls Tryz.prog 143 #[v,.int .i64 size,.int .i64 n] w fun e w'=>∃ v',e=.returned v'∧Buf w' B v' (bs++beB size n)∧cJ B w w':=by
 go_enter Tryz.func143,Tryz.ntmps143
 go_wp2
 go_loopw [0,7] (fun u k wr=>∃ j:Nat,j≤size∧k=.int .i64 ((j:Int)-1)∧∃ cs,cs.length+j≤bs.length+size∧Buf wr B u cs∧bs++beB size n=cs++beB j n∧cJ B w wr) (fun _ k _=>(intOf k+1).toNat)
 case atStart=>exact⟨size,Nat.le_refl _,rfl,bs,by omega,hv,rfl,cJ.refl _ _⟩
 case round =>
  obtain⟨j,hj,rfl,cs,hcl,hbuf,hcs,hg⟩:=hrel
  have HC:Hid (bs++beB size n=cs++beB j n):=hcs
  clear hcs
  have hBr:B≤wr.heap.size:=by have:=hg.size;omega
  cases j with
  | succ j =>
   have l1:cs.length+1≤140737488355328:=by omega
   go_wp2_with (at_builtin;(refine jW wr rfl (.tmp 14) (.tmp 20) rfl B cs u0 rfl hbuf hBr _ (UInt8.ofNat ((n / 2 ^ (8 * j) % 256).toNat)) (byte_back _ _) rfl l1 ?_;intro v1 w1 hb1 g1))
   have G1:=hg.trans g1
   clear hbuf hg hv g1
   go_roundw
   case rel=>exact⟨j,by omega,by go_num,_,by simp;omega,hb1,by rw [HC.out];simp [beB],G1⟩
   case measure=>simp [intOf]
  | zero =>
   clear hv
   go_wp2
   go_ret
   exact⟨_,rfl,by rw [HC.out];simpa [beB] using hbuf,hg⟩
theorem eG (v:Value) (z n:Int) (bs:List UInt8) (B:Nat) (w:World) (hv:Buf w B v bs) (hB:B≤w.heap.size) (hz0:0≤z) (hz8:z≤8) (hl:bs.length+8≤140737488355328) :
  Calls Tryz.prog 143 #[v,.int .i64 z,.int .i64 n] w fun e w'=>∃ v',e=.returned v'∧Buf w' B v' (bs++beB z.toNat n)∧cJ B w w':=by
 obtain⟨k,rfl⟩:∃ k:Nat,z=k:=⟨z.toNat,by omega⟩
 exact xU v k n bs B w hv hB (by omega) (by omega)
theorem pQ (m:Nat):Builtin.zeroCells (Value.int .u8 0).cells m=((List.replicate m (0:UInt8)).map eC).toArray:=by
 apply Array.ext
 ·simp [Builtin.zeroCells,Value.cells]
 ·intro i h1 h2
  simp [Builtin.zeroCells,Value.cells,eC,Nat.mod_one]
theorem wP (w:World) (ty:TypeId) (B:Nat) (v:Value) (bs:List UInt8) (hv:Buf w B v bs) (hne:bs≠[]) (m:Nat) (hB:B≤w.heap.size) (hl:bs.length+m≤140737488355328) :
  ∃ v' w',(Builtin.append_ #[115,3] ty #[v,.int .i64 m]).run Tryz.prog w=.ok v' w'∧Buf w' B v' (bs++List.replicate m 0)∧cJ B w w':=by
 obtain⟨i0,hi,hz0,hz1,hz2⟩:=info_parts Hz
 have hw:IntKind.i64.wrap (m:Int)=(m:Int):=by simp [IntKind.wrap,IntKind.bits,IntKind.signed];omega
 have hm0:¬ ((m:Int)<0):=by omega
 have hm1:¬ ((281474976710656:Int)<(m:Int)):=by omega
 have hlen:(bs++List.replicate m (0:UInt8)).length=bs.length+m:=by simp
 obtain⟨hx1,hx2⟩:=id hv
 rcases hx2 with⟨_,h0⟩|⟨g,cap,cur,rfl,hbg,hg,hnc,hcm,hcs,htake⟩
 ·exact absurd (List.eq_nil_of_length_eq_zero h0) hne
 ·have hcs':cur.size=cap:=by simpa using hcs
  have hai:∀ u:World,Sem.run Tryz.prog (asIntOf (Value.int IntKind.i64 (m:Int))) u=.ok (.i64,(m:Int)) u:=fun _=>rfl
  by_cases hroom:bs.length+m≤cap
  ·have hst:=run_storeCells_at Tryz.prog g bs.length 5 ((List.replicate m (0:UInt8)).map eC) 0 cur w hg (by simp;omega) (by intro u hu;simp only [List.mem_map] at hu;obtain⟨b,_,rfl⟩:=hu;rfl)
   simp only [Nat.add_zero,List.length_map,List.length_replicate] at hst
   have hgrown:w.grownBy (w.setRow g (cur.toList.take bs.length++(List.replicate m (0:UInt8)).map eC++cur.toList.drop (bs.length+m)).toArray) (Value.ownBlock (.slice (some ⟨g,0,none⟩) bs.length cap)):=⟨rfl,rfl,rfl,by simp,fun k _ hk=>setRow_other w g k _ (fun e=>hk (by simp [Value.ownBlock,e]))⟩
   refine⟨.slice (some ⟨g,0,none⟩) (bs.length+m) cap,w.setRow g (cur.toList.take bs.length++(List.replicate m (0:UInt8)).map eC++cur.toList.drop (bs.length+m)).toArray,?_,?_,cJ.grown hv hgrown hB⟩
   ·by_cases hmz:m=0
    ·have hmp:(m:Int)≤0:=by omega
     simp [Builtin.append_,run_underlying Tryz.underlying115,run_underlying Tryz.underlying3,sizeOf,typeInfo,hi,hz0,hz1,hz2,asInt,hai,hw,hm0,hm1,hroom,zeroValue,Addr.add_lit,hmp]
     simp only [hmz,List.replicate_zero,List.map_nil] at hst ⊢
     simp [hst]
    ·have hmp:¬ ((m:Int)≤0):=by omega
     simp [Builtin.append_,run_underlying Tryz.underlying115,run_underlying Tryz.underlying3,sizeOf,typeInfo,hi,hz0,hz1,hz2,asInt,hai,hw,hm0,hm1,hroom,zeroValue,Addr.add_lit,pQ,hmz,hmp]
     simp only [List.map_replicate,List.append_assoc] at hst
     rw [hst];rfl
   ·refine⟨by simp,.inr ⟨g,cap,_,by rw [hlen],hbg,setRow_heap w g cur _ 5 _ hg,by rw [hlen];exact hroom,hcm,?_,?_⟩⟩
    ·simp only [List.size_toArray,List.length_append,List.length_take,List.length_drop,Array.length_toList,List.length_map,List.length_replicate]
     omega
    ·have ht':cur.toList.take bs.length=bs.map eC:=by simpa using htake
     rw [ht',hlen,Nat.mul_one,List.map_append]
     have:(bs.map eC++(List.replicate m (0:UInt8)).map eC).length=bs.length+m:=by simp
     rw [← this]
     exact List.take_left
  ·have holds:∀ j u,(bs.map eC)[j]?=some u→w.cell? ((⟨g,0,none⟩:Addr).add j)=some u:=World.ownsRow.cells (w:=w) hv (g:=g) rfl
   have hmz:¬ m=0:=by omega
   have hmp:¬ ((m:Int)≤0):=by omega
   have hmx:max (m:Int) 0=(m:Int):=by omega
   have h63':¬ (9223372036854775807<((bs.length:Int)+(m:Int))):=by omega
   have h48:=growslice_fits (need:=bs.length+m) (old:=cap) (bytes:=1) (by omega) (by omega)
   have h48':¬ (281474976710656<Builtin.nextslicecap (bs.length+m) cap):=by omega
   have hfo:=run_firstCells_some (P:=Tryz.prog) w.drew 1 bs.length ⟨g,0,none⟩ bs.length cap (bs.map eC) (by simp) (by simpa using holds)
   have hge:=grownCap_ge w (bs.length+m) cap 5
   have hcm':grownCap w (bs.length+m) cap 5≤maxLen:=grownCap_le_maxLen w (bs.length+m) cap 5 (by unfold maxLen;omega)
   refine⟨.slice (some ⟨w.heap.size,0,none⟩) (bs.length+m) (grownCap w (bs.length+m) cap 5),w.drew.alloc (.cells ((bs.map eC).toArray++(((List.replicate m (0:UInt8)).map eC).toArray++Builtin.zeroCells (Value.int .u8 0).cells (grownCap w (bs.length+m) cap 5-(bs.length+m)))) 5),?_,?_,?_⟩
   ·simp [Builtin.append_,run_underlying Tryz.underlying115,run_underlying Tryz.underlying3,sizeOf,typeInfo,hi,hz0,hz1,hz2,asInt,hai,hw,hm0,hm1,hroom,zeroValue,hmz,hmp,hmx,h63',h48',Question.forced,hfo,newRow,grownCap,pQ]
   ·refine⟨by simp,.inr ⟨w.heap.size,_,_,by rw [hlen],hB,heap_alloc_new w.drew _,by rw [hlen];exact hge,hcm',?_,?_⟩⟩
    ·simp [pQ];omega
    ·rw [hlen,Nat.mul_one,List.map_append]
     simp only [Array.toList_append]
     have:(bs.map eC++(List.replicate m (0:UInt8)).map eC).length=bs.length+m:=by simp
     rw [← List.append_assoc,← this]
     exact List.take_left
   ·exact((cJ.refl B w).trans ⟨rfl,rfl,rfl,Nat.le_refl _,fun _ _=>rfl,fun _ _ h _=>h⟩:cJ B w w.drew).alloc hB _
theorem zY (w:World) (hgd:o.guard=none) (sl x:Operand)
  (ho:o.op=.call { callee:=.builtin .append,args:=#[sl,x],argTypes:=#[115,3] }) (B:Nat) (bs:List UInt8) (v:Value) (hs:a.eval sl=v) (hv:Buf w B v bs) (hne:bs≠[]) (hB:B≤w.heap.size)
  (m:Nat) (z:Int) (hz:z=(m:Int)) (hx:a.eval x=.int .i64 z) (hl:bs.length+m≤140737488355328)
  (h:∀ v' w',Buf w' B v' (bs++List.replicate m 0)→cJ B w w'→wpList Tryz.prog ops Q rest (a.put o.dst v') w') :
  wpList Tryz.prog ops Q (o :: rest) a w:=by
 refine wpList_plain hgd fun K hK=>?_
 subst hz
 obtain⟨v',w',hr,h2,h3⟩:=wP w o.type B v bs hv hne m hB hl
 unfold Oper.wp execOp
 simp only [ho,resolve,invoke,builtin,Sem.run_bind,Sem.run_pure,Result.andThen_ok,List.map_toArray,List.map_cons,List.map_nil,hs,hx,hr]
 exact hK _ _ (h v' w' h2 h3)
