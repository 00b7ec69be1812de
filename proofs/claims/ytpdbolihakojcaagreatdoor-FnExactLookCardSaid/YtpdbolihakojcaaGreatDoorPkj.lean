import Derived.Test.YtpdbolihakojcaaGreatDoorPkg
import Derived.Test.YtpdbolihakojcaaGreatDoorPkh
import Derived.Test.YtpdbolihakojcaaGreatDoorPkf
namespace Go.Proofs.YtpdbolihakojcaaGreatDoor
set_option maxRecDepth 20000
set_option linter.unusedVariables false
set_option linter.unusedSimpArgs false
set_option maxHeartbeats 4000000
open Go.RowKit
variable {W Y w w' w0 wr : World} {b : List UInt8} {A B at_ base' c cap e f g gs i j k lo m n u z : Nat} {R d is l : List Nat} {E G I J K L M N O v0 v1 v2 v3 v4 v5 v6 x y : Value} {o : Oper} {Q : Exit → Act → World → Prop} {bvs xs : List Value} {t : TypeId} {cs tmps : Array Value} {p : Addr} {a : Option Addr} {first ok : Bool} {s : ByteArray} {rs : List (List Nat)}
section
open Go.Shelf
attribute [local go_sem] Oper.semAt_some
abbrev Sp(d:List Nat):={x:Nat×Nat//x.1+x.2≤d.length}
def d8(W:World)(b off:Nat)(d:List Nat):Prop:=∀i (h:i<d.length),W.cell? ⟨b,off+i,none⟩=some (.int .u8 ((d[i]:Nat):Int))
theorem d8.below{W W':World}{b z A:Nat}{d:List Nat}(h:d8 W b z d)(E:Below A W W')(I:b<A):d8 W' b z d:=fun i G=>(E.cell (p:=⟨b,z+i,none⟩) I).trans (h i G)
theorem d8.drop{W:World}{b z:Nat}{d:List Nat}(h:d8 W b z d)(p:Nat):d8 W b (z+p) (d.drop p):=fun i E=>by
 have A:p+i<d.length:=(by rw[MU] at E;omega);rw[Nat.add_assoc,h (p+i) A];simp
def spV(b off:Nat){d:List Nat}(x:Sp d):Array Value:= #[.slice (some ⟨b,off+x.1.1,none⟩) x.1.2 x.1.2]
theorem zg(b z cap n:Nat)(l:List Nat)(w:World)(G:l.length=n)(E:d8 w b z l)(A:∀x∈l,x<256):
  Calls Tryz.prog 238 #[.slice (some ⟨b,z,none⟩) n cap,.int .u8 10] w fun e w'=>e= .returned (.int .i64 (zM l))∧w'=w:=by
 subst G;exact ui b z cap l w E A
def BI(wr:World)(bs:Nat):Nat:=match wr.cell? ⟨bs,0,none⟩ with|some (.slice _ n _)=>n|_=>0
theorem pW{wr:World}{bs n c:Nat}{a:Option Addr}(h:wr.cell? ⟨bs,0,none⟩=some (.slice a n c)):BI wr bs=n:=by unfold BI;rw[h]
theorem rk{W:World}{bs:Nat}{u:Value}{t:TypeId}(h:W.heap[bs]? =some (.cells #[u] t (0,0)))(v:Value):(W.setCell ⟨bs,0,none⟩ v).heap[bs]? =some (.cells #[v] t (0,0)):=by
 rw[setCell_eq_setRow W bs 0 _ _ _ v h,setRow_heap W bs _ _ _ _ h];rfl
theorem lX{d:List Nat}{p k:Nat}(G:p<d.length)(A:fO (d.drop p)=k):fU (d.length-p) p (d.drop p)=(p,k)::fU (d.length-(p+k)) (p+k) (d.drop (p+k)):=by
 obtain⟨f,z⟩:∃f,d.length-p=f+1:=⟨d.length-p-1,by omega⟩
 have I:=jm (d.drop p) (by rw[MU];omega);have E:=rM (d.drop p);rw[MU] at E;rw[z];simp only[fU];rw[if_neg (by rw[MU];omega),A,List.drop_drop];rw[Aw f (d.length-(p+k)) _ _ (by rw[MU];omega) (by rw[MU];omega)]
theorem EB(m l bs Y b E:Nat)(d:List Nat)(hb:∀x∈d,x<256)(ar:0<d.length→b<Y)(hd:d.length≤1048576)(aq:Y≤bs)(J:List (Sp d)→World→Prop)
  (af:∀pre G v,J pre G→J pre (G.setCell ⟨bs,0,none⟩ v)) (ao:∀pre G,J pre G→J pre G.drew)
  (hY:∀pre x G,J pre G→pre.length<d.length→YieldAt Fence.wide (m-1) Tryz.prog l (spV b E x) G fun e W'=>e= .returned (.bool true)∧J (pre++[x]) W'∧ko Y bs G W')
  (W:World) (a0:Option Addr) (c0:Nat) (ai:W.heap[bs]? =some (.cells #[.slice a0 d.length c0] 52 (0,0))) (ah:0<d.length→a0=some ⟨b,E,none⟩∧d.length≤c0∧c0≤9223372036854775807) (hT:0<d.length→d8 W b E d) (h0:J [] W):
  CallsIn Fence.wide m Tryz.prog 237 #[.func (.yield l) #[] #[],.pointer (some ⟨bs,0,none⟩)] W fun e W'=>(∃v,e= .returned v)∧∃xs:List (Sp d),xs.map (·.1)=eG d∧J xs W':=by
 refine callsIn_of_wp Tryz.func237 rfl trivial ?_ rfl;simp only[Tryz.ntmps237,List.size_toArray,M2,List.length_nil,Nat.reduceAdd,Nat.reduceSub,Array.replicate_succ,Array.replicate_zero,List.push_toArray,List.append_toArray,Nq,List.cons_append];gi_wp2
 gi_loopw [3,4] (fun _ _ wr=>∃(p:Nat) (pre:List (Sp d)) (a:Option Addr) (c:Nat),p≤d.length∧pre.length≤p∧wr.heap[bs]? =some (.cells #[.slice a (d.length-p) c] 52 (0,0))∧(p<d.length→a=some ⟨b,E+p,none⟩∧d.length-p≤c∧c≤9223372036854775807)∧(0<d.length→d8 wr b E d)∧pre.map (·.1)++fU (d.length-p) p (d.drop p)=eG d∧J pre wr) (fun _ _ wr=>BI wr bs)
 case atStart=>exact⟨0,[],a0,c0,MQ _,MH _,ai,fun h=>ah h,hT,by simp[eG],h0⟩
 case round=>
  obtain⟨p,pre,a,c,hp,aD,V,ha,ht,M,hJ⟩:=hrel;have Q:wr.cell? ⟨bs,0,none⟩=some (.slice a (d.length-p) c):=(by rw[cell_of_row _ _ _ _ _ _ V];rfl);by_cases am:p<d.length
  ·have Z:=ar (by omega);obtain⟨rfl,aH,ak⟩:=ha am;have aC:(0:Int)<((d.length-p:Nat):Int):=(by omega);have al:wr.frozen? ⟨bs,0,none⟩=false:=(by simp[World.frozen?,V]);have aw:∀x∈d.drop p,x<256:=fun x hx=>hb x (M7 hx);have az:=(ht (by omega)).drop p;have ap:(d.drop p).length=d.length-p:=MU ..;have HS:=a8 M;have HJ:=a8 hJ;have HT:=a8 (ht (by omega));have HC:=a8 V;have HM:=a8 (pW Q);have av:=a8 ak;clear M hJ ht V ah hT h0 ai;gi_wp2_with fail;refine⟨trivial,fun h=>(by cases h),(callsIn_wide.2 (zg b (E+p) c _ (d.drop p) wr ap az aw)).mono ?_⟩;rintro e z ⟨rfl,rfl⟩;by_cases ad:10∈d.drop p
   ·obtain⟨k,O⟩:∃k,fO (d.drop p)=k+1:=⟨fO (d.drop p)-1,by have:=jm (d.drop p) (by omega);omega⟩
    have aG:=rM (d.drop p);have aa:zM (d.drop p)=(k:Int):=(by unfold zM;rw[if_pos ad,O];push_cast;omega);rw[aa];have aE:(k:Int)+1≤((d.length-p:Nat):Int):=(by omega);have aF:(k:Int)+1≤(c:Int):=(by omega);have ax:z.drew.cell? ⟨bs,0,none⟩=some (.slice (some ⟨b,E+p,none⟩) (d.length-p) c):=Q;have ay:z.drew.frozen? ⟨bs,0,none⟩=false:=al;have aA:Tryz.prog.follows Departure.mixedOrders=true:=(by kernel_rfl);gi_wp2
    gi_region_o
    have au:d.length-p-(k+1)=d.length-(p+(k+1)):=(by omega);rw[au];have an:p+(k+1)<d.length→(if c=k+1 then some (⟨b,E+p,none⟩:Addr) else some ⟨b,E+p+(k+1),none⟩)=some ⟨b,E+(p+(k+1)),none⟩:=fun h=>(by rw[if_neg (by omega),Nat.add_assoc]);generalize (if c=k+1 then some (⟨b,E+p,none⟩:Addr) else some ⟨b,E+p+(k+1),none⟩)=A at an⊢;have N:(z.setCell ⟨bs,0,none⟩ (.slice A (d.length-(p+(k+1))) (c-(k+1)))).drew.heap[bs]? =some (.cells #[.slice A (d.length-(p+(k+1))) (c-(k+1))] 52 (0,0)):=rk HC.out _;have K:J pre (z.setCell ⟨bs,0,none⟩ (.slice A (d.length-(p+(k+1))) (c-(k+1)))).drew:=ao _ _ (af _ _ _ HJ.out);have I:Below Y z (z.setCell ⟨bs,0,none⟩ (.slice A (d.length-(p+(k+1))) (c-(k+1)))).drew:=((jF.setCell (bs:=bs) z aq _).below).trans (jF.drew (bs:=bs) _).below;generalize (z.setCell ⟨bs,0,none⟩ (.slice A (d.length-(p+(k+1))) (c-(k+1)))).drew=w2 at N K I⊢;have L:p+(k+1)≤d.length:=(by omega);obtain⟨fn,tmps,assign,body,hy,hR⟩:=hY pre ⟨(p,k+1),L⟩ w2 K (by omega);simp only[spV] at hy;have ac:=a8 N;have ab:=a8 I;clear N I K ax ay Q al ak;gi_wp2;refine⟨fun h=>(by cases h),hR.mono ?_⟩;rintro e w3 ⟨rfl,ae,U⟩;have R:=U.2.trans ac.out;have aj:w3.cell? ⟨bs,0,none⟩=some (.slice A (d.length-(p+(k+1))) (c-(k+1))):=(by rw[cell_of_row _ _ _ _ _ _ R];rfl);have ag:=(HT.out.below ab.out Z).below U.1 Z;gi_wp2;go_roundw
    case rel=>
     refine⟨p+(k+1),pre++[⟨(p,k+1),L⟩],A,c-(k+1),L,by rw[MT];simp;omega,R,fun h=>⟨an h,by omega,by have:=av.out;omega⟩,fun _=>ag,?_,ae⟩;rw[←HS.out,lX am O];simp
    case measure=>rw[pW aj,HM.out];omega
   ·have O:=rN _ ad;rw[ap] at O;have aa:zM (d.drop p)= -1:=(by unfold zM;rw[if_neg ad]);rw[aa];have N:(z.setCell ⟨bs,0,none⟩ (.slice none 0 0)).heap[bs]? =some (.cells #[.slice none 0 0] 52 (0,0)):=rk HC.out _;have K:J pre (z.setCell ⟨bs,0,none⟩ (.slice none 0 0)):=af _ _ _ HJ.out;have I:Below Y z (z.setCell ⟨bs,0,none⟩ (.slice none 0 0)):=(jF.setCell (bs:=bs) z aq _).below;have L:p+(d.length-p)≤d.length:=(by omega);obtain⟨fn,tmps,assign,body,hy,hR⟩:=hY pre ⟨(p,d.length-p),L⟩ (z.setCell ⟨bs,0,none⟩ (.slice none 0 0)) K (by omega);simp only[spV] at hy;have aB:((d.length-p:Nat):Int)≤(c:Int):=(by omega);have ac:=a8 N;have ab:=a8 I;have HK:=a8 O;clear N I K ak O aa;gi_wp2;refine⟨fun h=>(by cases h),hR.mono ?_⟩;rintro e w3 ⟨rfl,ae,U⟩;have R:=U.2.trans ac.out;have aj:w3.cell? ⟨bs,0,none⟩=some (.slice none 0 0):=(by rw[cell_of_row _ _ _ _ _ _ R];rfl);have ag:=(HT.out.below ab.out Z).below U.1 Z;clear Q al;gi_wp2;go_roundw
    case rel=>
     refine⟨d.length,pre++[⟨(p,d.length-p),L⟩],none,0,MH _,by rw[MT];simp;omega,by rw[Nat.sub_self];exact R,fun h=>by omega,fun _=>ag,?_,ae⟩;rw[←HS.out,lX am HK.out,show p+(d.length-p)=d.length from by omega];simp
    case measure=>rw[pW aj,HM.out];omega
  ·obtain rfl:p=d.length:=(by omega);rw[Nat.sub_self] at Q M;rw[ix _ _ _ (by simp),Nn] at M;have HS:=a8 M;have HJ:=a8 hJ;clear M hJ ha ht V ah hT h0 ai hY af ao;gi_wp2
   go_end0
   exact⟨⟨_,rfl⟩,pre,HS.out,HJ.out⟩
end
def fG:List Nat→Nat
 |[]=>0
 |x::r=>if x=62 then fG r+1 else 0
theorem sH(l:List Nat)(k:Nat)(E:k<l.length)(A:∀j (h:j<l.length),j<k→l[j]=62)(z:l[k]≠62):fG l=k:=by
 induction l generalizing k with
 |nil=>simp at E
 |cons x r ih=>
  cases k with
  |zero=>simp at z;simp[fG,z]
  |succ k=>
   have G:x=62:=A 0 (by simp) (by omega);simp only[fG];rw[if_pos G,ih k (by simpa using E) (fun j J I=>by have:=A (j+1) (by simp;omega) (by omega);simpa using this) (by simpa using z)]
theorem zH(l:List Nat)(z:∀j (h:j<l.length),l[j]=62):fG l=l.length:=by
 induction l with
 |nil=>rfl
 |cons x r ih=>
  have A:x=62:=z 0 (by simp);simp only[fG,M2];rw[if_pos A,ih (fun j E=>by have:=z (j+1) (by simp;omega);simpa using this)]
def kL:List Nat:=[70,114,111,109,32]
def eT(l:List Nat):Bool:=decide ((l.drop (fG l)).take kL.length=kL)
theorem sq(l:List Nat)(z:∀j (h:j<l.length),l[j]=62):eT l=false:=by
 unfold eT;rw[zH l z];simp[kL]
def dR(d:List Nat)(x:Nat×Nat):List Nat:=(d.drop x.1).take x.2
theorem nz(d:List Nat)(x:Nat×Nat)(h:x.1+x.2≤d.length):(dR d x).length=x.2:=by simp[dR];omega
def mm:List (Nat×Nat)→Nat
 |[]=>0
 |x::r=>x.2+mm r
theorem AJ(a b:List (Nat×Nat)):mm (a++b)=mm a+mm b:=by
 induction a with
 |nil=>simp[mm]
 |cons x r ih=>simp[mm,ih];omega
def eX(d:List Nat):Nat→List (Nat×Nat)→List (Nat×Nat)
 |_,[]=>[]
 |s,x::r=>(if eT (dR d x) then[(s,fG (dR d x))] else[])++eX d (s+x.2) r
theorem wN(d:List Nat)(s:Nat)(xs:List (Nat×Nat))(x:Nat×Nat):eX d s (xs++[x])=eX d s xs++(if eT (dR d x) then[(s+mm xs,fG (dR d x))] else[]):=by
 induction xs generalizing s with
 |nil=>simp[eX,mm]
 |cons y r ih=>
  simp only[List.cons_append,eX,mm];rw[ih,Nz,Nat.add_assoc]
theorem qx(d:List Nat)(s:Nat)(xs:List (Nat×Nat)):(eX d s xs).length≤xs.length:=by
 induction xs generalizing s with
 |nil=>simp[eX]
 |cons y r ih=>
  simp only[eX,MT,M2];have:=ih (s+y.2);split<;>simp<;>omega
def d9(d:List Nat):List (Nat×Nat):=eX d 0 (eG d)
def frV(p:Nat×Nat):Value×Value:=(.int .i64 (p.1:Int),.int .i64 (p.2:Int))
theorem Ki(d:List Nat)(xs:List (Sp d)):mm (xs.map (·.1))≤xs.length*d.length:=by
 induction xs with
 |nil=>simp[mm]
 |cons x r ih=>
  have:=x.2;simp only[M0,mm,M2,Nat.add_mul];omega
theorem AQ(l m:List (Value×Value)):two (l++m)=two l++two m:=by simp[two]
theorem zX{W':World}{N bs:Nat}{v:Value}(h:W.ownsRow z e A v n xs)(J:jF N bs W W')(O:bs<z):W'.ownsRow z e A v n xs:=by
 refine⟨h.1,?_⟩;rcases h.2 with L|⟨g,cap,I,M,E,K,G⟩
 ·exact .inl L
 ·exact .inr ⟨g,cap,I,M,E,J.cells g _ K rfl (by omega),G⟩
section
open Go.Shelf
attribute [local go_sem] Oper.semAt_some
theorem EC(v:Value)(w:World)(A:v.oneCell'=true):
  Calls Tryz.prog 219 #[v] w fun e w'=>e= .returned (.func (.func 237) #[] #[.pointer (some ⟨w.heap.size,0,none⟩)])∧w'=w.alloc (.cells #[v] 52):=by
 have z:∀(fn:Fn) (first cap:Array Value) (w:World),(Instr.makeFunc fn first cap).run Tryz.prog w= .ok (.func fn first cap) w:=fun _ _ _ _=>rfl;go_enter Tryz.func219,Tryz.ntmps219;go_wp2;go_ret;exact⟨rfl,rfl⟩
def nM(w:World)(fs:List (Nat×Nat))(s:Nat)(W:World):Prop:=∃v,W.heap[w.heap.size]? =some (.cells #[v] 319 (0,0))∧fj W (w.heap.size+1+1+1) 322 v (fs.map frV)∧W.heap[w.heap.size+1]? =some (.cells #[.int .i64 (s:Int)] 3 (0,0))∧Below w.heap.size w W
theorem nM.calm{w:World}{fs:List (Nat×Nat)}{s:Nat}{W W':World}(z:jF w.heap.size (w.heap.size+1+1) W W')(h:nM w fs s W):nM w fs s W':=by
 obtain⟨v,A,E,G,I⟩:=h;exact⟨v,z.cells _ _ A rfl (by omega),zX E z (by omega),z.cells _ _ G rfl (by omega),I.trans z.below⟩
def uJ(w:World)(d:List Nat)(xs:List (Nat×Nat))(W:World):Prop:=nM w (eX d 0 xs) (mm xs) W
def OnG(w:World)(fs:List (Nat×Nat))(s:Nat)(W W':World):Prop:=(KeepsOthers W W'∧ko w.heap.size (w.heap.size+1+1) W W'∧nM w fs s W')∧w.heap.size+1+1<W'.heap.size
theorem OnG.alloc{w:World}{fs:List (Nat×Nat)}{s:Nat}{W W':World}(h:OnG w fs s W W')(o:Obj):OnG w fs s W (W'.alloc o):=by
 obtain⟨⟨A,z,E⟩,G⟩:=h;exact⟨⟨A.trans (KeepsOthers.alloc _ _),⟨z.1.alloc (by omega) _,(Below.heap_alloc W' o _ G).trans z.2⟩,E.calm (jF.alloc _ _ _ (by omega) _)⟩,by simp;omega⟩
theorem OnG.appended{w:World}{fs gs:List (Nat×Nat)}{s:Nat}{W W' A:World}{v G:Value}(h:OnG w fs s W W')(Q:W'.heap[w.heap.size]? =some (.cells #[v] 319 (0,0)))(O:fj W' (w.heap.size+1+1+1) 322 v (fs.map frV))
  (L:fj A (w.heap.size+1+1+1) 322 G (gs.map frV)) (z:W'.grownBy A v.ownBlock):OnG w gs s W (A.setCell ⟨w.heap.size,0,none⟩ G):=by
 obtain⟨⟨h1,M,h3⟩,hz⟩:=h;have E:∀k,k<w.heap.size+1+1+1→some k≠v.ownBlock:=fun k hk e=>(by have:=(World.ownsRow.lt O k e.symm).1;omega);obtain⟨v0,q1,q2,R,q4⟩:=h3;have V:A.heap[w.heap.size]? =some (.cells #[v] 319 (0,0)):=(z.block _ (lt_of_block Q) (E _ (by omega))).trans Q;have Z:KeepsOthers W' A:=KeepsOthers.of_grownBy z (fun j o e N=>by
  rcases O.2 with⟨rfl,_⟩|⟨g,cap,J,rfl,_,I,_⟩
  ·simp[Value.ownBlock] at e
  ·simp only[Value.ownBlock,MK] at e;subst e;rw[I] at N;cases N;rfl)
 have K:Below w.heap.size W' A:=⟨z.os,z.tape,z.output,z.size,fun k hk=>z.block k (by omega) (E k (by omega))⟩
 refine⟨⟨(h1.trans Z).trans (KeepsOthers.setCell _ _ _),⟨(M.1.trans K).setCell (p:=⟨w.heap.size,0,none⟩) (MH _) _,?_⟩,G,?_,?_,?_,?_⟩,?_⟩
 ·rw[heap_setCell_other _ _ _ _ (by simp;omega),z.block _ hz (E _ (by omega))];exact M.2
 ·exact rk V G
 ·refine⟨L.1,?_⟩;rcases L.2 with hn|⟨g,cap,J,aa,U,I,Y⟩
  ·exact .inl hn
  ·exact .inr ⟨g,cap,J,aa,U,(heap_setCell_other _ _ _ _ (by simp;omega)).trans I,Y⟩
 ·rw[heap_setCell_other _ _ _ _ (by simp),z.block _ (lt_of_block R) (E _ (by omega))];exact R
 ·exact(q4.trans K).setCell (p:=⟨w.heap.size,0,none⟩) (MH _) _
 ·have:=z.size;simp;omega
theorem OnG.start{w:World}{fs:List (Nat×Nat)}{s n:Nat}{W:World}(h:nM w fs s W)(L:w.heap.size+1+1<W.heap.size):OnG w fs (s+n) W (W.setCell ⟨w.heap.size+1,0,none⟩ (.int .i64 ((s:Int)+(n:Int)))):=by
 obtain⟨v,M,z,N,O⟩:=h;refine⟨⟨KeepsOthers.setCell _ _ _,⟨(MJ _ W).setCell (p:=⟨w.heap.size+1,0,none⟩) (by simp) _,heap_setCell_other _ _ _ _ (by simp)⟩,v,?_,?_,?_,?_⟩,by simpa using L⟩
 ·rw[heap_setCell_other _ _ _ _ (by simp)];exact M
 ·refine⟨z.1,?_⟩;rcases z.2 with K|⟨g,cap,G,J,A,I,E⟩
  ·exact .inl K
  ·exact .inr ⟨g,cap,G,J,A,(heap_setCell_other _ _ _ _ (by simp;omega)).trans I,E⟩
 ·rw[rk N];simp
 ·exact O.setCell (p:=⟨w.heap.size+1,0,none⟩) (by simp) _
theorem Tryz.infoFrom:(Tryz.prog.info? 322).map (fun i=>(i.zero,i.size,i.bytes))=some (some (.agg #[.int .i64 0,.int .i64 0]),2,16):=by kernel_rfl
theorem mX{F:Fence}{n:Nat}{K:Array Oper}{J:List Oper}{o:Oper}{E:Act}{Q:Exit→Act→World→Prop}(w:World)(U:o.guard=none)(s x:Operand)
  (ho:o.op= .call {callee:= .builtin .append,args:= #[s,x],argTypes:= #[319,319]})
  (z:Nat) (v:Value) (fs:List (Nat×Nat)) (p q:Nat) (G c:Nat) (hs:E.eval s=v) (hx:E.eval x= .slice (some ⟨G,0,none⟩) 1 c) (R:fj w z 322 v (fs.map frV))
  (h0:w.cell? ⟨G,0,none⟩=some (.int .i64 (p:Int))) (h1:w.cell? ⟨G,1,none⟩=some (.int .i64 (q:Int))) (aa:fs.length≤1048576) (M:z≤w.heap.size)
  (h:∀I w',fj w' z 322 I ((fs++[(p,q)]).map frV)→w.grownBy w' v.ownBlock→wpListIn F n Tryz.prog K Q J (E.put o.dst I) w'):wpListIn F n Tryz.prog K Q (o::J) E w:=by
 obtain⟨i0,hi,V,Y,Z⟩:=info_parts Tryz.infoFrom;have N:w.ownsRow z 322 2 v fs.length (two (fs.map frV)):=(by have:=R;unfold fj at this;rw[MI] at this;exact this);refine wpListIn_append_own w U s x 319 ho z 322 i0 (.agg #[.int .i64 0,.int .i64 0]) 2 16 Tryz.underlying319 hi V Y Z rfl (by decide) v fs.length (two (fs.map frV)) hs N ⟨G,0,none⟩ 1 c [.int .i64 (p:Int),.int .i64 (q:Int)] hx (by simp) ?_ ?_ (by unfold maxLen;omega) (by omega) M ?_
 ·intro j u A;rw[ej]
  match j with
  |0=>simp only[Nj,MK] at A;rw[←A];exact h0
  |1=>simp only[Ni,Nj,MK] at A;rw[←A];exact h1
  |j+2=>simp at A
 ·intro u L;simp only[M1,Nw,or_false] at L;rcases L with rfl|rfl<;>rfl
 ·intro I w' O hg _;refine h I w' ?_ hg;unfold fj;rw[MI,MT,MS,AQ];exact O
theorem Jq(w:World):dW (w.alloc (.cells #[.int .u8 70,.int .u8 114,.int .u8 111,.int .u8 109,.int .u8 32] 5 (5,6))) (some ⟨w.heap.size,0,none⟩) kL:=fun _=>by
 refine⟨w.heap.size,0,rfl,fun i z=> ?_⟩;rw[cell_of_row _ _ _ _ 5 (5,6) (heap_alloc_new w _)];simp only[kL,M2,List.length_nil] at z
 match i with
 |0=>rfl
 |1=>rfl
 |2=>rfl
 |3=>rfl
 |4=>rfl
 |i+5=>omega
theorem eD{W:World}{b z:Nat}{l:List Nat}(h:d8 W b z l):dW W (some ⟨b,z,none⟩) l:=fun _=>⟨b,z,rfl,h⟩
theorem kQ{W:World}{b z:Nat}{d:List Nat}(h:0<d.length→d8 W b z d)(x:Nat×Nat)(E:x.1+x.2≤d.length):d8 W b (z+x.1) (dR d x):=fun i G=>by
 have I:=nz d x E;have A:x.1+i<d.length:=(by omega);rw[Nat.add_assoc,h (by omega) (x.1+i) A];simp[dR]
theorem lg(L:Option Addr)(G:Nat)(d:List Nat)(w:World)(hd:d.length≤1048576)(aD:d.length≤G)(aS:G≤9223372036854775807)(hr:dW w L d)(hb:∀x∈d,x<256):
  Calls Tryz.prog 203 #[.slice L d.length G] w fun e w'=>∃v,e= .returned v∧fj w' w.heap.size 322 v ((d9 d).map frV)∧Below w.heap.size w w':=by
 refine(callsIn_wide (n:=6)).1 ?_;refine callsIn_of_wp_marks Tryz.func203 rfl trivial ?_ rfl;simp only[Tryz.ntmps203,List.size_toArray,M2,List.length_nil,Nat.reduceAdd,Nat.reduceSub,Array.replicate_succ,Array.replicate_zero,List.push_toArray,List.append_toArray,Nq,List.cons_append];gi_wp2_with fail;refine CX ?_;gi_wp2_with fail;refine wpIn_label ?_;gi_wp2_with fail;refine⟨trivial,(callsIn_wide.2 (EC (.slice L d.length G) _ rfl)).mono ?_⟩;rintro e R ⟨rfl,Y⟩;have O:((w.alloc (.cells #[.slice none 0 0] 319)).alloc (.cells #[.int .i64 0] 3)).heap.size=w.heap.size+1+1:=(by simp);rw[O];have aM:R.heap[w.heap.size]? =some (.cells #[.slice none 0 0] 319 (0,0)):=by
  rw[Y,Below.heap_alloc _ _ _ (by rw[O];omega),Below.heap_alloc _ _ _ (by simp)];exact heap_alloc_new w _
 have aN:R.heap[w.heap.size+1]? =some (.cells #[.int .i64 0] 3 (0,0)):=by
  rw[Y,Below.heap_alloc _ _ _ (by rw[O];omega)];have:=heap_alloc_new (w.alloc (.cells #[.slice none 0 0] 319)) (.cells #[.int .i64 0] 3);simpa using this
 have aO:R.heap[w.heap.size+1+1]? =some (.cells #[.slice L d.length G] 52 (0,0)):=by
  rw[Y,←O];exact heap_alloc_new _ _
 have au:Below w.heap.size w R:=(by rw[Y];exact(((MJ _ w).alloc (MH _) _).alloc (by simp) _).alloc (by rw[O];omega) _);have aY:R.heap.size=w.heap.size+1+1+1:=(by rw[Y,World.size_alloc,O]);clear Y O;obtain⟨b,A,I⟩:∃b A,0<d.length→L=some ⟨b,A,none⟩∧d8 w b A d∧b<w.heap.size:=by
  by_cases h0:0<d.length
  ·obtain⟨b,A,e,hc⟩:=hr h0;refine⟨b,A,fun _=>⟨e,hc,dH (hc 0 h0)⟩⟩
  ·exact⟨0,0,fun h=>absurd h h0⟩
 have aH:uJ w d [] R:=⟨_,aM,World.ownsRow_nil _ _ _ _,aN,au⟩
 gi_wp2;refine uI (α:=Sp d) w.heap.size (w.heap.size+1+1) (by omega) (by omega) rfl (by omega) (gf:=237) (lb:= #[.pointer (some ⟨w.heap.size+1+1,0,none⟩)]) rfl trivial (enters_of Tryz.func237 (by kernel_rfl) rfl) (encs:=spV b A) (fun _=>rfl) (S:=fun xs=>xs.map (·.1)=eG d) d.length
  (fun(xs:List (Sp d)) W=>uJ w d (xs.map Subtype.val) W) (fun pre W W' hc hi=>nM.calm hc hi) aH
  (fun x=>{tmps:= #[.slice L d.length G,undef,.slice none 0 0,.pointer (some ⟨w.heap.size,0,none⟩),.pointer (some ⟨w.heap.size+1,0,none⟩),.slice (some ⟨b,A+x.1.1,none⟩) x.1.2 x.1.2,undef,undef,undef,.slice L d.length G,.func (.func 237) #[] #[.pointer (some ⟨w.heap.size+1+1,0,none⟩)],.slice (some ⟨b,A+x.1.1,none⟩) x.1.2 x.1.2,undef,undef,undef,undef,undef,undef,undef,undef,undef,undef,undef,undef,undef,undef,undef,undef,undef,undef,undef,undef,undef,undef,undef,undef,undef,undef,undef,undef],defers:=[]}) ?seq ?assign ?body ?done
 case seq=>
  intro l J W hl aR aC aK aJ hY aI;have ay:Below w.heap.size R W:=aC.mono (by omega);exact EB 5 l (w.heap.size+1+1) w.heap.size b A d hb (fun h=>(I h).2.2) hd (by omega) J aK aJ hY W L G (aR.trans aO) (fun h=>⟨(I h).1,aD,aS⟩) (fun h=>((I h).2.1.below au (I h).2.2).below ay (I h).2.2) aI
 case assign=>
  intro l x W K hK;simp only[spV];gi_wp2;exact hK
 case body=>
  rintro l pre x W ⟨v,h1,Q,Z,h4⟩ hN bi;have hx:=x.2;have aE:=Ki d pre;have aW:pre.length*d.length≤1048576*1048576:=Nat.mul_le_mul (by omega) hd;have HS:=a8 (wN d 0 (pre.map Subtype.val) x.1);have ab:Hid (mm ((pre++[x]).map Subtype.val)=mm (pre.map Subtype.val)+x.1.2):=by
   show _=_;rw[MS,AJ];simp[mm]
  have aA:=qx d 0 (pre.map Subtype.val);rw[MI] at aA;have ai:W.cell? ⟨w.heap.size+1,0,none⟩=some (.int .i64 (mm (pre.map Subtype.val):Int)):=(by rw[cell_of_row _ _ _ _ _ _ Z];rfl);have ba:W.frozen? ⟨w.heap.size+1,0,none⟩=false:=(by simp[World.frozen?,Z]);generalize aw:mm (pre.map Subtype.val)=z at aE ai ab⊢;have bh:z≤1099511627776:=(by omega);have bj:x.1.2≤1048576:=(by omega);have aU:=nz d x.1 hx;have ac:d8 W b (A+x.1.1) (dR d x.1):=kQ (fun h=>(I h).2.1.below h4 (I h).2.2) x.1 hx;have aP:0<x.1.2→b<w.heap.size:=fun h=>(I (by omega)).2.2;have hG:nM w (eX d 0 (pre.map Subtype.val)) z W:=⟨v,h1,Q,by rw[←aw];exact Z,h4⟩
  have ao:=OnG.start (n:=x.1.2) hG (by omega);have an:Hid (∀W',eT (dR d x.1)=false→OnG w (eX d 0 (pre.map Subtype.val)) (z+x.1.2) W W'→KeepsOthers W W'∧ko w.heap.size (w.heap.size+1+1) W W'∧uJ w d ((pre++[x]).map Subtype.val) W'):=fun W' N h=>by
   refine⟨h.1.1,h.1.2.1,?_⟩;have e:=HS.out;rw[N] at e;simp only[Bool.false_eq_true,if_false,Nn] at e;unfold uJ;rw[ab.out,MS];show nM w (eX d 0 (pre.map Subtype.val++[x.1])) _ _;rw[e];exact h.1.2.2
  have az:Hid (∀W' k,eT (dR d x.1)=true→fG (dR d x.1)=k→OnG w (eX d 0 (pre.map Subtype.val)++[(z,k)]) (z+x.1.2) W W'→KeepsOthers W W'∧ko w.heap.size (w.heap.size+1+1) W W'∧uJ w d ((pre++[x]).map Subtype.val) W'):=fun W' k N hm h=>by
   refine⟨h.1.1,h.1.2.1,?_⟩;have e:=HS.out;rw[N,hm,aw] at e;simp only[if_true,Ng] at e;unfold uJ;rw[ab.out,MS];show nM w (eX d 0 (pre.map Subtype.val++[x.1])) _ _;rw[e];exact h.1.2.2
  have ae:=a8 ao;clear hG ao HS ab;clear h1 Q Z h4;gi_wp2;have V:d8 (W.setCell ⟨w.heap.size+1,0,none⟩ (.int .i64 ((z:Int)+(x.1.2:Int)))) b (A+x.1.1) (dR d x.1):=fun i hi=>by
   have:=aP (by omega);rw[World.cell?_setCell_other _ _ _ _ (fun e=>by have:=congrArg Addr.block e;simp at this;omega)];exact ac i hi
  generalize W.setCell ⟨w.heap.size+1,0,none⟩ (.int .i64 ((z:Int)+(x.1.2:Int)))=W2 at V ae⊢
  gi_loopw [7,8,19] (fun _ _ i wr=>∃k:Nat,k≤x.1.2∧i= .int .i64 (k:Int)∧(∀j (h:j<(dR d x.1).length),j<k→(dR d x.1)[j]=62)∧wr=W2) (fun _ _ i _=>x.1.2-(intOf i).toNat)
  case atStart=>exact⟨0,by omega,rfl,fun j _ h=>by omega,rfl⟩
  case round=>
   obtain⟨k,hk,rfl,M,rfl⟩:=hrel;by_cases bg:k<x.1.2
   ·have aq:k<(dR d x.1).length:=(by omega);have av:=V k aq;by_cases af:(dR d x.1)[k]=62
    ·rw[af] at av;have HA:=a8 M;clear M V ac;gi_wp2;go_roundw
     case rel=>exact⟨k+1,by omega,by go_num,fun j hj be=>by
      by_cases e:j=k
      ·subst e;exact af
      ·exact HA.out j hj (by omega),by simp⟩
     case measure=>simp[intOf];omega
    ·have he:(((dR d x.1)[k]:Int)==62)=false:=(by simp;omega);have hm:=sH _ k aq M af;have N:eT (dR d x.1)=decide (((dR d x.1).drop k).take kL.length=kL):=(by unfold eT;rw[hm]);have aV:((dR d x.1).drop k).length=x.1.2-k:=(by rw[MU,aU]);have HR:=a8 (V.drop k);have aT:=fun(w:World) (C:Array Value) (n c:Nat)=>Lib.run_convert_bytes_const (P:=Tryz.prog) w 52 5 C n c Tryz.underlying52 Tryz.underlying5;have bf:(k:Int)≤(x.1.2:Int):=(by omega);have aX:¬x.1.2=k:=(by omega);have HA:=a8 M;clear M V ac;have aQ:∀y∈(dR d x.1).drop k,y<256:=fun y hy=>hb y (M7 (M4 (M7 hy)));gi_wp2_with fail;have aa:=Jq wr;have ad:=(eD HR.out).below (nAl wr (.cells #[.int .u8 70,.int .u8 114,.int .u8 111,.int .u8 109,.int .u8 32] 5 (5,6)));have U:=ae.out.alloc (.cells #[.int .u8 70,.int .u8 114,.int .u8 111,.int .u8 109,.int .u8 32] 5 (5,6));generalize bd:wr.heap.size=g2 at aa⊢;generalize wr.alloc (.cells #[.int .u8 70,.int .u8 114,.int .u8 111,.int .u8 109,.int .u8 32] 5 (5,6))=w3 at ad aa U⊢;refine⟨trivial,(CallsIn.inRound l (callsIn_wide.2 (mC _ _ _ _ (x.1.2-k) 5 ((dR d x.1).drop k) kL w3 aV rfl (MH _) ad aa aQ (by decide)))).mono ?_⟩;rintro e E ⟨rfl,rfl⟩;rw[←N];clear ad aa HR aT av;by_cases hf:eT (dR d x.1)=true
     ·rw[hf];obtain⟨v3,q1,q2,q3,q4⟩:=U.1.2.2;have c3:E.cell? ⟨w.heap.size,0,none⟩=some v3:=(by rw[cell_of_row _ _ _ _ _ _ q1];rfl);have ap:=U.alloc (.cells #[.int .i64 (z:Int),.int .i64 (k:Int)] 322);have ag:=nAl E (.cells #[.int .i64 (z:Int),.int .i64 (k:Int)] 322);have ax:=(ag.block _ (lt_of_block q1)).trans q1;have al:=fj.below q2 ag (MH _);have e0:(E.alloc (.cells #[.int .i64 (z:Int),.int .i64 (k:Int)] 322)).cell? ⟨E.heap.size,0,none⟩=some (.int .i64 (z:Int)):=(by rw[cell_of_row _ _ _ _ _ _ (heap_alloc_new E _)];rfl);have e1:(E.alloc (.cells #[.int .i64 (z:Int),.int .i64 (k:Int)] 322)).cell? ⟨E.heap.size,1,none⟩=some (.int .i64 (k:Int)):=(by rw[cell_of_row _ _ _ _ _ _ (heap_alloc_new E _)];rfl);have bk:=U.2;have H:=a8 (And.intro ap (And.intro ax al));clear U ap q1 q2 q3 q4 ag ax;gi_wp2_with (gi_at_builtin;refine mX _ rfl _ _ rfl (w.heap.size+1+1+1) v3 _ z k E.heap.size 1 rfl rfl al e0 e1 (by omega) (by simp;omega) ?_;intro v5 w5 ak aj;have ah:=(aj.block _ (lt_of_block H.out.2.1) (fun e=>by have:=(World.ownsRow.lt al _ e.symm).1;omega)).trans H.out.2.1;have aZ:w5.cell? ⟨w.heap.size,0,none⟩=some v3:=(by rw[cell_of_row _ _ _ _ _ _ ah];rfl);have bb:w5.frozen? ⟨w.heap.size,0,none⟩=false:=(by simp[World.frozen?,ah]);have HF:=a8 (az.out _ k hf hm (OnG.appended H.out.1 H.out.2.1 H.out.2.2 ak aj));obtain⟨a5,c5,rfl⟩:=fj.slice ak;clear ak aj ah;generalize ((eX d 0 (pre.map Subtype.val)++[(z,k)]).map frV).length=n5 at HF⊢)
      exact HF.out
     ·simp only[Bool.not_eq_true] at hf;rw[hf];gi_wp2;exact an.out _ hf U
   ·obtain rfl:k=x.1.2:=(by omega);have N:eT (dR d x.1)=false:=sq _ (fun j hj=>M j hj (by omega));clear M V ac;gi_wp2;exact an.out _ N ae.out
 case done=>
  rintro D xs W hS ⟨v,h1,Q,Z,h4⟩ hD hK;have aL:xs.map Subtype.val=eG d:=hS;rw[aL] at Q;have ai:W.cell? ⟨w.heap.size,0,none⟩=some v:=(by rw[cell_of_row _ _ _ _ _ _ h1];rfl);have ar:=a8 hK;have H2:=a8 Q;obtain⟨a,cap,rfl⟩:=Q.slice;generalize ((eX d 0 (eG d)).map frV).length=nn at ai H2;clear h1 Q Z hS hK;gi_wp2;refine⟨by simp,.inl ⟨_,_,rfl,run_takeDeferred ar.out,?_⟩⟩;have am:jF w.heap.size (w.heap.size+1+1) W (W.putObj D (.deferred none)):=jF.putObj ar.out rfl (by omega) _;refine⟨_,results_tmp rfl _ _ _,_,rfl,?_,h4.trans am.below⟩;have h5:fj (W.putObj D (.deferred none)) (w.heap.size+1+1+1) 322 (.slice a nn cap) ((eX d 0 (eG d)).map frV):=zX H2.out am (by omega);refine⟨h5.1,?_⟩;rcases h5.2 with hn|⟨g,aB,aG,hv,bc,aF⟩
  ·exact .inl hn
  ·exact .inr ⟨g,aB,aG,hv,by omega,aF⟩
end
def uGo(d:List Nat):Nat→List (Nat×Nat)→List Nat
 |t,[]=>d.drop t
 |t,x::r=>if 0<x.2 then(d.drop t).take (x.1-t)++uGo d (x.1+1) r else uGo d t r
def Ups(n:Nat):Nat→List (Nat×Nat)→Prop
 |_,[]=>True
 |t,x::r=>t≤x.1∧x.1+1≤n∧Ups n (x.1+1) r
theorem Ups.mono{n t z:Nat}{fs:List (Nat×Nat)}(h:Ups n t fs)(A:z≤t):Ups n z fs:=by
 cases fs with
 |nil=>trivial
 |cons x r=>exact⟨MN A h.1,h.2.1,h.2.2⟩
theorem sr{l:List Nat}(h:eT l=true):0<l.length:=by
 cases l with
 |nil=>simp[eT,kL,fG] at h
 |cons x r=>simp
def kG(d:List Nat):Nat→List (Nat×Nat)→Prop
 |s,[]=>s=d.length
 |s,x::r=>x.1=s∧s+x.2≤d.length∧kG d (s+x.2) r
theorem Ax(d:List Nat)(f s:Nat)(E:d.length-s≤f)(G:s≤d.length):kG d s (fU f s (d.drop s)):=by
 induction f generalizing s with
 |zero=>rw[ix _ _ _ (by rw[MU];omega)];show s=d.length;omega
 |succ f ih=>
  simp only[fU];split
  ·next h=>rw[MU] at h;show s=d.length;omega
  ·next h=>
   rw[MU] at h;have A:=jm (d.drop s) (by rw[MU];omega);have z:=rM (d.drop s);rw[MU] at z;rw[List.drop_drop];exact⟨rfl,by omega,ih (s+fO (d.drop s)) (by omega) (by omega)⟩
theorem ox(f p:Nat)(d:List Nat):(fU f p d).length≤f:=by
 induction f generalizing p d with
 |zero=>simp[fU]
 |succ f ih=>
  simp only[fU];split
  ·simp
  ·have:=ih (p+fO d) (d.drop (fO d));simp;omega
theorem pQ(d:List Nat):(d9 d).length≤d.length:=MN (qx d 0 _) (ox _ _ _)
theorem jk(d:List Nat):kG d 0 (eG d):=by
 have:=Ax d d.length 0 (by omega) (by omega);rwa[List.drop_zero] at this
theorem FW{d:List Nat}{s:Nat}{xs:List (Nat×Nat)}(h:kG d s xs):s≤d.length:=by
 cases xs with
 |nil=>exact Nat.le_of_eq h
 |cons x r=>have:=h.2.1;omega
theorem mJ{s:Nat}{x:Nat×Nat}(h:x.1=s):dR d x=(d.drop s).take x.2:=by subst h;rfl
theorem Ft{d:List Nat}{s:Nat}{xs:List (Nat×Nat)}(h:kG d s xs):Ups d.length s (eX d s xs):=by
 induction xs generalizing s with
 |nil=>trivial
 |cons x r ih=>
  obtain⟨G,I,A⟩:=h;simp only[eX];by_cases z:eT (dR d x)=true
  ·rw[if_pos z];have E:=sr z;rw[mJ G] at E;simp at E;exact⟨MH _,by omega,(ih A).mono (by omega)⟩
  ·rw[if_neg z];exact(ih A).mono (by omega)
theorem vS(d:List Nat)(t s k:Nat)(h:t≤s):(d.drop t).take (s+k-t)=(d.drop t).take (s-t)++(d.drop s).take k:=by
 rw[show s+k-t=(s-t)+k from by omega,List.take_add,List.drop_drop,show t+(s-t)=s from by omega]
def jN(d:List Nat)(x:Nat×Nat):List Nat:=if eT (dR d x)&&decide (0<fG (dR d x)) then(dR d x).drop 1 else dR d x
theorem MG{d:List Nat}{t s:Nat}{xs:List (Nat×Nat)}(h:kG d s xs)(J:t≤s):uGo d t (eX d s xs)=(d.drop t).take (s-t)++xs.flatMap (jN d):=by
 induction xs generalizing s t with
 |nil=>
  have K:s=d.length:=h;subst K;simp only[eX,uGo,List.flatMap_nil,Nn];rw[MX (Nat.le_of_eq (MU ..))]
 |cons x r ih=>
  obtain⟨A,L,G⟩:=h;simp only[eX,List.flatMap_cons];by_cases z:eT (dR d x)=true
  ·rw[if_pos z];have I:=sr z;rw[mJ A] at I;simp at I;simp only[List.cons_append,Nq,uGo];by_cases E:0<fG (dR d x)
   ·rw[if_pos E,ih G (by omega)];unfold jN;rw[z,decide_eq_true E];simp only[Bool.and_self,if_true];rw[mJ A,List.drop_take,List.drop_drop,show s+x.2-(s+1)=x.2-1 from by omega]
   ·rw[if_neg E,ih G (by omega),vS d t s x.2 J];unfold jN;rw[z,decide_eq_false E];simp only[Bool.and_false,Bool.false_eq_true,if_false];rw[mJ A,Nz]
  ·rw[if_neg z,Nq,ih G (by omega),vS d t s x.2 J];unfold jN;simp only[Bool.not_eq_true] at z;rw[z];simp only[Bool.false_and,Bool.false_eq_true,if_false];rw[mJ A,Nz]
def dX(d:List Nat):List Nat:=(eG d).flatMap (jN d)
theorem CJ(d:List Nat):uGo d 0 (d9 d)=dX d:=by have:=MG (jk d) (MH 0);simpa[dX,d9] using this
theorem DG(d:List Nat):Ups d.length 0 (d9 d):=Ft (jk d)
theorem Fs(d:List Nat){s:Nat}{xs:List (Nat×Nat)}(h:kG d s xs):(xs.flatMap (jN d)).length≤d.length-s:=by
 induction xs generalizing s with
 |nil=>simp
 |cons x r ih=>
  obtain⟨A,E,z⟩:=h;have:=ih z;have G:(dR d x).length≤x.2:=(by simp[dR];omega);rw[List.flatMap_cons,MT];have:(jN d x).length≤x.2:=by
   unfold jN;split
   ·rw[MU];omega
   ·omega
  omega
theorem mU(d:List Nat):(dX d).length≤d.length:=Fs d (jk d)
theorem np{x:Nat×Nat}{y:Nat}(h:y∈dR d x):y∈d:=M7 (M4 h)
theorem yh(d:List Nat)(A:∀x∈d,x<256):∀x∈dX d,x<256:=by
 intro y z;simp only[dX,List.mem_flatMap] at z;obtain⟨x,_,z⟩:=z;unfold jN at z;split at z
 ·exact A y (np (M7 z))
 ·exact A y (np z)
theorem gW{b:Nat}(h:d8 w b z d)(t n:Nat):d8 w b (z+t) ((d.drop t).take n):=fun i E=>by
 have A:t+i<d.length:=(by simp at E;omega);rw[Nat.add_assoc,h (t+i) A];simp
theorem pY(d:List Nat)(t n:Nat)(h:t+n≤d.length):((d.drop t).take n).length=n:=by simp;omega
def f5:List Nat:=[70,114,111,109,32,109,97,105,108,10]
def jH(d:List Nat):Bool:=if h:0<d.length then decide (d[d.length-1]≠10) else false
theorem wO(w:World):dW (w.alloc (.cells #[.int .u8 70,.int .u8 114,.int .u8 111,.int .u8 109,.int .u8 32,.int .u8 109,.int .u8 97,.int .u8 105,.int .u8 108,.int .u8 10] 5 (10,11))) (some ⟨w.heap.size,0,none⟩) f5:=fun _=>by
 refine⟨w.heap.size,0,rfl,fun i z=> ?_⟩;rw[cell_of_row _ _ _ _ 5 (10,11) (heap_alloc_new w _)];simp only[f5,M2,List.length_nil] at z
 match i with
 |0=>rfl
 |1=>rfl
 |2=>rfl
 |3=>rfl
 |4=>rfl
 |5=>rfl
 |6=>rfl
 |7=>rfl
 |8=>rfl
 |9=>rfl
 |i+10=>omega
theorem wQ(b A cap:Nat)(d:List Nat)(w:World)(N:d.length≤1048576)(G:d8 w b A d):
  Calls Tryz.prog 206 #[.slice (some ⟨b,A,none⟩) d.length cap] w fun e w'=>e= .returned (.bool (jH d))∧w'=w:=by
 by_cases K:0<d.length
 ·have I:=G (d.length-1) (by omega);obtain⟨n,L⟩:∃n,d.length=n+1:=⟨d.length-1,by omega⟩
  have z:jH d=decide (d[d.length-1]≠10):=(by unfold jH;rw[dif_pos K]);generalize d[d.length-1]=y at I z;rw[show d.length-1=n from by omega] at I;have E:=a8 z;clear z G;rw[L];have Q:(0:Int)≤(n:Int):=(by omega);have O:((n:Int)+1-1)=(n:Int):=(by omega);by_cases J:y=10
  ·subst J;go_enter Tryz.func206,Tryz.ntmps206;go_wp2;go_ret;exact⟨by rw[E.out];rfl,rfl⟩
  ·have R:((y:Int) !=10)=true:=(by simp;omega);go_enter Tryz.func206,Tryz.ntmps206;go_wp2;go_ret;exact⟨by rw[E.out,decide_eq_true J];simp,rfl⟩
 ·have M:d=[]:=Nt (by omega);subst M;go_enter Tryz.func206,Tryz.ntmps206;go_wp2;go_ret;exact⟨rfl,rfl⟩
theorem xQ(b A cap:Nat)(d:List Nat)(w:World)(N:d.length≤1048576)(G:d8 w b A d):
  Calls Tryz.prog 96 #[.slice (some ⟨b,A,none⟩) d.length cap] w fun e w'=>e= .returned (.bool (jH d))∧w'=w:=by
 by_cases K:0<d.length
 ·have I:=G (d.length-1) (by omega);obtain⟨n,L⟩:∃n,d.length=n+1:=⟨d.length-1,by omega⟩
  have z:jH d=decide (d[d.length-1]≠10):=(by unfold jH;rw[dif_pos K]);generalize d[d.length-1]=y at I z;rw[show d.length-1=n from by omega] at I;have E:=a8 z;clear z G;rw[L];have Q:(0:Int)≤(n:Int):=(by omega);have O:((n:Int)+1-1)=(n:Int):=(by omega);by_cases J:y=10
  ·subst J;go_enter Tryz.func96,Tryz.ntmps96;go_wp2;go_ret;exact⟨by rw[E.out];rfl,rfl⟩
  ·have R:((y:Int) !=10)=true:=(by simp;omega);go_enter Tryz.func96,Tryz.ntmps96;go_wp2;go_ret;exact⟨by rw[E.out,decide_eq_true J];simp,rfl⟩
 ·have M:d=[]:=Nt (by omega);subst M;go_enter Tryz.func96,Tryz.ntmps96;go_wp2;go_ret;exact⟨rfl,rfl⟩
def ed(e:List Nat):List Nat:=(e.drop 10).take (e.length-11)
def eh(e:List Nat):Bool:=decide (10<e.length∧e.take 10=f5∧e.drop (e.length-1)=[10])&& !jH (ed e)
theorem oR(b E cap n:Nat)(G:Option Addr)(K:Nat)(l:List Nat)(w:World)(R:l.length=n)(M:n≤cap)(O:n≤1048576)(I:d8 w b E l)(A:dW w G [10])(J:∀x∈l,x<256):
  Calls Tryz.prog 207 #[.slice (some ⟨b,E,none⟩) n cap,.slice G 1 K] w fun e w'=>e= .returned (.bool (decide (l.drop (l.length-1)=[10]∧0<l.length)))∧w'=w:=by
 subst R;by_cases h0:0<l.length
 ·obtain⟨m,z⟩:∃m,l.length=m+1:=⟨l.length-1,by omega⟩
  have Q:(l.drop m).length=1:=(by rw[MU];omega);have L:=a8 (uV (some ⟨b,E+m,none⟩) G (cap-m) K (l.drop m) [10] w (eD (I.drop m)) A (fun x U=>J x (M7 U)) (by decide));rw[Q] at L;have N:Hid (decide (l.drop m=[10])=decide (l.drop (l.length-1)=[10]∧0<l.length)):=by
   show _=_;rw[z,show m+1-1=m from by omega];simp
  have Y:(1:Int)≤(m:Int)+1:=(by omega);have Z:(m:Int)+1-1=(m:Int):=(by omega);have aa:¬cap=m:=(by omega);have ab:m+1-m=1:=(by omega);rw[z];rw[z] at M O;clear I A J;go_enter Tryz.func207,Tryz.ntmps207;go_wp2_with fail;refine(L.out).mono ?_;rintro e w' ⟨rfl,rfl⟩;go_wp2;go_ret;exact⟨eE (by have h:=N.out;rw[z] at h;exact h),rfl⟩
 ·have V:l=[]:=Nt (by omega);subst V;clear I A J;go_enter Tryz.func207,Tryz.ntmps207;go_wp2;go_ret;exact⟨rfl,rfl⟩
theorem Dr(w:World):dW (w.alloc (.cells #[.int .u8 10] 5 (1,2))) (some ⟨w.heap.size,0,none⟩) [10]:=fun _=>by
 refine⟨w.heap.size,0,rfl,fun i z=> ?_⟩;simp at z;subst z;rw[cell_of_row _ _ _ _ 5 (1,2) (heap_alloc_new w _)];rfl
theorem KX(b z cap n:Nat)(d:List Nat)(w:World)(G:d.length=n)(E:n≤1048576)(A:d8 w b z d):
  Calls Tryz.prog 206 #[.slice (some ⟨b,z,none⟩) n cap] w fun e w'=>e= .returned (.bool (jH d))∧w'=w:=by
 subst G;exact wQ b z cap d w E A
theorem nN(b z cap n:Nat)(A:Option Addr)(l:List Nat)(w:World)(N:l.length=n)(L:n≤cap)(I:d8 w b z l)(E:dW w A f5)(K:∀x∈l,x<256)(h:l.take 10=f5):
  Calls Tryz.prog 205 #[.slice (some ⟨b,z,none⟩) n cap,.slice A 10 10] w fun e w'=>e= .returned (.tuple #[.slice (if cap=10 then some ⟨b,z,none⟩ else some ⟨b,z+10,none⟩) (n-10) (cap-10),.bool true])∧w'=w:=by
 have G:=a8 (mC (some ⟨b,z,none⟩) A cap 10 n 10 l f5 w N rfl L (eD I) E K (by decide));have J:decide (l.take f5.length=f5)=true:=decide_eq_true h;rw[J] at G;have O:10≤n:=(by have:=congrArg List.length h;simp[f5] at this;omega);have R:(10:Int)≤(n:Int):=(by omega);clear I E K h J;go_enter Tryz.func205,Tryz.ntmps205;go_wp2_with fail;refine(G.out).mono ?_;rintro e w' ⟨rfl,rfl⟩;by_cases Q:cap=10
 ·have M:(cap:Int)=10:=(by omega);go_wp2
  all_goals (go_ret2;exact⟨by simp,rfl⟩)
 ·have M:¬(cap:Int)=10:=(by omega);go_wp2
  all_goals (go_ret2;exact⟨by simp,rfl⟩)
theorem wD(b z cap n:Nat)(A:Option Addr)(l:List Nat)(w:World)(M:l.length=n)(L:n≤cap)(I:d8 w b z l)(E:dW w A f5)(K:∀x∈l,x<256)(h:¬l.take 10=f5):
  Calls Tryz.prog 205 #[.slice (some ⟨b,z,none⟩) n cap,.slice A 10 10] w fun e w'=>e= .returned (.tuple #[.slice (some ⟨b,z,none⟩) n cap,.bool false])∧w'=w:=by
 have G:=a8 (mC (some ⟨b,z,none⟩) A cap 10 n 10 l f5 w M rfl L (eD I) E K (by decide));have J:decide (l.take f5.length=f5)=false:=decide_eq_false h;rw[J] at G;clear I E K h J;go_enter Tryz.func205,Tryz.ntmps205;go_wp2_with fail;refine(G.out).mono ?_;rintro e w' ⟨rfl,rfl⟩;go_wp2;go_ret2;exact⟨rfl,rfl⟩
theorem kZ(b z cap n:Nat)(A:Option Addr)(l:List Nat)(w:World)(L:l.length=n)(M:n≤cap)(N:n≤1048576)(I:d8 w b z l)(E:dW w A [10])(K:∀x∈l,x<256)(O:0<n)(h:l.drop (n-1)=[10]):
  Calls Tryz.prog 184 #[.slice (some ⟨b,z,none⟩) n cap,.slice A 1 1] w fun e w'=>e= .returned (.tuple #[.slice (some ⟨b,z,none⟩) (n-1) cap,.bool true])∧w'=w:=by
 have G:=a8 (oR b z cap n A 1 l w L M N I E K);have J:decide (l.drop (l.length-1)=[10]∧0<l.length)=true:=decide_eq_true ⟨by rw[L];exact h,by omega⟩;rw[J] at G;obtain⟨m,rfl⟩:∃m,n=m+1:=⟨n-1,by omega⟩
 have U:(0:Int)≤(m:Int):=(by omega);have Q:(m:Int)+1-1=(m:Int):=(by omega);have R:(m:Int)≤(cap:Int):=(by omega);clear I E K h J O;go_enter Tryz.func184,Tryz.ntmps184;go_wp2_with fail;refine(G.out).mono ?_;rintro e w' ⟨rfl,rfl⟩;go_wp2;go_ret2;exact⟨rfl,rfl⟩
theorem j4(b z cap n:Nat)(A:Option Addr)(l:List Nat)(w:World)(M:l.length=n)(K:n≤cap)(L:n≤1048576)(I:d8 w b z l)(E:dW w A [10])(J:∀x∈l,x<256)(h:¬(l.drop (l.length-1)=[10]∧0<l.length)):
  Calls Tryz.prog 184 #[.slice (some ⟨b,z,none⟩) n cap,.slice A 1 1] w fun e w'=>e= .returned (.tuple #[.slice (some ⟨b,z,none⟩) n cap,.bool false])∧w'=w:=by
 have G:=a8 (oR b z cap n A 1 l w M K L I E J);rw[decide_eq_false h] at G;clear I E J h;go_enter Tryz.func184,Tryz.ntmps184;go_wp2_with fail;refine(G.out).mono ?_;rintro e w' ⟨rfl,rfl⟩;go_wp2;go_ret2;exact⟨rfl,rfl⟩
theorem tb(p q:Nat)(w:World):
  Calls Tryz.prog 204 #[.agg #[.int .i64 (p:Int),.int .i64 (q:Int)]] w fun e w'=>e= .returned (.bool (decide (0<q)))∧Below w.heap.size w w':=by
 go_enter Tryz.func204,Tryz.ntmps204;go_wp2;go_ret;exact⟨rfl,(MJ _ _).alloc (MH _) _⟩
theorem oF{z A:World}(h:Below B w z)(k:Below z.heap.size z A)(E:B≤z.heap.size:=by omega):Below B w A:=h.trans (k.mono E)
theorem qZ(b N cap:Nat)(d:List Nat)(w:World)(hd:d.length≤1048576)(aH:d.length≤cap)(aN:cap≤9223372036854775807)(hT:d8 w b N d)(aM:b<w.heap.size)(hb:∀x∈d,x<256):
  Calls Tryz.prog 183 #[.slice (some ⟨b,N,none⟩) d.length cap] w fun e w'=>∃v,e= .returned v∧dO w' w.heap.size v (dX d)∧Below w.heap.size w w':=by
 have aB:=mU d;go_enter Tryz.func183,Tryz.ntmps183;go_wp2_with fail;refine(lg (some ⟨b,N,none⟩) cap d w hd aH aN (eD hT) hb).mono ?_;rintro e E ⟨v1,rfl,af,J⟩;have ad:=CJ d;have ap:=DG d;have aP:=pQ d;generalize aQ:d9 d=fs at af ad ap aP;generalize au:dX d=R at aB ad;obtain⟨a1,c1,rfl⟩:=af.slice;rw[MI] at af⊢;have av:=hT.below J aM;have aK:=a8 af;have ar:=a8 av;clear hT av aQ;go_wp2;go_loopw [3,4,6,10] (fun v t _ i wr=>∃(k z:Nat) (I:List Nat),k≤fs.length∧i= .int .i64 (k:Int)∧t= .int .i64 (z:Int)∧z≤d.length∧dO wr E.heap.size v I∧I++uGo d z (fs.drop k)=R∧Ups d.length z (fs.drop k)∧Below E.heap.size E wr) (fun _ _ _ i _=>fs.length-(intOf i).toNat)
 case atStart=>exact⟨0,0,[],MQ _,rfl,rfl,MQ _,dO.nil _ _,by simpa using ad,by simpa using ap,MJ _ _⟩
 case round=>
  obtain⟨k,z,I,hk,rfl,rfl,aU,V,A,hu,L⟩:=hrel;clear ad ap;have bb:I.length≤2*d.length:=(by rw[←A,MT] at aB;omega);by_cases az:k<fs.length
  ·rw[Nl az] at A hu;obtain⟨aV,aW,aD⟩:=hu;simp only[uGo] at A;have ah:fj wr _ _ _ _:=fj.below aK.out L (MH _);obtain⟨g1,rfl⟩:∃g1,a1=some ⟨g1,0,none⟩:=by
    rcases ah.2 with⟨_,hn⟩|⟨g,aY,ba,h',_⟩
    ·rw[MI] at hn;omega
    ·simp only[MR] at h';exact⟨g,h'.1⟩
   obtain⟨ax,ay⟩:=fj.cells ah k (by simpa using az);simp only[MY,frV] at ax ay;have K:=a8 A;have HB:=a8 L;have aC:=L.size;have ak:=a8 aD;clear aD A;generalize hs:fs[k].1=st at ax aV aW K ak;generalize fs[k].2=mk at ay K;have aG:=nAl wr (.cells #[.int .i64 (st:Int),.int .i64 (mk:Int)] 322);have ae:=heap_alloc_new wr (.cells #[.int .i64 (st:Int),.int .i64 (mk:Int)] 322);have ac:=L.alloc aC (.cells #[.int .i64 (st:Int),.int .i64 (mk:Int)] 322);have aa:=V.alloc1 (.cells #[.int .i64 (st:Int),.int .i64 (mk:Int)] 322);have aE:∀g,u3.ownBlock=some g→E.heap.size≤g∧g<wr.heap.size:=fun g h=>World.ownsRow.lt V g h;clear V L ah aG;go_wp2_with fail;generalize aw:wr.alloc (.cells #[.int .i64 (st:Int),.int .i64 (mk:Int)] 322)=aF at ae ac aa⊢;have be:aF.heap.size=wr.heap.size+1:=(by rw[←aw];simp);clear aw;refine(tb st mk aF).mono ?_;rintro e w3 ⟨rfl,Q⟩;have al:=(Q.block wr.heap.size (by omega)).trans ae;have aO:w3.cell? ⟨wr.heap.size,0,none⟩=some (.int .i64 (st:Int)):=(by rw[cell_of_row _ _ _ _ _ _ al];rfl);have Z:=oF ac Q;have an:=aa.below Q (MH _);have bf:=Q.size;by_cases hm:0<mk
   ·have am:decide (0<mk)=true:=decide_eq_true hm;rw[am];have M:=K.out;rw[if_pos hm] at M;have aj:=a8 M;clear M K;have O:=gW (ar.out.below (Z.mono (MH _)) (by have:=J.size;omega)) z (st-z);have ag:=pY d z (st-z) (by omega);have aT:=eD O;have aA:¬cap=z:=(by omega);have bc:(z:Int)≤(st:Int):=(by omega);have bd:(st:Int)≤(cap:Int):=(by omega);have aS:(z:Int)≤(d.length:Int):=(by omega);clear O ae ac aa Q;go_wp2_with (at_builtin;refine fd _ rfl (.tmp 16) (.tmp 21) rfl E.heap.size u3 I _ (st-z) ag rfl an ⟨b,N+z,none⟩ (cap-z) rfl aT (by omega) (by omega) ?_;intro v5 G Y U;have aR:=(U.block wr.heap.size (by omega) (fun e=>by have:=(aE _ e.symm).2;omega)).trans al;have aZ:G.cell? ⟨wr.heap.size,0,none⟩=some (.int .i64 (st:Int)):=(by rw[cell_of_row _ _ _ _ _ _ aR];rfl);have aL:Below E.heap.size E G:=(Z.grown U (by omega) (fun g h=>(aE g h).1)))
    go_roundw
    case rel=>
     refine⟨k+1,st+1,_,by omega,by go_num,by go_num,by omega,Y,?_,ak.out,aL⟩;rw[←aj.out];simp
    case measure=>simp[intOf];omega
   ·have am:decide (0<mk)=false:=decide_eq_false hm;rw[am];have M:=K.out;rw[if_neg hm] at M;have aj:=a8 M;have aJ:=a8 an;have aI:=a8 Z;clear M K an Z ae ac aa Q aO al;go_wp2;go_roundw
    case rel=>exact⟨k+1,z,I,by omega,by go_num,rfl,aU,aJ.out,aj.out,ak.out.mono (by omega),aI.out⟩
    case measure=>simp[intOf];omega
  ·obtain rfl:k=fs.length:=(by omega);rw[Nx] at A;simp only[uGo] at A;have aC:=L.size;have O:=ar.out.below (L.mono (MH _)) (by have:=J.size;omega);have ab:=gW O z (d.length-z);have ag:=pY d z (d.length-z) (by omega);have ai:(d.drop z).take (d.length-z)=d.drop z:=MX (Nat.le_of_eq (MU ..));rw[ai] at ab ag;have aS:(z:Int)≤(d.length:Int):=(by omega);have K:=a8 A;have aX:=J.trans (L.mono J.size);have aq:∀v5 G,dO G E.heap.size v5 (I++d.drop z)→wr.grownBy G u3.ownBlock→dO G w.heap.size v5 R∧Below w.heap.size w G:=fun v5 G h5 hg=>by
    rw[K.out] at h5;exact⟨h5.mono J.size,aX.grown hg (by have:=J.size;omega) (fun g h=>by have:=(World.ownsRow.lt V g h).1;have:=J.size;omega)⟩
   by_cases aA:cap=z
   ·obtain rfl:z=d.length:=(by omega);subst aA;have ao:dW wr (some ⟨b,N,none⟩) (d.drop d.length):=fun h=>(by simp at h);clear A O ab ai;go_wp2_with (at_builtin;refine fd _ rfl (.tmp 27) (.tmp 30) rfl E.heap.size u3 I (d.drop d.length) 0 (by simp) rfl V ⟨b,N,none⟩ 0 rfl ao (by simp;omega) (by omega) ?_;intro v5 G Y U)
    go_ret;obtain⟨q1,q2⟩:=aq _ _ Y U;exact⟨_,rfl,by rw[au];exact q1,q2⟩
   ·have ao:=eD ab;clear A O ab ai;go_wp2_with (at_builtin;refine fd _ rfl (.tmp 27) (.tmp 30) rfl E.heap.size u3 I _ (d.length-z) ag rfl V ⟨b,N+z,none⟩ (cap-z) rfl ao (by omega) (by omega) ?_;intro v5 G Y U)
    go_ret;obtain⟨q1,q2⟩:=aq _ _ Y U;exact⟨_,rfl,by rw[au];exact q1,q2⟩
def AZ(w:World)(e:Ending)(w':World):Prop:=∃v,e= .returned (.tuple #[v,.bool false])∧Below w.heap.size w w'
theorem wW(b E cap:Nat)(l:List Nat)(w:World)(U:l.length≤1048576)(L:l.length≤cap)(V:d8 w b E l)(Y:b<w.heap.size)(G:∀x∈l,x<256)(O:¬l.take 10=f5):
  Calls Tryz.prog 182 #[.slice (some ⟨b,E,none⟩) l.length cap] w (AZ w):=by
 have R:=fun(w:World) (C:Array Value) (n c:Nat)=>Lib.run_convert_bytes_const (P:=Tryz.prog) w 52 5 C n c Tryz.underlying52 Tryz.underlying5;have M:=wO w;have z:=nAl w (.cells #[.int .u8 70,.int .u8 114,.int .u8 111,.int .u8 109,.int .u8 32,.int .u8 109,.int .u8 97,.int .u8 105,.int .u8 108,.int .u8 10] 5 (10,11));go_enter Tryz.func182,Tryz.ntmps182;go_wp2_with (go_at_call 205;fail)
 generalize w.alloc (.cells #[.int .u8 70,.int .u8 114,.int .u8 111,.int .u8 109,.int .u8 32,.int .u8 109,.int .u8 97,.int .u8 105,.int .u8 108,.int .u8 10] 5 (10,11))=wA at M z⊢;have N:=V.below z Y;clear V;refine(wD b E cap l.length (some ⟨w.heap.size,0,none⟩) l wA rfl L N M G O).mono ?_;rintro e K ⟨rfl,rfl⟩;have J:=Dr K;have Q:=z.alloc z.size (.cells #[.int .u8 10] 5 (1,2));have I:=N.below (nAl K (.cells #[.int .u8 10] 5 (1,2))) (by have:=z.size;omega);clear N M z;by_cases A:l.drop (l.length-1)=[10]∧0<l.length
 ·go_wp2_with fail;refine(kZ b E cap l.length (some ⟨K.heap.size,0,none⟩) l _ rfl L U I J G A.2 A.1).mono ?_;rintro e Z ⟨rfl,rfl⟩;clear I J A G O R;go_wp2;go_ret2;exact⟨_,rfl,Q⟩
 ·go_wp2_with fail;refine(j4 b E cap l.length (some ⟨K.heap.size,0,none⟩) l _ rfl L U I J G A).mono ?_;rintro e Z ⟨rfl,rfl⟩;clear I J A G O R;go_wp2;go_ret2;exact⟨_,rfl,Q⟩
theorem zh(b A cap:Nat)(l:List Nat)(w:World)(ac:l.length≤1048576)(Y:l.length≤cap)(V:d8 w b A l)(Z:b<w.heap.size)(J:∀x∈l,x<256)(I:l.take 10=f5)(N:¬((l.drop 10).drop ((l.drop 10).length-1)=[10]∧0<(l.drop 10).length)):
  Calls Tryz.prog 182 #[.slice (some ⟨b,A,none⟩) l.length cap] w (AZ w):=by
 have U:=fun(w:World) (C:Array Value) (n c:Nat)=>Lib.run_convert_bytes_const (P:=Tryz.prog) w 52 5 C n c Tryz.underlying52 Tryz.underlying5;have K:=wO w;have z:=nAl w (.cells #[.int .u8 70,.int .u8 114,.int .u8 111,.int .u8 109,.int .u8 32,.int .u8 109,.int .u8 97,.int .u8 105,.int .u8 108,.int .u8 10] 5 (10,11));have ab:10≤l.length:=(by have:=congrArg List.length I;simp[f5] at this;omega);go_enter Tryz.func182,Tryz.ntmps182;go_wp2_with (go_at_call 205;fail)
 generalize w.alloc (.cells #[.int .u8 70,.int .u8 114,.int .u8 111,.int .u8 109,.int .u8 32,.int .u8 109,.int .u8 97,.int .u8 105,.int .u8 108,.int .u8 10] 5 (10,11))=wA at K z⊢;have L:=V.below z Z;clear V;refine(nN b A cap l.length (some ⟨w.heap.size,0,none⟩) l wA rfl Y L K J I).mono ?_;rintro e E ⟨rfl,rfl⟩;have G:=Dr E;have R:=z.alloc z.size (.cells #[.int .u8 10] 5 (1,2));have M:=(L.drop 10).below (nAl E (.cells #[.int .u8 10] 5 (1,2))) (by have:=z.size;omega);have aa:(l.drop 10).length=l.length-10:=MU ..;clear L K z;by_cases Q:cap=10
 ·subst Q;have hz:l.length-10=0:=(by omega);rw[if_pos rfl,hz];have CS:=j4 b A 0 0 (some ⟨E.heap.size,0,none⟩) [] (E.alloc (.cells #[.int .u8 10] 5 (1,2))) rfl (MH _) (MQ _) (fun i h=>absurd h (Nat.not_lt_zero _)) G (fun x O=>absurd O Nw) (fun h=>absurd h.2 (Nat.lt_irrefl _));go_wp2_with fail;refine CS.mono ?_;rintro e w2 ⟨rfl,rfl⟩;clear M G N J I U;go_wp2;go_ret2;exact⟨_,rfl,R⟩
 ·rw[if_neg Q];go_wp2_with fail;refine(j4 b (A+10) (cap-10) (l.length-10) (some ⟨E.heap.size,0,none⟩) (l.drop 10) _ aa (by omega) (by omega) M G (fun x O=>J x (M7 O)) N).mono ?_;rintro e w2 ⟨rfl,rfl⟩;clear M G N J I U;go_wp2;go_ret2;exact⟨_,rfl,R⟩
def Ja(b off cap:Nat)(l:List Nat)(w:World)(e:Ending)(w':World):Prop:=e= .returned (.tuple #[.slice (some ⟨b,off+10,none⟩) (l.length-10-1) (cap-10),.bool (!jH (ed l))])∧Below w.heap.size w w'
theorem vu(b z cap:Nat)(l:List Nat)(w:World)(ai:l.length≤1048576)(ab:l.length≤cap)(Z:d8 w b z l)(ae:b<w.heap.size)(N:∀x∈l,x<256)(hh:l.take 10=f5)(V:(l.drop 10).drop ((l.drop 10).length-1)=[10])(ah:10<l.length):
  Calls Tryz.prog 182 #[.slice (some ⟨b,z,none⟩) l.length cap] w (Ja b z cap l w):=by
 have ag:=fun(w:World) (C:Array Value) (n c:Nat)=>Lib.run_convert_bytes_const (P:=Tryz.prog) w 52 5 C n c Tryz.underlying52 Tryz.underlying5;have G:=wO w;have A:=nAl w (.cells #[.int .u8 70,.int .u8 114,.int .u8 111,.int .u8 109,.int .u8 32,.int .u8 109,.int .u8 97,.int .u8 105,.int .u8 108,.int .u8 10] 5 (10,11));go_enter Tryz.func182,Tryz.ntmps182;go_wp2_with (go_at_call 205;fail)
 generalize w.alloc (.cells #[.int .u8 70,.int .u8 114,.int .u8 111,.int .u8 109,.int .u8 32,.int .u8 109,.int .u8 97,.int .u8 105,.int .u8 108,.int .u8 10] 5 (10,11))=wA at G A⊢;have I:=Z.below A ae;clear Z;refine(nN b z cap l.length (some ⟨w.heap.size,0,none⟩) l wA rfl ab I G N hh).mono ?_;rintro e O ⟨rfl,rfl⟩;have U:=Dr O;have R:=A.alloc A.size (.cells #[.int .u8 10] 5 (1,2));have J:=(I.drop 10).below (nAl O (.cells #[.int .u8 10] 5 (1,2))) (by have:=A.size;omega);have E:(l.drop 10).length=l.length-10:=MU ..;clear I G A;rw[if_neg (by omega)];go_wp2_with fail;refine(kZ b (z+10) (cap-10) (l.length-10) (some ⟨O.heap.size,0,none⟩) (l.drop 10) _ E (by omega) (by omega) J U (fun x hx=>N x (M7 hx)) (by omega) (by rw[←E];exact V)).mono ?_;rintro e Q ⟨rfl,M⟩;have L:ed l=(l.drop 10).take (l.length-10-1):=(by unfold ed;rw[show l.length-11=l.length-10-1 from by omega]);have ad:d8 Q b (z+10) (ed l):=(by rw[L,M];have:=gW J 0 (l.length-10-1);simpa using this);have af:(ed l).length=l.length-10-1:=(by rw[L,MZ,E];omega);have aa:Below w.heap.size w Q:=(by rw[M];exact R);clear M J U R L ag N hh V E;go_wp2_with fail;refine(KX b (z+10) (cap-10) (l.length-10-1) (ed l) Q af (by omega) ad).mono ?_;rintro e w3 ⟨rfl,rfl⟩;obtain⟨Y,K⟩:∃Y,Y=jH (ed l):=⟨_,rfl⟩
 rw[←K];have ac:=a8 K;clear K;go_wp2;go_ret2;exact⟨by rw[←ac.out];rfl,aa⟩
def iv(x:Nat):Value:= .int .i64 (x:Int)
def kX(w:World)(base:Nat)(v:Value)(l:List Nat):Prop:=w.ownsRow base 3 1 v l.length (l.map iv)
theorem kX.slice{v:Value}(h:kX w z v l):∃a cap,v= .slice a l.length cap:=by
 rcases h.2 with⟨rfl,A⟩|⟨g,cap,E,rfl,_⟩
 ·exact⟨none,0,by rw[A]⟩
 ·exact⟨_,cap,rfl⟩
theorem kX.below{v:Value}(h:kX w z v l)(K:Below B w w')(J:w.heap.size≤B):kX w' z v l:=by
 refine⟨h.1,?_⟩;rcases h.2 with L|⟨g,cap,I,rfl,E,A,G⟩
 ·exact .inl L
 ·exact .inr ⟨g,cap,I,rfl,E,(K.block g (MW (lt_of_block A) J)).trans A,G⟩
theorem kX.nil(w:World)(z:Nat):kX w z (.slice none 0 0) []:=World.ownsRow_nil w z 3 1
theorem kX.mono{v:Value}(h:kX w z v l)(I:base'≤z):kX w base' v l:=by
 refine⟨h.1,?_⟩;rcases h.2 with J|⟨g,cap,G,rfl,A,E⟩
 ·exact .inl J
 ·exact .inr ⟨g,cap,G,rfl,MN I A,E⟩
theorem kX.cell{G:Nat}(h:kX w G (.slice (some ⟨g,0,none⟩) n cap) l)(k:Nat)(K:k<l.length):w.cell? ⟨g,k,none⟩=some (.int .i64 (l[k]:Int)):=by
 rcases h.2 with⟨z,_⟩|⟨g',L,I,z,_,J,M,_,N,E⟩
 ·simp at z
 ·simp only[MR,MK,Np,and_true] at z;obtain⟨rfl,rfl,rfl⟩:=z;rw[cell_of_row _ _ _ _ _ _ J];have A:(I.toList.take (l.length*1))[k]? =(l.map iv)[k]? :=(by rw[E]);rw[List.getElem?_take,if_pos (by omega)] at A;simp[K,iv] at A;simpa using A
theorem Tryz.info3:(Tryz.prog.info? 3).map (fun i=>(i.zero,i.size,i.bytes))=some (some (.int .i64 0),1,8):=by kernel_rfl
theorem pv{K:Array Oper}{J:List Oper}{A:Act}(w:World)(R:o.guard=none)(s x:Operand)
  (ho:o.op= .call {callee:= .builtin .append,args:= #[s,x],argTypes:= #[297,297]})
  (z:Nat) (v:Value) (l:List Nat) (n:Nat) (G c:Nat) (hs:A.eval s=v) (hx:A.eval x= .slice (some ⟨G,0,none⟩) 1 c) (O:kX w z v l)
  (Z:w.cell? ⟨G,0,none⟩=some (.int .i64 (n:Int))) (aa:l.length≤1048576) (M:z≤w.heap.size)
  (h:∀E w',kX w' z E (l++[n])→w.grownBy w' v.ownBlock→wpList Tryz.prog K Q J (A.put o.dst E) w'):wpList Tryz.prog K Q (o::J) A w:=by
 obtain⟨i0,hi,U,V,Y⟩:=info_parts Tryz.info3;refine wpList_append_own w R s x 297 ho z 3 i0 (.int .i64 0) 1 8 Tryz.underlying297 hi U V Y rfl (by decide) v l.length (l.map iv) hs O ⟨G,0,none⟩ 1 c [iv n] hx (by simp) ?_ ?_ (by unfold maxLen;omega) (by omega) M ?_
 ·intro j u I;rw[ej]
  match j with
  |0=>simp only[Nj,MK] at I;rw[←I];exact Z
  |j+1=>simp at I
 ·intro u L;simp only[M1,Nw,or_false] at L;subst L;rfl
 ·intro E w' N hg _;refine h E w' ?_ hg;unfold kX;rw[MT,MS];exact N
def dG(fs:List (Nat×Nat)):List Nat:=(fs.filter fun x=>decide (x.2=0)).map (·.1)
theorem mP(fs:List (Nat×Nat)):(dG fs).length≤fs.length:=by
 unfold dG;rw[MI];exact List.length_filter_le ..
theorem qW(b ad cap:Nat)(d:List Nat)(w:World)(hd:d.length≤1048575)(aq:d.length≤cap)(aA:cap≤9223372036854775807)(hT:d8 w b ad d)(hb:∀x∈d,x<256):
  Calls Tryz.prog 181 #[.slice (some ⟨b,ad,none⟩) d.length cap] w fun e w'=>∃v,e= .returned v∧kX w' w.heap.size v (dG (d9 d))∧Below w.heap.size w w':=by
 go_enter Tryz.func181,Tryz.ntmps181;go_wp2_with fail;refine(lg (some ⟨b,ad,none⟩) cap d w (by omega) aq aA (eD hT) hb).mono ?_;rintro e G ⟨v1,rfl,Q,aa⟩;have aC:=pQ d;generalize ai:d9 d=fs at Q aC;have al:=mP fs;generalize ae:dG fs=R at al;obtain⟨a1,c1,rfl⟩:=Q.slice;rw[MI] at Q⊢;have aw:=a8 Q;have au:=a8 ai;clear hT ai;go_wp2;go_loopw [3,5,9] (fun v _ i wr=>∃(k:Nat) (z:List Nat),k≤fs.length∧i= .int .i64 (k:Int)∧kX wr G.heap.size v z∧z++dG (fs.drop k)=R∧Below G.heap.size G wr) (fun _ _ i _=>fs.length-(intOf i).toNat)
 case atStart=>exact⟨0,[],MQ _,rfl,kX.nil _ _,by simpa using ae,MJ _ _⟩
 case round=>
  obtain⟨k,z,hk,rfl,U,A,L⟩:=hrel;have aK:z.length≤1048575:=(by rw[←A,MT] at al;omega);by_cases ak:k<fs.length
  ·rw[Nl ak] at A;have V:fj wr _ _ _ _:=fj.below aw.out L (MH _);obtain⟨g1,rfl⟩:∃g1,a1=some ⟨g1,0,none⟩:=by
    rcases V.2 with⟨_,hn⟩|⟨g,aI,aJ,h',_⟩
    ·rw[MI] at hn;omega
    ·simp only[MR] at h';exact⟨g,h'.1⟩
   obtain⟨ag,ah⟩:=fj.cells V k (by simpa using ak);simp only[MY,frV] at ag ah;have aG:=L.size;have am:dG (fs[k]::fs.drop (k+1))=(if fs[k].2=0 then[fs[k].1] else[])++dG (fs.drop (k+1)):=by
    unfold dG;by_cases h:fs[k].2=0
    ·rw[List.filter_cons_of_pos (by simpa using h),if_pos h];rfl
    ·rw[NF (by simpa using h),if_neg h];rfl
   rw[am] at A;have J:=a8 A;clear A am;generalize fs[k].1=st at ag J;generalize fs[k].2=mk at ah J;have O:=heap_alloc_new wr (.cells #[.int .i64 (st:Int),.int .i64 (mk:Int)] 322);have N:=L.alloc aG (.cells #[.int .i64 (st:Int),.int .i64 (mk:Int)] 322);have M:=U.below (nAl wr (.cells #[.int .i64 (st:Int),.int .i64 (mk:Int)] 322)) (MH _);have aH:∀g,u3.ownBlock=some g→G.heap.size≤g∧g<wr.heap.size:=fun g h=>World.ownsRow.lt U g h;clear U L V;go_wp2_with fail;generalize af:wr.alloc (.cells #[.int .i64 (st:Int),.int .i64 (mk:Int)] 322)=ao at O N M⊢;have aL:ao.heap.size=wr.heap.size+1:=(by rw[←af];simp);clear af;refine(tb st mk ao).mono ?_;rintro e K ⟨rfl,I⟩;have aj:=(I.block wr.heap.size (by omega)).trans O;have aB:K.cell? ⟨wr.heap.size,0,none⟩=some (.int .i64 (st:Int)):=(by rw[cell_of_row _ _ _ _ _ _ aj];rfl);have Y:=oF N I;have ac:=M.below I (MH _);have aM:=I.size;by_cases hm:0<mk
   ·have ab:decide (0<mk)=true:=decide_eq_true hm;rw[ab];have E:=J.out;rw[if_neg (by omega),Nq] at E;have Z:=a8 E;have av:=a8 ac;have ar:=a8 Y;clear E J ac Y O N M I aB aj;go_wp2;go_roundw
    case rel=>exact⟨k+1,z,by omega,by go_num,av.out,Z.out,ar.out⟩
    case measure=>simp[intOf];omega
   ·have ab:decide (0<mk)=false:=decide_eq_false hm;rw[ab];have E:=J.out;rw[if_pos (by omega)] at E;have Z:=a8 E;have an:=heap_alloc_new K (.cells #[.int .i64 (st:Int)] 3);have az:(K.alloc (.cells #[.int .i64 (st:Int)] 3)).cell? ⟨K.heap.size,0,none⟩=some (.int .i64 (st:Int)):=(by rw[cell_of_row _ _ _ _ _ _ an];rfl);have aE:=ac.below (nAl K (.cells #[.int .i64 (st:Int)] 3)) (MH _);have ax:=Y.alloc (by omega) (.cells #[.int .i64 (st:Int)] 3);clear E J O N M I an;go_wp2_with (at_builtin;refine pv _ rfl (.tmp 16) (.tmp 19) rfl G.heap.size u3 z st K.heap.size 1 rfl rfl aE az (by omega) (by simp;omega) ?_;intro v5 w5 aF aD;have ay:Below G.heap.size G w5:=(ax.grown aD (by simp;omega) (fun g h=>(aH g h).1)))
    go_roundw
    case rel=>exact⟨k+1,z++[st],by omega,by go_num,aF,by rw[←Z.out];simp,ay⟩
    case measure=>simp[intOf];omega
  ·obtain rfl:k=fs.length:=(by omega);rw[Nx] at A;have ap:z=R:=(by simpa[dG] using A);subst ap;go_wp2;go_ret;exact⟨_,rfl,by rw[au.out,ae];exact U.mono aa.size,aa.trans (L.mono aa.size)⟩
abbrev S3:=Nat×Nat×Value
def jO(vs:List S3):List Value:=vs.flatMap fun x=>[iv x.1,iv x.2.1,x.2.2]
theorem mw(x:S3)(z:List S3):jO (x::z)=iv x.1::iv x.2.1::x.2.2::jO z:=rfl
theorem tN(a b:List S3):jO (a++b)=jO a++jO b:=by unfold jO;rw[List.flatMap_append]
theorem rI(z:List S3)(i:Nat)(h:i<z.length):(jO z)[i*3]? =some (iv z[i].1)∧(jO z)[i*3+1]? =some (iv z[i].2.1)∧(jO z)[i*3+2]? =some z[i].2.2:=by
 induction z generalizing i with
 |nil=>simp at h
 |cons x r ih=>
  cases i with
  |zero=>exact⟨rfl,rfl,rfl⟩
  |succ i=>
   obtain⟨A,E,G⟩:=ih i (by simpa using h);refine⟨?_,?_,?_⟩
   ·rw[mw,show(i+1)*3=i*3+1+1+1 from by omega];simpa using A
   ·rw[mw,show(i+1)*3+1=i*3+1+1+1+1 from by omega];simpa using E
   ·rw[mw,show(i+1)*3+2=i*3+2+1+1+1 from by omega];simpa using G
theorem lJ{b1 b2 E L M N O:Nat}{v:Value}{ys:List Value}(G:w.ownsRow b1 A L v N xs)(I:w.ownsRow b2 E M x O ys)(J:A≠E):v.ownBlock=none∨v.ownBlock≠x.ownBlock:=by
 rcases G.2 with⟨rfl,_⟩|⟨g,cap,U,rfl,_,K,_⟩
 ·exact .inl rfl
 ·refine .inr fun e=> ?_;rcases I.2 with⟨rfl,_⟩|⟨g',Q,R,rfl,_,z,_⟩
  ·simp[Value.ownBlock] at e
  ·simp only[Value.ownBlock,MK] at e;subst e;rw[K] at z;simp only[MK,Obj.cells.injEq] at z;exact J z.2.1
theorem kg{v:Value}(h:w.ownsRow z e k v n xs)(J:∀g,z≤g→g<w.heap.size→w'.heap[g]? =w.heap[g]?):w'.ownsRow z e k v n xs:=by
 refine⟨h.1,?_⟩;rcases h.2 with K|⟨g,cap,I,rfl,A,E,G⟩
 ·exact .inl K
 ·exact .inr ⟨g,cap,I,rfl,A,(J g A (lt_of_block E)).trans E,G⟩
structure gq(w:World)(lo:Nat)(v:Value)(vs:List S3)(ls:List (List Nat)):Prop where
 len:vs.length=ls.length
 row:w.ownsRow lo 179 3 v ls.length (jO vs)
 body:∀i (h:i<ls.length),∃x,vs[i]? =some x∧dO w lo x.2.2 ls[i]
 apart:vs.Pairwise fun x y=>x.2.2.ownBlock=none∨x.2.2.ownBlock≠y.2.2.ownBlock
theorem gq.nil(w:World)(lo:Nat):gq w lo (.slice none 0 0) [] []:=⟨rfl,World.ownsRow_nil w lo _ 3,fun i h=>by simp at h,List.Pairwise.nil⟩
theorem gq.slice{v:Value}{E:List S3}{z:List (List Nat)}(h:gq w lo v E z):∃a cap,v= .slice a z.length cap:=by
 rcases h.row.2 with⟨rfl,A⟩|⟨g,cap,G,rfl,_⟩
 ·exact⟨none,0,by rw[A]⟩
 ·exact⟨_,cap,rfl⟩
theorem gq.below{v:Value}{E:List S3}{A:List (List Nat)}(h:gq w lo v E A)(G:Below B w w')(L:w.heap.size≤B):gq w' lo v E A:=by
 have z:∀g,lo≤g→g<w.heap.size→w'.heap[g]? =w.heap[g]? :=fun g _ M=>G.block g (by omega);refine⟨h.len,kg h.row z,fun i I=> ?_,h.apart⟩;obtain⟨x,K,J⟩:=h.body i I;exact⟨x,K,lB J z⟩
theorem gq.mono{v:Value}{G:List S3}{E:List (List Nat)}(h:gq w lo v G E)(A:z≤lo):gq w z v G E:=by
 refine⟨h.len,⟨h.row.1,?_⟩,fun i L=> ?_,h.apart⟩
 ·rcases h.row.2 with M|⟨g,cap,K,rfl,I,J⟩
  ·exact .inl M
  ·exact .inr ⟨g,cap,K,rfl,MN A I,J⟩
 ·obtain⟨x,O,N⟩:=h.body i L;exact⟨x,O,N.mono A⟩
theorem gq.other{v:Value}{E:List S3}{A:List (List Nat)}(h:gq w lo v E A)(z:g<lo)(u:Value):gq (w.setCell ⟨g,j,none⟩ u) lo v E A:=by
 refine⟨h.len,ownsRow_setCell_below h.row z u,fun i G=> ?_,h.apart⟩;obtain⟨x,J,I⟩:=h.body i G;exact⟨x,J,ownsRow_setCell_below I z u⟩
theorem gq.lt{v:Value}{A:List S3}{K:List (List Nat)}(h:gq w lo v A K):∀x∈A,∀g,x.2.2.ownBlock=some g→g<w.heap.size:=by
 intro x J g E;obtain⟨i,G,rfl⟩:=Nd J;obtain⟨y,z,I⟩:=h.body i (by have:=h.len;omega);rw[MM G] at z;simp only[MK] at z;subst z;exact(World.ownsRow.lt I g E).2
theorem gq.ne_new{w I:World}{lo:Nat}{v x:Value}{z:List S3}{G:List (List Nat)}{l:List Nat}(h:gq w lo v z G)(A:dO I w.heap.size x l):∀y∈z,y.2.2.ownBlock=none∨y.2.2.ownBlock≠x.ownBlock:=by
 intro y E;cases hb:y.2.2.ownBlock with
 |none=>exact .inl rfl
 |some g=>
  refine .inr fun e=> ?_;have J:=h.lt y E g hb;have K:=(World.ownsRow.lt A g e.symm).1;omega
theorem gq.push{p q:Nat}{v:Value}{E:List S3}{A:List (List Nat)}(h:gq w lo v E A)(K:dO w lo x l)(M:∀y∈E,y.2.2.ownBlock=none∨y.2.2.ownBlock≠x.ownBlock)
  (Q:w'.ownsRow lo 179 3 L (A.length+1) (jO E++[iv p,iv q,x])) (J:w.grownBy w' v.ownBlock):gq w' lo L (E++[(p,q,x)]) (A++[l]):=by
 refine⟨by rw[MT,MT,h.len];rfl,by rw[MT,tN];exact Q,fun i O=> ?_,?_⟩
 ·by_cases e:i<A.length
  ·obtain⟨y,G,I⟩:=h.body i e;refine⟨y,by rw[List.getElem?_append_left (by have:=h.len;omega)];exact G,?_⟩;rw[List.getElem_append_left e];exact World.ownsRow.kept I J (lJ I h.row (by decide))
  ·have N:i=A.length:=(by simp at O;omega);subst N;refine⟨(p,q,x),by rw[List.getElem?_append_right (by have:=h.len;omega)];simp[h.len],?_⟩;simp only[List.getElem_concat_length];exact World.ownsRow.kept K J (lJ K h.row (by decide))
 ·rw[List.pairwise_append];refine⟨h.apart,by simp,fun y G z R=> ?_⟩;obtain rfl:z=(p,q,x):=(by simpa using R);exact M y G
theorem Tryz.infoSpan:(Tryz.prog.info? 179).map (fun i=>(i.zero,i.size,i.bytes))=some (some (.agg #[.int .i64 0,.int .i64 0,.slice none 0 0]),3,40):=by kernel_rfl
theorem jx{R:Array Oper}{A:Act}{K:Act→World→Prop}{E:Prop}(w:World)(aa:o.guard=none)(s x:Operand)
  (ho:o.op= .call {callee:= .builtin .append,args:= #[s,x],argTypes:= #[174,174]})
  (lo:Nat) (v:Value) (M:List S3) (J:List (List Nat)) (p q:Nat) (I:Value) (l:List Nat) (G c:Nat) (hs:A.eval s=v) (hx:A.eval x= .slice (some ⟨G,0,none⟩) 1 c) (N:gq w lo v M J)
  (c0:w.cell? ⟨G,0,none⟩=some (iv p)) (c1:w.cell? ⟨G,1,none⟩=some (iv q)) (c2:w.cell? ⟨G,2,none⟩=some I) (O:dO w lo I l)
  (ab:∀y∈M,y.2.2.ownBlock=none∨y.2.2.ownBlock≠I.ownBlock) (af:J.length≤1048576) (Y:lo≤w.heap.size)
  (h:∀L w',gq w' lo L (M++[(p,q,I)]) (J++[l])→w.grownBy w' v.ownBlock→K (A.put o.dst L) w'):if Region.wanted o (yielded R A.tmps)=true then Oper.wp Tryz.prog o A w K Q else E:=by
 have hw:Region.wanted o (yielded R A.tmps)=true:=(by simp[Region.wanted,aa]);rw[if_pos hw];obtain⟨i0,hi,ac,ad,ae⟩:=info_parts Tryz.infoSpan;refine wp_append_own w s x 174 ho lo 179 i0 (.agg #[.int .i64 0,.int .i64 0,.slice none 0 0]) 3 40 Tryz.underlying174 hi ac ad ae rfl (by decide) v J.length (jO M) hs N.row ⟨G,0,none⟩ 1 c [iv p,iv q,I] hx (by simp) ?_ ?_ (by unfold maxLen;omega) (by omega) Y ?_
 ·intro j u z;rw[ej]
  match j with
  |0=>simp only[Nj,MK] at z;rw[←z];exact c0
  |1=>simp only[Ni,Nj,MK] at z;rw[←z];exact c1
  |2=>simp only[Ni,Nj,MK] at z;rw[←z];exact c2
  |j+3=>simp at z
 ·intro u V;simp only[M1,Nw,or_false] at V;rcases V with rfl|rfl|rfl
  ·rfl
  ·rfl
  ·obtain⟨a,c',rfl⟩:=O.slice;rfl
 ·intro L w' Z U _;exact h L w' (N.push O ab Z U) U
def eY(R:List Nat)(n k:Nat):Nat×Nat:=(R.getD k 0,if k+1<R.length then R.getD (k+1) 0 else n)
def f9(d R:List Nat)(k:Nat):List Nat:=(d.drop (eY R d.length k).1).take ((eY R d.length k).2-(eY R d.length k).1)
def LF(n:Nat)(R:List Nat):Prop:=∀k,k<R.length→(eY R n k).1<(eY R n k).2∧(eY R n k).2≤n
theorem Fj{n t:Nat}{fs:List (Nat×Nat)}(h:Ups n t fs):(∀x∈dG fs,t≤x∧x<n)∧(dG fs).Pairwise (·<·):=by
 induction fs generalizing t with
 |nil=>exact⟨fun x z=>by simp[dG] at z,by simp[dG]⟩
 |cons y r ih=>
  obtain⟨J,K,I⟩:=h;obtain⟨E,G⟩:=ih I;have e:dG (y::r)=if y.2=0 then y.1::dG r else dG r:=by
   unfold dG;by_cases A:y.2=0
   ·rw[List.filter_cons_of_pos (by simpa using A),if_pos A];rfl
   ·rw[NF (by simpa using A),if_neg A]
  rw[e];by_cases A:y.2=0
  ·rw[if_pos A];refine⟨fun x z=> ?_,List.pairwise_cons.2 ⟨fun x z=> ?_,G⟩⟩
   ·rcases M1.1 z with rfl|z
    ·omega
    ·have:=E x z;omega
   ·have:=E x z;omega
  ·rw[if_neg A];exact⟨fun x z=>by have:=E x z;omega,G⟩
theorem Ka{n:Nat}{R:List Nat}(E:∀x∈R,x<n)(I:R.Pairwise (·<·)):LF n R:=by
 intro k z;have A:R.getD k 0=R[k]:=(by simp[List.getD,z]);by_cases h:k+1<R.length
 ·have G:R.getD (k+1) 0=R[k+1]:=(by simp[List.getD,h]);unfold eY;rw[if_pos h,A,G];exact⟨M8.1 I k (k+1) z h (by omega),Nat.le_of_lt (E _ (MO h))⟩
 ·unfold eY;rw[if_neg h,A];exact⟨E _ (MO z),MH _⟩
theorem qK(d:List Nat):LF d.length (dG (d9 d)):=by
 obtain⟨z,A⟩:=Fj (DG d);exact Ka (fun x E=>(z x E).2) A
def mN(d R:List Nat)(k:Nat):Nat×Nat×List Nat:=((eY R d.length k).1,(eY R d.length k).2,dX (ed (f9 d R k)))
def iy(d:List Nat):Option (List (Nat×Nat×List Nat)):=
 if 40000<d.length∨(0<d.length∧(dG (d9 d)).head?≠some 0)∨∃k,k<(dG (d9 d)).length∧eh (f9 d (dG (d9 d)) k)=false then none
 else some ((List.range (dG (d9 d)).length).map (mN d (dG (d9 d))))
open Classical in
theorem iH{l:List Nat}(h:eh l=true):10<l.length∧l.take 10=f5∧(l.drop 10).drop ((l.drop 10).length-1)=[10]∧jH (ed l)=false:=by
 unfold eh at h;simp only[Bool.and_eq_true,decide_eq_true_eq,Bool.not_eq_true'] at h;obtain⟨⟨z,A,E⟩,G⟩:=h;refine⟨z,A,?_,G⟩;rw[MU,List.drop_drop,show 10+(l.length-10-1)=l.length-1 from by omega];exact E
theorem si(b z cap:Nat)(l:List Nat)(w:World)(G:l.length≤1048576)(A:l.length≤cap)(N:d8 w b z l)(E:b<w.heap.size)(Q:∀x∈l,x<256)(I:eh l=true):
  Calls Tryz.prog 182 #[.slice (some ⟨b,z,none⟩) l.length cap] w fun e w'=>e= .returned (.tuple #[.slice (some ⟨b,z+10,none⟩) (l.length-10-1) (cap-10),.bool true])∧Below w.heap.size w w':=by
 obtain⟨J,K,L,M⟩:=iH I;refine(vu b z cap l w G A N E Q K L J).mono ?_;rintro e w' ⟨rfl,O⟩;rw[M];exact⟨rfl,O⟩
theorem vq(b z cap:Nat)(l:List Nat)(w:World)(J:l.length≤1048576)(G:l.length≤cap)(L:d8 w b z l)(I:b<w.heap.size)(M:∀x∈l,x<256)(K:eh l=false):
  Calls Tryz.prog 182 #[.slice (some ⟨b,z,none⟩) l.length cap] w (AZ w):=by
 by_cases E:l.take 10=f5
 ·by_cases A:(l.drop 10).drop ((l.drop 10).length-1)=[10]∧0<(l.drop 10).length
  ·have N:10<l.length:=(by have:=A.2;rw[MU] at this;omega);refine(vu b z cap l w J G L I M E A.1 N).mono ?_;rintro e w' ⟨rfl,R⟩;have O:jH (ed l)=true:=by
    unfold eh at K;have Q:l.drop (l.length-1)=[10]:=by
     have:=A.1;rw[MU,List.drop_drop,show 10+(l.length-10-1)=l.length-1 from by omega] at this;exact this
    rw[decide_eq_true (⟨N,E,Q⟩:10<l.length∧l.take 10=f5∧l.drop (l.length-1)=[10])] at K;simpa using K
   rw[O];exact⟨_,rfl,R⟩
  ·exact zh b z cap l w J G L I M E A
 ·exact wW b z cap l w J G L I M E
theorem FY(l:List Nat)(k:Nat)(E:k<l.length)(A:∀j (h:j<l.length),j<k→l[j]≠10)(z:l[k]=10):fO l=k+1:=by
 induction l generalizing k with
 |nil=>simp at E
 |cons x r ih=>
  cases k with
  |zero=>simp at z;simp[fO,z]
  |succ k=>
   have G:x≠10:=A 0 (by simp) (by omega);simp only[fO];rw[if_neg G,ih k (by simpa using E) (fun j J I=>by have:=A (j+1) (by simp;omega) (by omega);simpa using this) (by simpa using z)]
theorem Tryz.infoSl:(Tryz.prog.info? 52).map (fun i=>(i.zero,i.size,i.bytes))=some (some (.slice none 0 0),1,24):=by kernel_rfl
theorem lF{L:Array Oper}{K:List Oper}{E:Act}(w:World)(U:o.guard=none)(s x:Operand)
  (ho:o.op= .call {callee:= .builtin .append,args:= #[s,x],argTypes:= #[114,114]})
  (A:Nat) (v:Value) (z:List Value) (u:Value) (I c:Nat) (hs:E.eval s=v) (hx:E.eval x= .slice (some ⟨I,0,none⟩) 1 c) (R:w.ownsRow A 52 1 v z.length z)
  (h0:w.cell? ⟨I,0,none⟩=some u) (hu:u.oneCell'=true) (aa:z.length≤1048576) (N:A≤w.heap.size)
  (h:∀G w',w'.ownsRow A 52 1 G (z.length+1) (z++[u])→w.grownBy w' v.ownBlock→wpList Tryz.prog L Q K (E.put o.dst G) w'):wpList Tryz.prog L Q (o::K) E w:=by
 obtain⟨i0,hi,V,Y,Z⟩:=info_parts Tryz.infoSl;refine wpList_append_own w U s x 114 ho A 52 i0 (.slice none 0 0) 1 24 Tryz.underlying114 hi V Y Z rfl (by decide) v z.length z hs R ⟨I,0,none⟩ 1 c [u] hx (by simp) ?_ ?_ (by unfold maxLen;omega) (by omega) N ?_
 ·intro j y J;rw[ej]
  match j with
  |0=>simp only[Nj,MK] at J;rw[←J];exact h0
  |j+1=>simp at J
 ·intro y M;simp only[M1,Nw,or_false] at M;rw[M];exact hu
 ·intro G w' O hg _;exact h G w' O hg
def lnV(b off cap:Nat)(x:Nat×Nat):Value:= .slice (some ⟨b,off+x.1,none⟩) x.2 (cap-x.1)
theorem In{v:Value}{E:List Value}(h:w.ownsRow z e 1 v n E):∃a cap,v= .slice a n cap:=by
 rcases h.2 with⟨rfl,A⟩|⟨g,cap,G,rfl,_⟩
 ·exact⟨none,0,by rw[A]⟩
 ·exact⟨_,cap,rfl⟩
theorem ou{v:Value}{E:List Value}(h:w.ownsRow z e 1 v n E)(L:Below B w w')(K:w.heap.size≤B):w'.ownsRow z e 1 v n E:=by
 refine⟨h.1,?_⟩;rcases h.2 with M|⟨g,cap,I,N,J,A,G⟩
 ·exact .inl M
 ·exact .inr ⟨g,cap,I,N,J,(L.block g (MW (lt_of_block A) K)).trans A,G⟩
theorem qA(b z cap:Nat)(d:List Nat)(w:World)(hd:d.length≤1048576)(ah:d.length≤cap)(R:d8 w b z d)(ab:b<w.heap.size):
  Calls Tryz.prog 127 #[.slice (some ⟨b,z,none⟩) d.length cap] w fun e w'=>∃v,e= .returned v∧w'.ownsRow w.heap.size 52 1 v (eG d).length ((eG d).map (lnV b z cap))∧Below w.heap.size w w':=by
 go_enter Tryz.func127,Tryz.ntmps127;go_wp2;go_loopw [3,4,5,8] (fun v f _ i wr=>∃(k p:Nat) (pre:List (Nat×Nat)),k≤d.length∧p≤k∧i= .int .i64 (k:Int)∧f= .int .i64 (p:Int)∧wr.ownsRow w.heap.size 52 1 v pre.length (pre.map (lnV b z cap))∧pre.length≤p∧pre++fU (d.length-p) p (d.drop p)=eG d∧(∀j (h:j<d.length),p≤j→j<k→d[j]≠10)∧Below w.heap.size w wr) (fun _ _ _ i _=>d.length-(intOf i).toNat)
 case atStart=>exact⟨0,0,[],MQ _,MH _,rfl,rfl,World.ownsRow_nil _ _ _ _,MH _,by simp[eG],fun j _ _ h=>by omega,MJ _ _⟩
 case round=>
  obtain⟨k,p,pre,hk,am,rfl,rfl,G,ag,A,I,E⟩:=hrel;have HT:=a8 R;by_cases ae:k<d.length
  ·have ac:=R.below E ab k ae;clear R;by_cases V:d[k]=10
   ·rw[V] at ac;have hcut:fO (d.drop p)=k-p+1:=FY _ _ (by rw[MU];omega) (fun j U ak=>by rw[List.getElem_drop];exact I _ (by rw[MU] at U;omega) (by omega) (by omega)) (by rw[List.getElem_drop];simp only[show p+(k-p)=k from by omega];exact V);have O:=lX (by omega:p<d.length) hcut;rw[O,show p+(k-p+1)=k+1 from by omega] at A;have Q:=a8 A;have ad:(p:Int)≤(k:Int)+1:=(by omega);have ai:(k:Int)+1≤(cap:Int):=(by omega);have af:¬cap=p:=(by omega);have al:k+1-p=k-p+1:=(by omega);have L:=nAl wr (.cells #[lnV b z cap (p,k-p+1)] 52);have J:(wr.alloc (.cells #[lnV b z cap (p,k-p+1)] 52)).ownsRow w.heap.size 52 1 u3 (pre.map (lnV b z cap)).length (pre.map (lnV b z cap)):=(by rw[MI];exact ou G L (MH _));have M:(wr.alloc (.cells #[lnV b z cap (p,k-p+1)] 52)).cell? ⟨wr.heap.size,0,none⟩=some (lnV b z cap (p,k-p+1)):=(by rw[cell_of_row _ _ _ _ _ _ (heap_alloc_new wr _)];rfl);have aa:=E.size;have K:=a8 (E.alloc aa (.cells #[lnV b z cap (p,k-p+1)] 52));clear A O E G L I;simp only[lnV] at M J K;go_wp2_with (at_builtin;refine lF _ rfl _ _ rfl w.heap.size u3 _ _ wr.heap.size 1 rfl rfl J M rfl (by rw[MI];omega) (by simp;omega) ?_;intro v5 w5 N Z)
    have Y:=K.out.grown Z (by simp;omega) (fun g h=>(World.ownsRow.lt J g h).1);go_roundw
    case rel=>
     refine⟨k+1,k+1,pre++[(p,k-p+1)],by omega,MH _,by go_num,by go_num,?_,by rw[MT];simp;omega,by rw[Nz];exact Q.out,fun j _ h1 h2=>by omega,Y⟩;rw[MT,MS];rw[MI] at N;exact N
    case measure=>simp[intOf];omega
   ·have he:((d[k]:Int)==10)=false:=(by simp;omega);have Q:=a8 A;have HO:=a8 G;have K:=a8 E;have HN:=a8 I;clear A G E I;go_wp2;go_roundw
    case rel=>
     refine⟨k+1,p,pre,by omega,by omega,by go_num,rfl,HO.out,ag,Q.out,fun j U h1 h2=> ?_,K.out⟩;by_cases e:j=k
     ·subst e;exact V
     ·exact HN.out j U h1 (by omega)
    case measure=>simp[intOf];omega
  ·obtain rfl:k=d.length:=(by omega);by_cases hp:p<d.length
   ·have hcut:fO (d.drop p)=d.length-p:=by
     rw[rN _ (fun h=>by
      obtain⟨j,U,e⟩:=Nd h;rw[List.getElem_drop] at e;rw[MU] at U;exact I (p+j) (by omega) (by omega) (by omega) e),MU]
    have O:=lX hp hcut;rw[O,show p+(d.length-p)=d.length from by omega,ix _ _ _ (by simp)] at A;have Q:=a8 A;have ad:(p:Int)<(d.length:Int):=(by omega);have aj:(p:Int)≤(d.length:Int):=(by omega);have af:¬cap=p:=(by omega);have L:=nAl wr (.cells #[lnV b z cap (p,d.length-p)] 52);have J:(wr.alloc (.cells #[lnV b z cap (p,d.length-p)] 52)).ownsRow w.heap.size 52 1 u3 (pre.map (lnV b z cap)).length (pre.map (lnV b z cap)):=(by rw[MI];exact ou G L (MH _));have M:(wr.alloc (.cells #[lnV b z cap (p,d.length-p)] 52)).cell? ⟨wr.heap.size,0,none⟩=some (lnV b z cap (p,d.length-p)):=(by rw[cell_of_row _ _ _ _ _ _ (heap_alloc_new wr _)];rfl);have aa:=E.size;have K:=a8 (E.alloc aa (.cells #[lnV b z cap (p,d.length-p)] 52));clear A O E G L I R;simp only[lnV] at M J K;go_wp2_with (at_builtin;refine lF _ rfl _ _ rfl w.heap.size u3 _ _ wr.heap.size 1 rfl rfl J M rfl (by rw[MI];omega) (by simp;omega) ?_;intro v5 w5 N Z)
    have Y:=K.out.grown Z (by simp;omega) (fun g h=>(World.ownsRow.lt J g h).1);go_ret;refine⟨_,rfl,?_,Y⟩;rw[←Q.out,MT,MS];rw[MI] at N;exact N
   ·obtain rfl:p=d.length:=(by omega);rw[ix _ _ _ (by simp),Nn] at A;subst A;have HO:=a8 G;clear G I R;go_wp2;go_ret;exact⟨_,rfl,HO.out,E⟩
def iw(l:List Nat):Int:=if eT l then(fG l:Int) else-1
theorem LR:(fC kL).toList=[70,114,111,109,32]:=by rw[nB];rfl
theorem zz(b N cap:Nat)(l:List Nat)(w:World)(hl:l.length≤1048576)(aa:l.length≤cap)(I:d8 w b N l)(hb:∀x∈l,x<256):
  Calls Tryz.prog 128 #[.slice (some ⟨b,N,none⟩) l.length cap] w fun e w'=>e= .returned (.int .i64 (iw l))∧w'=w:=by
 go_enter Tryz.func128,Tryz.ntmps128;go_wp2;go_loopw [3] (fun i wr=>∃k:Nat,k≤l.length∧i= .int .i64 (k:Int)∧(∀j (h:j<l.length),j<k→l[j]=62)∧wr=w) (fun i _=>l.length-(intOf i).toNat)
 case atStart=>exact⟨0,MQ _,rfl,fun j _ h=>by omega,rfl⟩
 case round=>
  obtain⟨k,hk,rfl,G,rfl⟩:=hrel;by_cases Q:k<l.length
  ·have U:=I k Q;by_cases M:l[k]=62
   ·rw[M] at U;have Z:=a8 G;clear G I;go_wp2;go_roundw
    case rel=>exact⟨k+1,by omega,by go_num,fun j L ad=>by
      by_cases e:j=k
      ·subst e;exact M
      ·exact Z.out j L (by omega),by simp⟩
    case measure=>simp[intOf];omega
   ·have he:((l[k]:Int)==62)=false:=(by simp;omega);have R:=sH l k Q G M;have K:eT l=decide ((l.drop k).take 5=kL):=(by unfold eT;rw[R];rfl);clear G;by_cases h5:k+5≤l.length
    ·have Y:=pY l k 5 (by omega);have O:=fH wr (some ⟨b,N+k,none⟩) (cap-k) ((l.drop k).take 5) (eD (gW I k 5));rw[Y] at O;have J:((fC ((l.drop k).take 5)).toList==(fC kL).toList)=eT l:=by
      rw[K];exact pn (fun x hx=>hb x (M7 (M4 hx))) (by decide)
     rw[LR] at J;generalize fC ((l.drop k).take 5)=S at O J;have ae:¬cap=k:=(by omega);have V:(k:Int)+5≤(l.length:Int):=(by omega);have ab:(k:Int)+5≤(cap:Int):=(by omega);have ac:(k:Int)≤(k:Int)+5:=(by omega);clear K I;by_cases A:eT l=true
     ·rw[A] at J;have z:iw l=(k:Int):=(by unfold iw;rw[A,R];rfl);have E:=a8 z;clear z;go_wp2;go_ret;exact⟨by rw[E.out];rfl,rfl⟩
     ·simp only[Bool.not_eq_true] at A;rw[A] at J;have z:iw l= -1:=(by unfold iw;rw[A];rfl);have E:=a8 z;clear z;go_wp2;go_ret;exact⟨by rw[E.out];rfl,rfl⟩
    ·have A:eT l=false:=by
      rw[K];exact decide_eq_false fun e=>by have:=congrArg List.length e;simp[kL] at this;omega
     have z:iw l= -1:=(by unfold iw;rw[A];rfl);have E:=a8 z;clear z;have V:¬(k:Int)+5≤(l.length:Int):=(by omega);clear K I;go_wp2;go_ret;exact⟨by rw[E.out];rfl,rfl⟩
  ·obtain rfl:k=l.length:=(by omega);have A:eT l=false:=sq l (fun j L=>G j L L);have z:iw l= -1:=(by unfold iw;rw[A];rfl);have E:=a8 z;clear z;clear G I;go_wp2;go_ret;exact⟨by rw[E.out];rfl,rfl⟩
theorem Az(d:List Nat){s:Nat}{xs:List (Nat×Nat)}(h:kG d s xs):∀x∈xs,x.1+x.2≤d.length:=by
 induction xs generalizing s with
 |nil=>intro x z;cases z
 |cons y r ih=>
  obtain⟨E,G,A⟩:=h;intro x z;rcases M1.1 z with rfl|z
  ·omega
  ·exact ih A x z
theorem uQ{z:List Value}{u:Value}(h:w.ownsRow A e 1 (.slice a n cap) n z)(I:z[k]? =some u)(G:0<n):∃g,a=some ⟨g,0,none⟩∧w.cell? ⟨g,k,none⟩=some u:=by
 obtain⟨g,rfl,E⟩:=sS h G;exact⟨g,rfl,E k u I⟩
theorem vw(b z cap n:Nat)(l:List Nat)(w:World)(J:l.length=n)(I:n≤1048576)(A:n≤cap)(E:d8 w b z l)(G:∀x∈l,x<256):
  Calls Tryz.prog 128 #[.slice (some ⟨b,z,none⟩) n cap] w fun e w'=>e= .returned (.int .i64 (iw l))∧w'=w:=by
 subst J;exact zz b z cap l w I A E G
theorem zm(h:eT l=true):5≤l.length:=by
 unfold eT at h;have:=congrArg List.length (of_decide_eq_true h);simp[kL] at this;omega
theorem EQ(l:List Nat):(0<iw l)↔(eT l&&decide (0<fG l))=true:=by
 unfold iw;by_cases h:eT l=true
 ·rw[if_pos h];simp[h]
 ·rw[if_neg h];simp[h]
theorem IS(d:List Nat)(xs:List (Nat×Nat))(k:Nat):((xs.take k).flatMap (jN d)).length≤(xs.flatMap (jN d)).length:=by
 conv=>rhs;rw[←Nk k xs]
 rw[List.flatMap_append,MT];omega
theorem rg(b z cap:Nat)(d:List Nat)(w:World)(hd:d.length≤1048576)(aj:d.length≤cap)(hT:d8 w b z d)(ai:b<w.heap.size)(hb:∀x∈d,x<256):
  Calls Tryz.prog 163 #[.slice (some ⟨b,z,none⟩) d.length cap] w fun e w'=>∃v,e= .returned v∧dO w' w.heap.size v (dX d)∧Below w.heap.size w w':=by
 have au:=mU d;go_enter Tryz.func163,Tryz.ntmps163;go_wp2_with fail;refine(qA b z cap d w hd aj hT ai).mono ?_;rintro e M ⟨v1,rfl,N,J⟩;have ae:=Az d (jk d);have ap:(eG d).length≤d.length:=ox _ _ _;have hq:dX d=(eG d).flatMap (jN d):=rfl;have O:=fun k=>IS d (eG d) k;rw[←hq] at O;generalize eG d=xs at N ae ap hq O;obtain⟨a1,c1,rfl⟩:=In N;have ak:=a8 N;have al:=a8 (hT.below J ai);clear N hT;go_wp2;go_loopw [3,5,9] (fun v _ i wr=>∃k:Nat,k≤xs.length∧i= .int .i64 (k:Int)∧dO wr M.heap.size v ((xs.take k).flatMap (jN d))∧Below M.heap.size M wr) (fun _ _ i _=>xs.length-(intOf i).toNat)
 case atStart=>exact⟨0,MQ _,rfl,by simpa using dO.nil _ _,MJ _ _⟩
 case round=>
  obtain⟨k,hk,rfl,L,E⟩:=hrel;by_cases Z:k<xs.length
  ·have ag:=ou ak.out E (MH _);obtain⟨g1,rfl,hc⟩:=uQ (k:=k) ag (MM (by simpa using Z)) (by omega);have hx:=ae xs[k] (MO Z);have U:=a8 (MP Z);have af:=a8 (O k);rw[MY] at hc;generalize xs[k]=x at hx U hc;simp only[lnV] at hc;have av:=E.size;have ah:=al.out.below (E.mono (MH _)) (by have:=J.size;omega);have I:d8 wr b (z+x.1) (dR d x):=kQ (fun _=>ah) x hx;have ac:=nz d x hx;have am:∀y∈dR d x,y<256:=fun y hy=>hb y (np hy);have K:=EQ (dR d x);have hM:=a8 (vw b (z+x.1) (cap-x.1) x.2 (dR d x) wr ac (by omega) (by omega) I am);generalize ao:iw (dR d x)=mv at K hM;have A:=a8 L;have HB:=a8 E;clear L E ah ag ao;go_wp2_with fail;refine(hM.out).mono ?_;rintro e w2 ⟨rfl,rfl⟩;by_cases G:(eT (dR d x)&&decide (0<fG (dR d x)))=true
   ·have h0:(0:Int)<mv:=K.2 G;have Q:jN d x=(dR d x).drop 1:=(by unfold jN;rw[if_pos G]);have aw:5≤x.2:=by
     rw[Bool.and_eq_true] at G;have:=zm G.1;omega
    have an:((dR d x).drop 1).length=x.2-1:=(by rw[MU,ac]);have ad:=eD (I.drop 1);have ar:(1:Int)≤(x.2:Int):=(by omega);have aq:¬cap-x.1=1:=(by omega);have aa:=A.out;have R:=World.ownsRow.lt A.out;clear I K;go_wp2_with (at_builtin;refine fd _ rfl (.tmp 18) (.tmp 19) rfl M.heap.size u3 _ ((dR d x).drop 1) (x.2-1) an rfl aa ⟨b,z+x.1+1,none⟩ (cap-x.1-1) rfl ad (by have:=af.out;omega) (by omega) ?_;intro v6 w6 ab Y)
    have V:=HB.out.grown Y (by omega) (fun g h=>(R g h).1);go_roundw
    case rel=>
     refine⟨k+1,by omega,by go_num,?_,V⟩;rw[U.out,List.flatMap_append];simp only[List.flatMap_cons,List.flatMap_nil,Nn,Q];exact ab
    case measure=>simp[intOf];omega
   ·have h0:¬(0:Int)<mv:=fun h=>G (K.1 h);have Q:jN d x=dR d x:=(by unfold jN;rw[if_neg G]);have ad:=eD I;have aa:=A.out;have R:=World.ownsRow.lt A.out;clear I K;go_wp2_with (at_builtin;refine fd _ rfl (.tmp 18) (.tmp 19) rfl M.heap.size u3 _ (dR d x) x.2 ac rfl aa ⟨b,z+x.1,none⟩ (cap-x.1) rfl ad (by have:=af.out;omega) (by omega) ?_;intro v6 w6 ab Y)
    have V:=HB.out.grown Y (by omega) (fun g h=>(R g h).1);go_roundw
    case rel=>
     refine⟨k+1,by omega,by go_num,?_,V⟩;rw[U.out,List.flatMap_append];simp only[List.flatMap_cons,List.flatMap_nil,Nn,Q];exact ab
    case measure=>simp[intOf];omega
  ·obtain rfl:k=xs.length:=(by omega);rw[NE,←hq] at L;have A:=a8 L;clear L;go_wp2;go_ret;exact⟨_,rfl,A.out.mono J.size,J.trans (E.mono J.size)⟩
end Go.Proofs.YtpdbolihakojcaaGreatDoor
