import Derived.Test.YtpdbolihakojcaaGreatDoorPka
namespace Go.Proofs.YtpdbolihakojcaaGreatDoor
set_option maxRecDepth 20000
set_option linter.unusedVariables false
set_option linter.unusedSimpArgs false
set_option maxHeartbeats 4000000
open Go.RowKit
variable {W Y w w' w0 wr : World} {b : List UInt8} {A B at_ base' c cap e f g gs i j k lo m n u z : Nat} {R d is l : List Nat} {E G I J K L M N O v0 v1 v2 v3 v4 v5 v6 x y : Value} {o : Oper} {Q : Exit → Act → World → Prop} {bvs xs : List Value} {t : TypeId} {cs tmps : Array Value} {p : Addr} {a : Option Addr} {first ok : Bool} {s : ByteArray} {rs : List (List Nat)}
theorem Cz(l m:List (Value×Value)):two (l++m)=two l++two m:=by simp[two]
theorem eQ{L:Array Oper}{K:List Oper}{G:Act}(w:World)(V:o.guard=none)(s x:Operand)
  (ho:o.op= .call {callee:= .builtin .append,args:= #[s,x],argTypes:= #[34,34]})
  (A:Nat) (v:Value) (z:List (ByteArray×Int)) (e:ByteArray×Int) (I c:Nat) (hs:G.eval s=v) (hx:G.eval x= .slice (some ⟨I,0,none⟩) 1 c) (U:gB w A v z)
  (h0:w.cell? ⟨I,0,none⟩=some (.string e.1)) (h1:w.cell? ⟨I,1,none⟩=some (.int .i64 e.2)) (ab:z.length≤1048576) (N:A≤w.heap.size)
  (h:∀J w',gB w' A J (z++[e])→w.grownBy w' v.ownBlock→wpList Tryz.prog L Q K (G.put o.dst J) w'):wpList Tryz.prog L Q (o::K) G w:=by
 obtain⟨i0,hi,Y,Z,aa⟩:=info_parts Tryz.infoEntry;have O:w.ownsRow A 93 2 v z.length (two (z.map wG)):=(by have:=U;unfold gB fj at this;rw[MI] at this;exact this);refine wpList_append_own w V s x 34 ho A 93 i0 (.agg #[.string ByteArray.empty,.int .i64 0]) 2 24 Tryz.underlying34 hi Y Z aa rfl (by decide) v z.length (two (z.map wG)) hs O ⟨I,0,none⟩ 1 c [.string e.1,.int .i64 e.2] hx (by simp) ?_ ?_ (by unfold maxLen;omega) (by omega) N ?_
 ·intro j u E;rw[ej]
  match j with
  |0=>simp only[Nj,MK] at E;rw[←E];exact h0
  |1=>simp only[Ni,Nj,MK] at E;rw[←E];exact h1
  |j+2=>simp at E
 ·intro u M;simp only[M1,Nw,or_false] at M;rcases M with rfl|rfl<;>rfl
 ·intro J w' R hg _;refine h J w' ?_ hg;unfold gB fj;rw[MI,MT,MS,Cz];exact R
theorem lh(a:Option Addr)(cap:Nat)(z:List (ByteArray×Int))(nm:ByteArray)(w:World)(hn:z.length≤1048575)(hr:fi w a z):
  Calls Tryz.prog 90 #[.slice a z.length cap,.string nm] w fun e w'=>∃v,e= .returned v∧gB w' w.heap.size v (z.filter fun e=>decide (e.1≠nm))∧Below w.heap.size w w':=by
 go_enter Tryz.func90,Tryz.ntmps90;go_wp2;go_loopw [5,10] (fun v i wr=>∃k:Nat,k≤z.length∧i= .int .i64 k∧gB wr w.heap.size v ((z.take k).filter fun e=>decide (e.1≠nm))∧Below w.heap.size w wr) (fun _ i _=>z.length-(intOf i).toNat)
 case atStart=>exact⟨0,MQ _,rfl,World.ownsRow_nil w w.heap.size 93 2,MJ _ _⟩
 case round=>
  obtain⟨k,hk,rfl,A,O⟩:=hrel;by_cases ac:k<z.length
  ·obtain⟨b,ag,rfl,hc⟩:=(hr.below O) (by omega)
   obtain⟨Z,aa⟩:=hc k ac;have R:=a8 (MP ac);have ab:((z.take k).filter fun e=>decide (e.1≠nm)).length≤1048576:=MN (List.length_filter_le _ _) (by simp;omega);have Y:=(A.below ((MJ _ _).alloc (MH _) (.cells #[.string z[k].1,.int .i64 z[k].2] 93))).below ((MJ _ _).alloc (MH _) (.cells #[.string z[k].1,.int .i64 z[k].2] 93));have G:=a8 (A.below ((MJ _ _).alloc (MH _) (.cells #[.string z[k].1,.int .i64 z[k].2] 93)));have Q:=O.alloc O.size (.cells #[.string z[k].1,.int .i64 z[k].2] 93);have N:=a8 Q;have E:=a8 (Q.alloc Q.size (.cells #[.string z[k].1,.int .i64 z[k].2] 93));have U:=dZ.new (wr.alloc (.cells #[.string z[k].1,.int .i64 z[k].2] 93)) #[.string z[k].1,.int .i64 z[k].2] 93;rw[show(wr.alloc (.cells #[.string z[k].1,.int .i64 z[k].2] 93)).heap.size=wr.heap.size+1 from by simp] at U;have L:=a8 (U.cell 0);have M:=a8 (U.cell 1);have ad:=a8 (World.ownsRow.lt A);have I:=a8 Y;clear hc hr A Y O Q U;by_cases K:z[k].1=nm
   ·have V:=jg K;have J:=a8 (show((z.take (k+1)).filter fun e=>decide (e.1≠nm))=((z.take k).filter fun e=>decide (e.1≠nm)) from by rw[R.out,List.filter_append];simp[K]);clear R K;generalize z[k].1=x0 at Z V N E G I L M;generalize z[k].2=x1 at aa N E G I L M;go_wp2;go_roundw
    case rel=>exact⟨k+1,by omega,by go_num,by rw[J.out];exact G.out,N.out⟩
    case measure=>simp[intOf];omega
   ·have V:=jh K;have J:=a8 (show((z.take (k+1)).filter fun e=>decide (e.1≠nm))=((z.take k).filter fun e=>decide (e.1≠nm))++[(z[k].1,z[k].2)] from by rw[R.out,List.filter_append];simp[K]);clear R K;generalize z[k].1=x0 at Z V N E G I L M J;generalize z[k].2=x1 at aa N E G I L M J;generalize ((z.take k).filter fun e=>decide (e.1≠nm))=fl at ab G I J;go_wp2_with (first
     |(at_builtin;refine eQ _ rfl (.tmp 18) (.tmp 20) rfl w.heap.size u5 fl (x0,x1) (wr.heap.size+1) 1 rfl rfl ?_ ?_ ?_ ab ?_ ?_;(exact I.out);(exact L.out);(exact M.out);(exact E.out.size);intro v3 w3 af ae)
     |go_in)
    exact⟨⟨k+1,by omega,by go_num,by rw[J.out];exact af,E.out.grown ae E.out.size (fun j hj=>(ad.out j hj).1)⟩,by simp[intOf];omega⟩
  ·have he:z.take k=z:=MX (by omega);rw[he] at A;have HO:=a8 A;clear A he;go_wp2;go_ret;exact⟨_,rfl,HO.out,O⟩
def gtB(x nm:ByteArray):Bool:= !(Op.bytesLess x.toList nm.toList||x.toList==nm.toList)
def im(l:List (ByteArray×Int))(nm:ByteArray):Nat:=l.findIdx fun e=>gtB e.1 nm
def jI(l:List (ByteArray×Int))(nm:ByteArray)(nd:Int):List (ByteArray×Int):=l.take (im l nm)++(nm,nd)::l.drop (im l nm)
def kF(l:List (ByteArray×Int))(nm:ByteArray)(nd:Int)(k:Nat):List (ByteArray×Int):=if k≤im l nm then l.take k else l.take (im l nm)++(nm,nd)::(l.take k).drop (im l nm)
theorem JY{l:List (ByteArray×Int)}{nm:ByteArray}{nd:Int}(z:k<l.length)(h:k<im l nm):kF l nm nd (k+1)=kF l nm nd k++[(l[k].1,l[k].2)]:=by
 unfold kF;rw[if_pos (by omega),if_pos (by omega),MP z]
theorem JW{l:List (ByteArray×Int)}{nm:ByteArray}{nd:Int}(z:k<l.length)(h:k=im l nm):kF l nm nd (k+1)=(kF l nm nd k++[(nm,nd)])++[(l[k].1,l[k].2)]:=by
 unfold kF;rw[if_neg (by omega),if_pos (by omega),←h,MP z];have e:(l.take k++[l[k]]).drop k=[l[k]]:=by
  rw[List.drop_append_of_le_length (by simp;omega)];simp
 rw[e];simp
theorem JX{l:List (ByteArray×Int)}{nm:ByteArray}{nd:Int}(z:k<l.length)(h:im l nm<k):kF l nm nd (k+1)=kF l nm nd k++[(l[k].1,l[k].2)]:=by
 unfold kF;rw[if_neg (by omega),if_neg (by omega),MP z,List.drop_append_of_le_length (by simp;omega)];simp
theorem EX(l:List (ByteArray×Int))(nm:ByteArray)(nd:Int):kF l nm nd 0=[]:=by unfold kF;rw[if_pos (by omega)];rfl
theorem J6(l:List (ByteArray×Int))(nm:ByteArray):im l nm≤l.length:=List.findIdx_le_length
theorem Hz{l:List (ByteArray×Int)}{nm:ByteArray}{nd:Int}(h:im l nm<l.length):kF l nm nd l.length=jI l nm nd:=by
 unfold kF jI;rw[if_neg (by omega),NE]
theorem EW{l:List (ByteArray×Int)}{nm:ByteArray}{nd:Int}(h:¬im l nm<l.length):kF l nm nd l.length++[(nm,nd)]=jI l nm nd:=by
 have:=J6 l nm;unfold kF jI;rw[if_pos (by omega),show im l nm=l.length from by omega];simp
theorem H5(l:List (ByteArray×Int))(nm:ByteArray)(nd:Int)(k:Nat):(kF l nm nd k).length≤l.length+1:=by
 unfold kF;split<;>simp<;>omega
theorem LS{l:List (ByteArray×Int)}{nm:ByteArray}(z:k<l.length)(h:k=im l nm):gtB l[k].1 nm=true:=by
 subst h;exact List.findIdx_getElem (w:=z)
theorem LT{l:List (ByteArray×Int)}{nm:ByteArray}(z:k<l.length)(h:k<im l nm):gtB l[k].1 nm=false:=by
 have:=List.not_of_lt_findIdx h;simpa using this
theorem oN(w:World)(x:ByteArray)(n:Int):(w.alloc (.cells #[.string x,.int .i64 n] 93)).cell? ⟨w.heap.size,0,none⟩=some (.string x)∧(w.alloc (.cells #[.string x,.int .i64 n] 93)).cell? ⟨w.heap.size,1,none⟩=some (.int .i64 n):=by
 have z:=dZ.new w #[.string x,.int .i64 n] 93;exact⟨z.cell 0,z.cell 1⟩
theorem yK(w:World)(o:Obj)(x:ByteArray)(n:Int):((w.alloc o).alloc (.cells #[.string x,.int .i64 n] 93)).cell? ⟨w.heap.size+1,0,none⟩=some (.string x)∧((w.alloc o).alloc (.cells #[.string x,.int .i64 n] 93)).cell? ⟨w.heap.size+1,1,none⟩=some (.int .i64 n):=by
 have h:=oN (w.alloc o) x n;rw[show(w.alloc o).heap.size=w.heap.size+1 from by simp] at h;exact h
theorem gT{v:Value}{A:List (ByteArray×Int)}(h:gB w z v A)(o:Obj):gB (w.alloc o) z v A:=h.below ((MJ _ _).alloc (MH _) o)
theorem j2{A I:World}{v:Value}{J:List (ByteArray×Int)}{E G:Obj}(K:Below z w A)(O:z≤A.heap.size)(N:gB A z v J)(L:((A.alloc E).alloc G).grownBy I v.ownBlock):Below z w I:=
 ((K.alloc O E).alloc (by simp;omega) G).grown L (by simp;omega) (fun j M=>(World.ownsRow.lt N j M).1)
theorem En{z:World}{E:Nat}{v:Value}{G:List (ByteArray×Int)}{x:ByteArray}{n:Int}{o:Obj}(J:gB w E v G)(I:((w.alloc (.cells #[.string x,.int .i64 n] 93)).alloc o).grownBy z v.ownBlock):z.cell? ⟨w.heap.size,0,none⟩=some (.string x)∧z.cell? ⟨w.heap.size,1,none⟩=some (.int .i64 n):=by
 have K:dZ ((w.alloc (.cells #[.string x,.int .i64 n] 93)).alloc o) w.heap.size #[.string x,.int .i64 n] 93:=dZ.below (B:=w.heap.size+1) (dZ.new w _ _) ((MJ _ _).alloc (by simp) _) (by omega);have A:dZ z w.heap.size #[.string x,.int .i64 n] 93:=(I.block w.heap.size (by simp;omega) (fun e=>by have:=(World.ownsRow.lt J _ e.symm).2;omega)).trans K;exact⟨A.cell 0,A.cell 1⟩
theorem sw(a:Option Addr)(cap:Nat)(Y:List (ByteArray×Int))(nm:ByteArray)(nd:Int)(w:World)(hn:Y.length≤1048574)(hr:fi w a Y):
  Calls Tryz.prog 89 #[.slice a Y.length cap,.string nm,.int .i64 nd] w fun e w'=>∃v,e= .returned v∧gB w' w.heap.size v (jI (Y.filter fun e=>decide (e.1≠nm)) nm nd)∧Below w.heap.size w w':=by
 go_enter Tryz.func89,Tryz.ntmps89;go_wp2_with fail;refine(lh a cap Y nm w (by omega) hr).mono ?_;rintro e I ⟨v1,rfl,ak,ap⟩;obtain⟨a1,c1,aB⟩:=ak.slice;subst aB;have aq:=ak.at;have ay:(Y.filter fun e=>decide (e.1≠nm)).length≤1048574:=MN (List.length_filter_le _ _) hn;have af:=a8 ap;have am:=a8 aq;clear ak ap hr aq;generalize ar:(Y.filter fun e=>decide (e.1≠nm))=l at am ay;have an:=a8 ar;clear ar;go_wp2;go_loopw [7,8,15] (fun v d i wr=>∃k:Nat,k≤l.length∧i= .int .i64 k∧d= .bool (decide (im l nm<k))∧gB wr I.heap.size v (kF l nm nd k)∧Below I.heap.size I wr) (fun _ _ i _=>l.length-(intOf i).toNat)
 case atStart=>exact⟨0,MQ _,rfl,by simp,by rw[EX];exact World.ownsRow_nil I I.heap.size 93 2,MJ _ _⟩
 case round=>
  obtain⟨k,hk,rfl,rfl,U,L⟩:=hrel;have ae:=H5 l nm nd k;by_cases ad:k<l.length
  ·obtain⟨b,aC,rfl,hc⟩:=(am.out.below L) (by omega)
   obtain⟨aw,ax⟩:=hc k ad;have ac:=a8 (fun h=>JY (nm:=nm) (nd:=nd) ad h);have aa:=a8 (fun h=>JW (nm:=nm) (nd:=nd) ad h);have ab:=a8 (fun h=>JX (nm:=nm) (nd:=nd) ad h);have ah:=a8 (fun h=>LS (nm:=nm) ad h);have ai:=a8 (fun h=>LT (nm:=nm) ad h);have z:=a8 U;have N:=a8 L;have G:=a8 L.size;clear hc U L;generalize l[k].1=Q at aw ac aa ab ah ai;generalize l[k].2=R at ax ac aa ab;have V:=a8 (yK wr (.cells #[.string Q,.int .i64 R] 93) Q R);rcases Nat.lt_trichotomy k (im l nm) with A|A|A
   ·have E:decide (im l nm<k)=false:=(by simp;omega);rw[E];have hg:=ai.out A;have J:=a8 (ac.out A);have ag:=a8 (show Value.bool false= .bool (decide (im l nm<k+1)) from by rw[decide_eq_false (by omega)]);unfold gtB at hg;clear ac aa ab ah ai A E;generalize kF l nm nd k=O at z J ae;go_wp2_with (first
     |(at_builtin;refine eQ _ rfl (.tmp 33) (.tmp 35) rfl I.heap.size u7 O (Q,R) (wr.heap.size+1) 1 rfl rfl ?_ ?_ ?_ ?_ ?_ ?_;(exact gT (gT z.out _) _);(exact V.out.1);(exact V.out.2);omega;(exact MN G.out (by simp;omega));intro v3 Z M K)
     |go_in)
    exact⟨⟨k+1,by omega,by go_num,ag.out,by rw[J.out];exact M,j2 N.out G.out z.out K⟩,by simp[intOf];omega⟩
   ·have E:decide (im l nm<k)=false:=(by simp;omega);rw[E];have hg:=ah.out A;have J:=a8 (aa.out A);have ag:=a8 (show Value.bool true= .bool (decide (im l nm<k+1)) from by rw[decide_eq_true (by omega)]);unfold gtB at hg;clear ac aa ab ah ai A E;generalize kF l nm nd k=O at z J ae;have al:=a8 (yK wr (.cells #[.string Q,.int .i64 R] 93) nm nd);go_wp2_with (first
     |(at_builtin;refine eQ _ rfl (.tmp 27) (.tmp 31) rfl I.heap.size u7 O (nm,nd) (wr.heap.size+1) 1 rfl rfl ?_ ?_ ?_ ?_ ?_ ?_;(exact gT (gT z.out _) _);(exact al.out.1);(exact al.out.2);omega;(exact MN G.out (by simp;omega));intro v3 Z M K;obtain⟨q3,q4⟩:=En z.out K;have aj:=a8 (j2 N.out G.out z.out K).size;have ao:=a8 M;have au:=a8 K;clear M K)
     |(at_builtin;refine eQ _ rfl (.tmp 33) (.tmp 35) rfl I.heap.size v3 (O++[(nm,nd)]) (Q,R) Z.heap.size 1 rfl rfl ?_ ?_ ?_ ?_ ?_ ?_;(exact gT ao.out _);(exact(oN Z Q R).1);(exact(oN Z Q R).2);(simp;omega);(exact MN aj.out (by simp));intro v4 w4 aA az)
     |go_in)
    exact⟨⟨k+1,by omega,by go_num,ag.out,by rw[J.out];exact aA,((j2 N.out G.out z.out au.out).alloc aj.out _).grown az (MN aj.out (by simp)) (fun j hj=>(World.ownsRow.lt ao.out j hj).1)⟩,by simp[intOf];omega⟩
   ·have E:decide (im l nm<k)=true:=(by simp;omega);rw[E];have J:=a8 (ab.out A);have ag:=a8 (show Value.bool true= .bool (decide (im l nm<k+1)) from by rw[decide_eq_true (by omega)]);clear ac aa ab ah ai A E;generalize kF l nm nd k=O at z J ae;go_wp2_with (first
     |(at_builtin;refine eQ _ rfl (.tmp 33) (.tmp 35) rfl I.heap.size u7 O (Q,R) (wr.heap.size+1) 1 rfl rfl ?_ ?_ ?_ ?_ ?_ ?_;(exact gT (gT z.out _) _);(exact V.out.1);(exact V.out.2);omega;(exact MN G.out (by simp;omega));intro v3 Z M K)
     |go_in)
    exact⟨⟨k+1,by omega,by go_num,ag.out,by rw[J.out];exact M,j2 N.out G.out z.out K⟩,by simp[intOf];omega⟩
  ·obtain rfl:k=l.length:=(by omega);by_cases A:im l nm<l.length
   ·have E:decide (im l nm<l.length)=true:=(by simp;omega);rw[E];rw[Hz A] at U;have z:=a8 U;have N:=bTr af L;have G:=a8 af.out.size;clear U L E A ae;go_wp2;go_ret;exact⟨u7,rfl,by rw[an.out];exact z.out.mono G.out,N.out⟩
   ·have E:decide (im l nm<l.length)=false:=(by simp;omega);rw[E];have J:=a8 (EW (nd:=nd) A);have z:=a8 U;have N:=a8 L;have G:=a8 L.size;have V:=a8 (oN wr nm nd);clear U L E A;generalize kF l nm nd l.length=O at z J ae;go_wp2_with (first
     |(at_builtin;refine eQ _ rfl (.tmp 40) (.tmp 44) rfl I.heap.size u7 O (nm,nd) wr.heap.size 1 rfl rfl ?_ ?_ ?_ ?_ ?_ ?_;(exact gT z.out _);(exact V.out.1);(exact V.out.2);omega;(exact MN G.out (by simp));intro v3 Z M K)
     |go_in)
    go_ret;have av:Below I.heap.size I Z:=(N.out.alloc G.out _).grown K (MN G.out (by simp)) (fun j hj=>(World.ownsRow.lt z.out j hj).1);exact⟨v3,rfl,by rw[an.out,←J.out];exact M.mono af.out.size,af.out.trans (av.mono af.out.size)⟩
abbrev EN:=ByteArray×Int
abbrev DO:=Int×ByteArray×ByteArray×Int
def noName(es:List EN)(nm:ByteArray):List EN:=es.filter fun e=>decide (e.1≠nm)
def fF(es:List EN)(nm:ByteArray):Option Int:=(es.find? fun e=>decide (e.1=nm)).map (·.2)
def hZ(nodes:Int)(es:List EN)(o:DO):Option (List EN):=
 if o.1=1 then(if eO o.2.1=true∧o.2.2.1.toList=[]∧0≤o.2.2.2∧o.2.2.2<nodes∧(∀e∈es,e.2≠o.2.2.2) then some (jI (noName es o.2.1) o.2.1 o.2.2.2) else none)
 else if o.1=4 then(match fF es o.2.1 with
  |none=>none
  |some nd=>if eO o.2.2.1=true∧o.2.2.1≠o.2.1∧o.2.2.2=0 then some (jI (noName (noName es o.2.1) o.2.2.1) o.2.2.1 nd) else none)
 else if o.1=5 then(match fF es o.2.1 with
  |none=>none
  |some _=>if o.2.2.1.toList=[]∧o.2.2.2=0 then some (noName es o.2.1) else none)
 else none
def wk(w:World):Option (List EN)→Ending→World→Prop
 |none,e,w'=>e= .returned (.tuple #[.slice none 0 0,.bool false])∧Below w.heap.size w w'
 |some l,e,w'=>∃a c,e= .returned (.tuple #[.slice a l.length c,.bool true])∧gB w' w.heap.size (.slice a l.length c) l∧Below w.heap.size w w'
theorem zN{z:List EN}{nm:ByteArray}(h:∀i (h:i<z.length),z[i].1≠nm):fF z nm=none:=by
 unfold fF;rw[List.find?_eq_none.2 (fun x E=>by
  obtain⟨i,A,rfl⟩:=Nd E;simpa using h i A)]
 rfl
theorem zO{z:List EN}{nm:ByteArray}(G:i<z.length)(A:z[i].1=nm)(E:∀k (J:k<i),z[k].1≠nm):fF z nm=some z[i].2:=by
 unfold fF;have:z.find? (fun e=>decide (e.1=nm))=some z[i]:=by
  rw[List.find?_eq_some_iff_getElem];refine⟨by simpa using A,i,G,rfl,fun j I=>by simpa using E j I⟩
 rw[this];rfl
theorem zq(a:Option Addr)(cap:Nat)(z:List EN)(nm:ByteArray)(w:World)(O:z.length≤1048574)(I:fi w a z):
  Calls Tryz.prog 58 #[.slice a z.length cap,.string nm] w fun e w'=>((∃i nd,i<z.length∧fF z nm=some nd∧(∀b A,a=some ⟨b,A,none⟩→w.cell? ⟨b,A+i*2+1,none⟩=some (.int .i64 nd))∧e= .returned (.int .i64 ((i:Nat):Int)))∨(fF z nm=none∧e= .returned (.int .i64 (-1))))∧w'=w:=by
 refine(BC a cap z nm w (by omega) I).mono ?_;rintro e w' ⟨h,rfl⟩;refine⟨?_,rfl⟩;rcases h with⟨i,G,J,K,rfl⟩|⟨h,rfl⟩
 ·refine .inl ⟨i,z[i].2,G,zO G J K,fun b A e=> ?_,rfl⟩;obtain⟨N,M,E,L⟩:=I (by omega);rw[e] at E;simp only[MK,Np,and_true] at E;obtain⟨rfl,rfl⟩:=E;exact(L i G).2
 ·exact .inr ⟨zN h,rfl⟩
theorem jw{R:Option (List EN)}(h:R=none)(z:Below w.heap.size w w'):wk w R (.returned (.tuple #[.slice none 0 0,.bool false])) w':=by subst h;exact⟨rfl,z⟩
theorem xG{R:Option (List EN)}{l:List EN}(h:R=some l)(A:gB w' w.heap.size (.slice a l.length c) l)(z:Below w.heap.size w w'):wk w R (.returned (.tuple #[.slice a l.length c,.bool true])) w':=by subst h;exact⟨a,c,rfl,A,z⟩
theorem Lo(nodes:Int)(z:List EN)(nm A:ByteArray)(nd:Int):hZ nodes z (1,nm,A,nd)=if eO nm=true∧A.toList=[]∧0≤nd∧nd<nodes∧(∀e∈z,e.2≠nd) then some (jI (noName z nm) nm nd) else none:=rfl
theorem Lp(nodes:Int)(A:List EN)(nm z:ByteArray)(nd:Int):hZ nodes A (4,nm,z,nd)=(match fF A nm with|none=>none|some n0=>if eO z=true∧z≠nm∧nd=0 then some (jI (noName (noName A nm) z) z n0) else none):=rfl
theorem Lq(nodes:Int)(z:List EN)(nm A:ByteArray)(nd:Int):hZ nodes z (5,nm,A,nd)=(match fF z nm with|none=>none|some _=>if A.toList=[]∧nd=0 then some (noName z nm) else none):=rfl
theorem xe(a:Option Addr)(cap:Nat)(A:List EN)(Q:Int)(nm G:ByteArray)(nd nodes:Int)(w:World)(hn:A.length≤1048573)(aV:nm.size≤1048576)(aW:G.size≤1048576)(hr:fi w a A):
  Calls Tryz.prog 56 #[.slice a A.length cap,.agg #[.int .i64 Q,.string nm,.string G,.int .i64 nd],.int .i64 nodes] w (wk w (hZ nodes A (Q,nm,G,nd))):=by
 have hB0:Below w.heap.size w (w.alloc (.cells #[.int .i64 Q,.string nm,.string G,.int .i64 nd] 95)):=(MJ _ _).alloc (MH _) _;have L0:=dZ.new w #[.int .i64 Q,.string nm,.string G,.int .i64 nd] 95;have ah:=hr.below hB0;have ak:=a8 (fun nm=>zq a cap A nm _ (by omega) ah);go_enter Tryz.func56,Tryz.ntmps56;go_wp2_with fail;generalize w.alloc (.cells #[.int .i64 Q,.string nm,.string G,.int .i64 nd] 95)=W0 at hB0 L0 ah ak⊢;refine(ak.out nm).mono ?_;rintro e O ⟨aq,rfl⟩;obtain⟨q0,q1,q2,q3⟩:=L0.c4;have Z:=a8 aq;have I:=a8 hB0;have af:=a8 ah;have aT:=a8 L0;clear aq hB0 ah L0 ak hr;obtain⟨at_,aP⟩:∃v,e= .returned (.int .i64 v):=by
  rcases Z.out with⟨i,_,_,_,_,rfl⟩|⟨_,rfl⟩
  ·exact⟨_,rfl⟩
  ·exact⟨_,rfl⟩
 subst aP;by_cases k1:Q=1
 ·subst k1;have z:=Lo nodes A nm G nd;by_cases N:eO nm=true
  ·by_cases J:G.toList=[]
   ·have an:(G.toList==[])=true:=(by simpa using J);by_cases R:0≤nd
    ·by_cases c4:nd<nodes
     ·have ay:¬nd<0:=(by omega);have aN:¬nodes≤nd:=(by omega);have E:=a8 z;clear z;go_wp2_with fail;refine(eJ nm O (by omega)).mono ?_;rintro e K ⟨rfl,rfl⟩;rw[N];go_wp2;go_loopw [10,42] (fun _ i wr=>∃k:Nat,k≤A.length∧i= .int .i64 (k:Int)∧(∀j (h:j<A.length),j<k→A[j].2≠nd)∧Below K.heap.size K wr) (fun _ i _=>A.length-(intOf i).toNat)
      case atStart=>exact⟨0,MQ _,rfl,fun j _ h=>by omega,MJ _ _⟩
      case round=>
       obtain⟨k,hk,rfl,aE,aa⟩:=hrel;have av:=a8 aE;have aj:=bTr I aa;have p1:=(aa.cell (p:=⟨w.heap.size,1,none⟩) (dH q1)).trans q1;have p3:=(aa.cell (p:=⟨w.heap.size,3,none⟩) (dH q3)).trans q3;have ax:=a8 (af.out.below aa);have HN:=a8 aa;clear aE aa;by_cases aD:k<A.length
       ·obtain⟨b,ap,rfl,hc⟩:=ax.out (by omega);obtain⟨aB,aC⟩:=hc k aD;have aY:w.heap.size<wr.heap.size:=dH p3;by_cases hx:A[k].2=nd
        ·have HX:=a8 (show¬(eO nm=true∧G.toList=[]∧0≤nd∧nd<nodes∧∀e∈A,e.2≠nd) from fun h=>h.2.2.2.2 A[k] (MO aD) hx);rw[hx] at aC;generalize A[k].1=x0 at aB;clear hc hx;go_wp2;go_ret2;exact jw (by rw[E.out,if_neg HX.out]) (aj.out.alloc (by omega) _)
        ·have aS:(A[k].2==nd)=false:=(by simpa using hx);have HX:=a8 hx;generalize A[k].1=x0 at aB;generalize aR:A[k].2=x1 at aC aS;clear hc hx aR;go_wp2;go_roundw
         case rel=>exact⟨k+1,by omega,by go_num,fun j h h'=>by
          by_cases e:j=k
          ·subst e;exact HX.out
          ·exact av.out j h (by omega),HN.out.alloc HN.out.size _⟩
         case measure=>simp[intOf];omega
       ·obtain rfl:k=A.length:=(by omega);have HX:=a8 (show(eO nm=true∧G.toList=[]∧0≤nd∧nd<nodes∧∀e∈A,e.2≠nd) from⟨N,J,R,c4,fun e he=>by
         obtain⟨j,hj,rfl⟩:=Nd he;exact av.out j hj hj⟩)
        go_wp2_with fail;refine(sw a cap A nm nd wr (by omega) ax.out).mono ?_;rintro e w3 ⟨v3,rfl,V,ac⟩;obtain⟨a3,aM,rfl⟩:=V.slice;have ab:=a8 V;have ai:=a8 ac;clear V ac;generalize ad:jI (A.filter fun e=>decide (e.1≠nm)) nm nd=L at ab;have al:=a8 ad;clear ad;have Y:w.heap.size≤wr.heap.size:=aj.out.size;go_wp2;go_ret2;exact xG (by rw[E.out,if_pos HX.out];exact congrArg some al.out) (ab.out.mono Y) (aj.out.trans (ai.out.mono Y))
     ·have ay:¬nd<0:=(by omega);have aN:nodes≤nd:=(by omega);have E:=a8 (z.trans (if_neg (fun h=>c4 h.2.2.2.1)));clear z;go_wp2_with fail;refine(eJ nm O (by omega)).mono ?_;rintro e K ⟨rfl,rfl⟩;rw[N];go_wp2;go_ret2;exact jw E.out I.out
    ·have ay:nd<0:=(by omega);have E:=a8 (z.trans (if_neg (fun h=>R h.2.2.1)));clear z;go_wp2_with fail;refine(eJ nm O (by omega)).mono ?_;rintro e K ⟨rfl,rfl⟩;rw[N];go_wp2;go_ret2;exact jw E.out I.out
   ·have an:(G.toList==[])=false:=(by simpa using J);have E:=a8 (z.trans (if_neg (fun h=>J h.2.1)));clear z;go_wp2_with fail;refine(eJ nm O (by omega)).mono ?_;rintro e K ⟨rfl,rfl⟩;rw[N];go_wp2;go_ret2;exact jw E.out I.out
  ·have am:eO nm=false:=(by simpa using N);have E:=a8 (z.trans (if_neg (fun h=>N h.1)));clear z;go_wp2_with fail;refine(eJ nm O (by omega)).mono ?_;rintro e K ⟨rfl,rfl⟩;rw[am];go_wp2;go_ret2;exact jw E.out I.out
 ·have aZ:(Q==1)=false:=(by simpa using k1);by_cases k4:Q=4
  ·subst k4;have z:=Lp nodes A nm G nd;rcases Z.out with⟨i,n0,hi,M,ag,U⟩|⟨M,U⟩
   ·obtain rfl:at_=(i:Int):=by simpa using U
    rw[M] at z;simp only at z;have aO:¬(i:Int)<0:=(by omega);have au:=a8 ag;clear Z ag U;by_cases N:eO G=true
    ·by_cases J:G=nm
     ·have E:=a8 (z.trans (if_neg (fun h=>h.2.1 J)));have hq:=jg J;clear z M J;go_wp2_with fail;refine(eJ G O (by omega)).mono ?_;rintro e K ⟨rfl,rfl⟩;rw[N];go_wp2;go_ret2;exact jw E.out I.out
     ·have hq:=jh J;by_cases R:nd=0
      ·have E:=a8 (z.trans (if_pos ⟨N,J,R⟩));subst R;obtain⟨b,ap,rfl,hc⟩:=af.out (by omega);have aU:=au.out b ap rfl;clear z M J hc au;go_wp2_with fail;refine(eJ G O (by omega)).mono ?_;rintro e K ⟨rfl,rfl⟩;rw[N];go_wp2;have aL:=a8 (fun(W:World) (hW:Below K.heap.size K W)=>lh (some ⟨b,ap,none⟩) cap A nm W (by omega) (af.out.below hW));have aQ:(noName A nm).length≤1048573:=MN (List.length_filter_le _ _) hn;go_region_with (first
        |(go_at_call 90;refine(aL.out _ (MJ _ _).drew).mono ?_;rintro e w4 ⟨v4,rfl,aF,ao⟩;have ae:gB w4 K.heap.size v4 (noName A nm):=aF;generalize az:noName A nm=L4 at ae aQ;obtain⟨a4,c4,rfl⟩:=ae.slice;have p2:w4.cell? ⟨w.heap.size,2,none⟩=some (.string G):=(ao.cell (p:=⟨w.heap.size,2,none⟩) (dH q2)).trans q2;have aK:=a8 ae;have aH:=a8 ao;have aJ:=a8 az;clear aF ae ao az)
        |(go_at_call 89;refine(sw a4 c4 L4 G n0 w4 (by omega) aK.out.at).mono ?_;rintro e w5 ⟨v5,rfl,aG,aA⟩;have aw:=a8 aG;have aI:=a8 aA;clear aG aA))
       all_goals
        obtain⟨a5,c5,e5⟩:=aw.out.slice;subst e5;have Y:=I.out.size;have ar:Below K.heap.size K w4:=(MJ K.heap.size K).drew.trans aH.out;have aX:=ar.size;go_wp2;go_ret2;exact xG (E.out.trans (by rw[aJ.out];rfl)) (aw.out.mono (by omega)) ((I.out.trans (ar.mono Y)).trans (aI.out.mono (by omega)))
      ·have hz:(nd !=0)=true:=(by simpa using R);have E:=a8 (z.trans (if_neg (fun h=>R h.2.2)));clear z M J;go_wp2_with fail;refine(eJ G O (by omega)).mono ?_;rintro e K ⟨rfl,rfl⟩;rw[N];go_wp2;go_ret2;exact jw E.out I.out
    ·have am:eO G=false:=(by simpa using N);have E:=a8 (z.trans (if_neg (fun h=>N h.1)));clear z M;go_wp2_with fail;refine(eJ G O (by omega)).mono ?_;rintro e K ⟨rfl,rfl⟩;rw[am];go_wp2;go_ret2;exact jw E.out I.out
   ·obtain rfl:at_= -1:=by simpa using U
    rw[M] at z;simp only at z;have E:=a8 z;clear z M Z U;go_wp2;go_ret2;exact jw E.out I.out
  ·have ba:(Q==4)=false:=(by simpa using k4);by_cases k5:Q=5
   ·subst k5;have z:=Lq nodes A nm G nd;rcases Z.out with⟨i,n0,hi,M,ag,U⟩|⟨M,U⟩
    ·obtain rfl:at_=(i:Int):=by simpa using U
     rw[M] at z;simp only at z;have aO:¬(i:Int)<0:=(by omega);clear Z ag U;by_cases J:G.toList=[]
     ·have an:(G.toList==[])=true:=(by simpa using J);by_cases R:nd=0
      ·have E:=a8 (z.trans (if_pos ⟨J,R⟩));subst R;clear z M;go_wp2_with fail;refine(lh a cap A nm O (by omega) af.out).mono ?_;rintro e w3 ⟨v3,rfl,V,ac⟩;obtain⟨a3,aM,rfl⟩:=V.slice;have ab:=a8 V;have ai:=a8 ac;clear V ac;generalize ad:(A.filter fun e=>decide (e.1≠nm))=L at ab;have al:=a8 ad;clear ad;have Y:=I.out.size;go_wp2;go_ret2;exact xG (E.out.trans (congrArg some al.out)) (ab.out.mono Y) (I.out.trans (ai.out.mono Y))
      ·have hz:(nd !=0)=true:=(by simpa using R);have E:=a8 (z.trans (if_neg (fun h=>R h.2)));clear z M;go_wp2;go_ret2;exact jw E.out I.out
     ·have an:(G.toList==[])=false:=(by simpa using J);have E:=a8 (z.trans (if_neg (fun h=>J h.1)));clear z M;go_wp2;go_ret2;exact jw E.out I.out
    ·obtain rfl:at_= -1:=by simpa using U
     rw[M] at z;simp only at z;have E:=a8 z;clear z M Z U;go_wp2;go_ret2;exact jw E.out I.out
   ·have bb:(Q==5)=false:=(by simpa using k5);have E:=a8 (show hZ nodes A (Q,nm,G,nd)=none by unfold hZ;simp only;rw[if_neg k1,if_neg k4,if_neg k5]);go_wp2;go_ret2;exact jw E.out I.out
end Go.Proofs.YtpdbolihakojcaaGreatDoor
