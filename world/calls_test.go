// The layers' calls, held against the chapters: this builds only while each has the signature that its chapter lists. It lies with the topmost layer, which may call all others.
package world_test

import (
	"testing"

	"caponier/alu"
	"caponier/api"
	"caponier/bits"
	"caponier/cpu"
	"caponier/gen"
	"caponier/image"
	"caponier/ins"
	"caponier/ir"
	"caponier/irsem"
	"caponier/lex"
	"caponier/live"
	"caponier/mem"
	"caponier/obj"
	"caponier/opt"
	"caponier/place"
	"caponier/regs"
	"caponier/sec"
	"caponier/sem"
	"caponier/syms"
	"caponier/tree"
	"caponier/world"
	"caponier/wrap"
)

// Layer 1.
var (
	_ func(v uint64, from, n int) (uint64, bool)           = bits.Field
	_ func(v uint64, from, n int, x uint64) (uint64, bool) = bits.Put
	_ func(v uint64, n int) int64                          = bits.Sign
	_ func(x int64, n int) bool                            = bits.Fits
	_ func(x uint64, n int) bool                           = bits.FitsU
	_ func(v uint64, n int) []byte                         = bits.Bytes
	_ func(b []byte) (uint64, bool)                        = bits.Word
)

// Layer 2.
var (
	_ func(x api.Ins) bool               = ins.May
	_ func(x api.Ins) (uint32, api.Code) = ins.Encode
	_ func(w uint32) (api.Ins, api.Code) = ins.Decode
	_ func(op int) string                = ins.Form
)

// Layer 3.
var (
	_ func(op int, a, b uint64) (uint64, bool)         = alu.Two
	_ func(op int, a uint64, imm int64) (uint64, bool) = alu.One
	_ func(op int, a, b uint64) (bool, bool)           = alu.Taken
	_ func(op int) bool                                = alu.Varies
)

// Layer 4.
var (
	_ func(t []api.Region) bool                                       = mem.May
	_ func(t []api.Region) (*mem.Mem, api.Code)                       = mem.New
	_ func(_ *mem.Mem, at uint64, n int) (int, bool)                  = (*mem.Mem).Find
	_ func(_ *mem.Mem, at uint64, n int, own bool, what int) bool     = (*mem.Mem).Allowed
	_ func(_ *mem.Mem, at uint64, n int, own bool) (uint64, api.Code) = (*mem.Mem).Load
	_ func(_ *mem.Mem, at uint64, n int, own bool, v uint64) api.Code = (*mem.Mem).Store
	_ func(_ *mem.Mem, at uint64, own bool) (uint32, api.Code)        = (*mem.Mem).Fetch
	_ func(_ *mem.Mem, at uint64, n int) ([]byte, api.Code)           = (*mem.Mem).Peek
	_ func(_ *mem.Mem, at uint64, b []byte) api.Code                  = (*mem.Mem).Poke
	_ func(*mem.Mem) *mem.Mem                                         = (*mem.Mem).Copy
)

// Layer 5.
var (
	_ func(m *mem.Mem, entries []uint64, s api.State) *cpu.Cpu = cpu.New
	_ func(*cpu.Cpu) bool                                      = (*cpu.Cpu).Step
	_ func(_ *cpu.Cpu, fuel int) int                           = (*cpu.Cpu).Run
	_ func(*cpu.Cpu) api.State                                 = (*cpu.Cpu).State
	_ func(*cpu.Cpu) []api.Event                               = (*cpu.Cpu).Events
	_ func(*cpu.Cpu) []api.Leak                                = (*cpu.Cpu).Leaks
	_ func(*cpu.Cpu) *mem.Mem                                  = (*cpu.Cpu).Mem
)

// Layer 6.
var (
	_ func(s string) bool                = obj.Name
	_ func(o api.Obj) bool               = obj.May
	_ func(o api.Obj) ([]byte, api.Code) = obj.Encode
	_ func(b []byte) (api.Obj, api.Code) = obj.Decode
	_ func(a, b api.Obj) bool            = obj.Same
)

// Layer 7.
var (
	_ func(l []api.Obj) (string, api.Code)                   = syms.Check
	_ func(l []api.Obj, in int, name string) (api.Def, bool) = syms.Find
	_ func(l []api.Obj) []string                             = syms.Outs
	_ func(l []api.Obj) []api.Def                            = syms.Entries
	_ func(l []api.Obj) []api.Def                            = syms.Used
)

// Layer 8.
var (
	_ func(l []api.Obj, text, data uint64) ([]api.Spot, api.Code)         = place.Spots
	_ func(l []api.Obj) (int, int)                                        = place.Sizes
	_ func(l []api.Obj, s []api.Spot, d api.Def) (uint64, bool)           = place.Address
	_ func(w uint32, kind int, p, v uint64) (uint32, api.Code)            = place.Relocate
	_ func(l []api.Obj, text, data uint64) ([]uint32, []uint64, api.Code) = place.Link
)

// Layer 9.
var (
	_ func(s string) ([]string, api.Code)     = lex.Words
	_ func(w string) (uint64, bool)           = lex.Number
	_ func(n uint64) string                   = lex.Digits
	_ func(l []string) bool                   = lex.Nested
	_ func(l []string) ([][]string, api.Code) = lex.Items
)

// Layer 10.
var (
	_ func(s string) (api.Prog, api.Code) = tree.Parse
	_ func(p api.Prog) (string, api.Code) = tree.Print
	_ func(a, b api.Prog) bool            = tree.Same
	_ func(name string) (int, bool)       = tree.Op
)

// Layer 11.
var (
	_ func(p api.Prog) api.Code        = sec.Check
	_ func(p api.Prog, f int) []string = sec.Secrets
	_ func(p api.Prog, f int) bool     = sec.Result
	_ func(p api.Prog, f int) int      = sec.Cost
)

// Layer 12.
var (
	_ func(p api.Prog, f int, args []uint64, w api.World) bool                    = sem.May
	_ func(p api.Prog, f int, args []uint64, w api.World) (api.Outcome, api.Code) = sem.Run
)

// Layer 13.
var (
	_ func(p api.Prog) ([]api.Routine, api.Code) = ir.Lower
	_ func(l []api.Routine, p api.Prog) bool     = ir.May
	_ func(a, b []api.Routine) bool              = ir.Same
)

// Layer 14.
var (
	_ func(l []api.Routine, p api.Prog, f int, args []uint64, w api.World, fuel int) (api.Outcome, []api.Leak, api.Code) = irsem.Run
	_ func(l []api.Routine, p api.Prog, f int, args []uint64, w api.World, fuel int) int                                 = irsem.Steps
)

// Layer 15.
var (
	_ func(r api.Routine) api.Routine                             = opt.Fold
	_ func(r api.Routine) api.Routine                             = opt.Sweep
	_ func(l []api.Routine, p api.Prog) ([]api.Routine, api.Code) = opt.All
)

// Layer 16.
var (
	_ func(r api.Routine) bool            = live.Whole
	_ func(r api.Routine, line int) []int = live.Next
	_ func(r api.Routine, line int) []int = live.Ahead
	_ func(r api.Routine) []api.Span      = live.Spans
)

// Layer 17.
var (
	_ func(l []api.Span) bool                    = regs.May
	_ func(l []api.Span, k int) ([]api.Loc, int) = regs.Assign
	_ func(l []api.Span, a, b int) bool          = regs.Apart
)

// Layer 18.
var (
	_ func(r api.Routine) int                             = gen.Frame
	_ func(r api.Routine) ([]uint32, []api.Rel, api.Code) = gen.Routine
	_ func(p api.Prog) (api.Obj, api.Code)                = gen.Compile
)

// Layer 19.
var (
	_ func(l api.Layout) bool                                           = wrap.May
	_ func(name string, params []int, l api.Layout) (api.Obj, api.Code) = wrap.Wrapper
	_ func(list []api.Obj, l api.Layout) (api.Obj, []int, api.Code)     = wrap.All
)

// Layer 20.
var (
	_ func(l []api.Obj, shared, context int) (api.Image, api.Code) = image.Link
	_ func(x api.Image) bool                                       = image.May
	_ func(x api.Image) []api.Region                               = image.Table
	_ func(l []api.Obj, name string) (int, bool)                   = image.Entry
)

// Layer 21.
var (
	_ func(x api.Image, data, shared []uint64, context []byte) (*mem.Mem, api.Code)                  = world.Load
	_ func(x api.Image, data, shared []uint64, context []byte, regs [32]uint64) (*cpu.Cpu, api.Code) = world.Start
	_ func(x api.Image, entry int, args, data, shared []uint64, fuel int) (api.Called, api.Code)     = world.Call
	_ func(m *mem.Mem, at uint64, n int) []uint64                                                    = world.Words
	_ func(x api.Image, e api.Event) bool                                                            = world.Right
)

// TestCodes: the chapters' promises tell codes and limits by these numbers.
func TestCodes(t *testing.T) {
	for i, c := range []api.Code{api.OK, api.Arg, api.Short, api.Malformed, api.Size, api.Range, api.Twice, api.Undefined, api.Typed, api.Secret, api.Overlap, api.Trapped, api.Fuel, api.Refused, api.Full} {
		if int(c) != i {
			t.Errorf("the %v-th code is %v", i, c)
		}
	}
	got := [8]int{api.MaxMem, api.MaxRegions, api.MaxText, api.MaxData, api.MaxName, api.MaxParams, api.MaxSource, api.MaxNest}
	if want := [8]int{65536, 16, 4096, 1024, 24, 6, 20000, 24}; got != want {
		t.Errorf("the limits are %v, not %v", got, want)
	}
}
