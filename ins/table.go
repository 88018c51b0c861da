package ins

import "caponier/api"

// Where a word has what. A field that a form doesn't have belongs to its number.
const (
	wordBits     = 32
	firstBits    = 7
	rdAt         = 7
	kindAt       = 12
	kindBits     = 3
	rs1At        = 15
	rs2At        = 20
	registerBits = 5
)

// The shapes of words: the forms, but that shifts by a number have one of their own, though their form is I.
const (
	shapeR = iota
	shapeI
	shapeShift
	shapeS
	shapeB
	shapeU
	shapeJ
	shapeE
)

// part is a part of a number: its bits from one on, n of them, lie in the word at a bit. Of no bits: there is none.
type part struct {
	from, n, at int
}

// layout is how a word of a shape is divided: its form's letter, the fields that it has, from which bit on the rest tells the operation (wordBits: nowhere), by how many bits its number is signed (0: it isn't), and where that lies.
type layout struct {
	letter             string
	rd, rs1, rs2, kind bool
	rest               int
	signed             int
	parts              [4]part
}

var layouts = [...]layout{
	shapeR:     {letter: "R", rd: true, rs1: true, rs2: true, kind: true, rest: 25},
	shapeI:     {letter: "I", rd: true, rs1: true, kind: true, rest: wordBits, signed: 12, parts: [4]part{{0, 12, 20}}},
	shapeShift: {letter: "I", rd: true, rs1: true, kind: true, rest: 26, parts: [4]part{{0, 6, 20}}},
	shapeS:     {letter: "S", rs1: true, rs2: true, kind: true, rest: wordBits, signed: 12, parts: [4]part{{0, 5, 7}, {5, 7, 25}}},
	shapeB:     {letter: "B", rs1: true, rs2: true, kind: true, rest: wordBits, signed: 13, parts: [4]part{{1, 4, 8}, {5, 6, 25}, {11, 1, 7}, {12, 1, 31}}},
	shapeU:     {letter: "U", rd: true, rest: wordBits, signed: 32, parts: [4]part{{12, 20, 12}}},
	shapeJ:     {letter: "J", rd: true, rest: wordBits, signed: 21, parts: [4]part{{1, 10, 21}, {11, 1, 20}, {12, 8, 12}, {20, 1, 31}}},
	shapeE:     {letter: "E", rest: firstBits}, // all of the word tells it
}

// told is what tells an operation: its shape, the first field, the kind, and the rest; 0, where the shape has none.
type told struct {
	shape             int
	first, kind, rest uint32
}

var operations = [...]told{
	api.Add:    {shapeR, 0x33, 0, 0},
	api.Sub:    {shapeR, 0x33, 0, 0x20},
	api.Sll:    {shapeR, 0x33, 1, 0},
	api.Slt:    {shapeR, 0x33, 2, 0},
	api.Sltu:   {shapeR, 0x33, 3, 0},
	api.Xor:    {shapeR, 0x33, 4, 0},
	api.Srl:    {shapeR, 0x33, 5, 0},
	api.Sra:    {shapeR, 0x33, 5, 0x20},
	api.Or:     {shapeR, 0x33, 6, 0},
	api.And:    {shapeR, 0x33, 7, 0},
	api.Mul:    {shapeR, 0x33, 0, 1},
	api.Mulhu:  {shapeR, 0x33, 3, 1},
	api.Div:    {shapeR, 0x33, 4, 1},
	api.Divu:   {shapeR, 0x33, 5, 1},
	api.Rem:    {shapeR, 0x33, 6, 1},
	api.Remu:   {shapeR, 0x33, 7, 1},
	api.Addi:   {shapeI, 0x13, 0, 0},
	api.Slti:   {shapeI, 0x13, 2, 0},
	api.Sltiu:  {shapeI, 0x13, 3, 0},
	api.Xori:   {shapeI, 0x13, 4, 0},
	api.Ori:    {shapeI, 0x13, 6, 0},
	api.Andi:   {shapeI, 0x13, 7, 0},
	api.Slli:   {shapeShift, 0x13, 1, 0},
	api.Srli:   {shapeShift, 0x13, 5, 0},
	api.Srai:   {shapeShift, 0x13, 5, 0x10},
	api.Lb:     {shapeI, 0x03, 0, 0},
	api.Lbu:    {shapeI, 0x03, 4, 0},
	api.Lw:     {shapeI, 0x03, 2, 0},
	api.Ld:     {shapeI, 0x03, 3, 0},
	api.Sb:     {shapeS, 0x23, 0, 0},
	api.Sw:     {shapeS, 0x23, 2, 0},
	api.Sd:     {shapeS, 0x23, 3, 0},
	api.Beq:    {shapeB, 0x63, 0, 0},
	api.Bne:    {shapeB, 0x63, 1, 0},
	api.Blt:    {shapeB, 0x63, 4, 0},
	api.Bge:    {shapeB, 0x63, 5, 0},
	api.Bltu:   {shapeB, 0x63, 6, 0},
	api.Bgeu:   {shapeB, 0x63, 7, 0},
	api.Lui:    {shapeU, 0x37, 0, 0},
	api.Auipc:  {shapeU, 0x17, 0, 0},
	api.Jal:    {shapeJ, 0x6f, 0, 0},
	api.Jalr:   {shapeI, 0x67, 0, 0},
	api.Ebreak: {shapeE, 0x73, 0, 0x2000}, // the word 0x00100073
}
