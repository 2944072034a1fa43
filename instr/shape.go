package instr

// A shape of instructions: what stands behind the opcode.
type shape int

const (
	unkept  shape = iota // nothing is known: it is none of the opcodes that are kept
	bare                 // nothing
	named                // nothing: the number is part of the name
	number1              // a number of a byte, with its sign
	number2              // a number of two bytes, with its sign
	small                // a number of a byte: a local, an entry of the pool, a kind of array
	entry                // an entry of the pool, of two bytes
	step                 // a local, and a number of a byte with its sign
	branch2              // an offset of two bytes
	branch4              // an offset of four bytes
	array                // an entry of the pool, dimensions
	call                 // an entry of the pool, a count, a nought
	table                // a switch that counts from low to high
	pairs                // a switch of keys and offsets
	prefix               // another opcode, whose operands are longer than its own
)

// iinc is the one instruction that has two operands to be made longer by wide.
const iinc = 132

// shapeOf tells the shape of an opcode's instruction.
func shapeOf(op int) shape {
	switch op {
	case 0, 1, // nop, aconst_null
		46, 47, 50, 51, 52, 53, // iaload, laload, aaload to saload
		79, 80, 83, 84, 85, 86, // iastore, lastore, aastore to sastore
		87, 88, 89, 90, 91, 92, 93, 94, 95, // pop to swap
		96, 97, 100, 101, 104, 105, 108, 109, 112, 113, 116, 117, // add to neg, of int and long
		120, 121, 122, 123, 124, 125, 126, 127, 128, 129, 130, 131, // ishl to lxor
		133, 136, 145, 146, 147, 148, // i2l, l2i, i2b to i2s, lcmp
		172, 173, 176, 177, // ireturn, lreturn, areturn, return
		190, 191, 194, 195: // arraylength, athrow, monitorenter, monitorexit
		return bare
	case 2, 3, 4, 5, 6, 7, 8, 9, 10, // iconst_m1 to iconst_5, lconst_0, lconst_1
		26, 27, 28, 29, 30, 31, 32, 33, // iload_0 to lload_3
		42, 43, 44, 45, // aload_0 to aload_3
		59, 60, 61, 62, 63, 64, 65, 66, // istore_0 to lstore_3
		75, 76, 77, 78: // astore_0 to astore_3
		return named
	case 16: // bipush
		return number1
	case 17: // sipush
		return number2
	case 18, // ldc
		21, 22, 25, 54, 55, 58, // iload, lload, aload, istore, lstore, astore
		188: // newarray
		return small
	case 19, 20, // ldc_w, ldc2_w
		178, 179, 180, 181, 182, 183, 184, // getstatic to invokestatic
		187, 189, 192, 193: // new, anewarray, checkcast, instanceof
		return entry
	case iinc:
		return step
	case 153, 154, 155, 156, 157, 158, 159, 160, 161, 162, 163, 164, 165, 166, // ifeq to if_acmpne
		167, 198, 199: // goto, ifnull, ifnonnull
		return branch2
	case 200: // goto_w
		return branch4
	case 197: // multianewarray
		return array
	case 185: // invokeinterface
		return call
	case 170: // tableswitch
		return table
	case 171: // lookupswitch
		return pairs
	case 196: // wide
		return prefix
	}
	return unkept
}

// operandBytes tells how many bytes stand behind the opcode, of the shapes
// that have always as many.
func operandBytes(s shape) int {
	switch s {
	case number1, small:
		return 1
	case number2, entry, step, branch2:
		return 2
	case array:
		return 3
	case branch4, call:
		return 4
	}
	return 0
}

// inName tells the number that is part of an instruction's name.
func inName(op int) int {
	switch {
	case op <= 8: // iconst_m1 to iconst_5
		return op - 3
	case op <= 10: // lconst_0, lconst_1
		return op - 9
	case op <= 45: // iload_0 on, four of each kind
		return (op - 26) % 4
	default: // istore_0 on, four of each kind
		return (op - 59) % 4
	}
}

// widens tells whether wide may stand ahead of an opcode.
func widens(op int) bool {
	switch op {
	case 21, 22, 25, 54, 55, 58, iinc: // those of a local
		return true
	}
	return false
}
