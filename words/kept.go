package words

import "sync"

// The table that stands for good: once sees to it that it is made at its first use, and only then. No answer is worked out from it: a call makes rows of its own (Rows), so that it hangs on its arguments alone.
var (
	once  sync.Once
	table []Word
)

// Kept tells how many rows stand in the table.
func Kept() int {
	once.Do(func() { table = Rows() })
	return len(table)
}
