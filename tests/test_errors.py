import unittest

from leastpull.errors import FlowError, GraphError, LeastpullError, TextError


class ErrorsTest(unittest.TestCase):
    def test_the_base_class_is_a_value_error(self):
        self.assertTrue(issubclass(LeastpullError, ValueError))
        with self.assertRaises(LeastpullError):
            raise LeastpullError("any words")

    def test_fields_of_a_graph_error(self):
        error = GraphError(3, "too wide")
        self.assertEqual((error.node, error.reason), (3, "too wide"))
        named = GraphError(reason="too long", node=4)
        self.assertEqual((named.node, named.reason), (4, "too long"))

    def test_field_of_a_text_error(self):
        self.assertEqual(TextError(7).line, 7)
        self.assertEqual(TextError(line=0).line, 0)

    def test_field_of_a_flow_error(self):
        self.assertEqual(FlowError("wrong readers").reason, "wrong readers")
        self.assertEqual(FlowError(reason="wrong rules").reason, "wrong rules")

    def test_each_is_caught_as_the_base_class_and_as_a_value_error(self):
        for error in (GraphError(0, "too wide"), TextError(0), FlowError("wrong readers")):
            for base in (LeastpullError, ValueError):
                with self.assertRaises(base):
                    raise error

    def test_none_is_a_subclass_of_another_one(self):
        classes = (GraphError, TextError, FlowError)
        for one in classes:
            self.assertTrue(issubclass(one, LeastpullError))
            for other in classes:
                self.assertEqual(issubclass(one, other), one is other)


if __name__ == "__main__":
    unittest.main()
