import unittest

from samples import REFUSALS

from turnframe import errors


def made(refusal):
    return refusal(3) if refusal == errors.NoInverse else refusal("words")


class Refusals(unittest.TestCase):

    def test_all_stand_under_frame_error_and_value_error(self):
        self.assertTrue(issubclass(errors.FrameError, ValueError))
        self.assertEqual(len(set(REFUSALS)), 8)
        for refusal in REFUSALS:
            self.assertTrue(issubclass(refusal, errors.FrameError), refusal)
            self.assertNotEqual(refusal, errors.FrameError)

    def test_none_stands_under_another_one(self):
        for refusal in REFUSALS:
            under = [each for each in REFUSALS if issubclass(refusal, each)]
            self.assertEqual(under, [refusal])

    def test_each_is_raised_and_taken_by_its_name(self):
        for refusal in REFUSALS + (errors.FrameError,):
            with self.assertRaises(refusal):
                raise made(refusal)

    def test_no_inverse_has_its_rank(self):
        for rank in range(7):
            self.assertEqual(errors.NoInverse(rank).rank, rank)
        self.assertIn("2", str(errors.NoInverse(2)))


if __name__ == "__main__":
    unittest.main()
